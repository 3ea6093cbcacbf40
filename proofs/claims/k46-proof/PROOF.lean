import PyProof.Rows.All
import Wide.All
import OpenK.AllK
import Wide.FinOn
import Lean
import PyProof.EqAt
import PyProof.EqKinds
import PyProof.TupleCall
import PyProof.NeKinds
import PySem.Challenge.RW_oddbases_k46_machine_rows
set_option Elab.async false
set_option linter.all false
set_option maxRecDepth 100000
namespace L2
open PySem PySem.Spec PyProof.Rows

abbrev Key := Sum Int Str
def keyIs : Key → Value → Bool
  | .inl k, v => Value.isInt k v
  | .inr x, v => Value.isStrOf x v
def keyH (w : World) : Key → Int
  | .inl k => hashInt k
  | .inr x => hashStr w x
theorem keyIs_shape : ∀ {k : Key} {v : Value}, keyIs k v = true → (∃ i t, k = Sum.inl i ∧ v = Value.int i t) ∨ (∃ x t, k = Sum.inr x ∧ v = Value.str x t)
  | .inl i, v, h => by
    obtain ⟨t, e⟩ := Value.isInt_shape (k := i) (v := v) h
    exact .inl ⟨i, t, rfl, e⟩
  | .inr x, v, h => by
    obtain ⟨t, e⟩ := Value.isStrOf_shape (x := x) (v := v) h
    exact .inr ⟨x, t, rfl, e⟩
theorem key_ll (a b : Int) : decide ((Sum.inl a : Key) = Sum.inl b) = (a == b) := by
  by_cases e : a = b
  · subst e; simp
  · have h : ¬ (Sum.inl a : Key) = Sum.inl b := fun q => e (Sum.inl.inj q)
    rw [decide_eq_false h]
    exact (beq_eq_false_iff_ne.mpr e).symm
theorem key_rr (a b : Str) : decide ((Sum.inr a : Key) = Sum.inr b) = decide (a = b) := by
  by_cases e : a = b
  · subst e; simp
  · have h : ¬ (Sum.inr a : Key) = Sum.inr b := fun q => e (Sum.inr.inj q)
    rw [decide_eq_false h, decide_eq_false e]
theorem key_lr (a : Int) (b : Str) : decide ((Sum.inl a : Key) = Sum.inr b) = false := decide_eq_false (fun q => nomatch q)
theorem key_rl (a : Str) (b : Int) : decide ((Sum.inr a : Key) = Sum.inl b) = false := decide_eq_false (fun q => nomatch q)

def mixKind (prog : Program) (w : World) : PySem.KeyKind prog w Key where
  is := keyIs
  hash := keyH w
  inj := fun v a b ha hb => by
    rcases keyIs_shape ha with ⟨i, t, rfl, rfl⟩ | ⟨x, t, rfl, rfl⟩
    · rcases keyIs_shape hb with ⟨j, u, rfl, e⟩ | ⟨y, u, rfl, e⟩
      · injection e with e1 _; rw [e1]
      · exact nomatch e
    · rcases keyIs_shape hb with ⟨j, u, rfl, e⟩ | ⟨y, u, rfl, e⟩
      · exact nomatch e
      · injection e with e1 _; rw [e1]
  byValue := fun k v h => by
    rcases keyIs_shape h with ⟨i, t, rfl, rfl⟩ | ⟨x, t, rfl, rfl⟩ <;> rfl
  pyHash := fun hv h => by
    rcases keyIs_shape hv with ⟨i, t, rfl, rfl⟩ | ⟨x, t, rfl, rfl⟩
    · exact wpAny_pyHash_int h
    · exact wpAny_pyHash_str h
  eqBool := fun hu hv h => by
    rcases keyIs_shape hu with ⟨i, t, rfl, rfl⟩ | ⟨x, t, rfl, rfl⟩
    · rcases keyIs_shape hv with ⟨j, u, rfl, rfl⟩ | ⟨y, u, rfl, rfl⟩
      · rw [key_ll] at h; exact wpAny_eqBool_int h
      · rw [key_lr] at h; exact SeqAt.EqAt.int_str i t y u _ _ _ _ h
    · rcases keyIs_shape hv with ⟨j, u, rfl, rfl⟩ | ⟨y, u, rfl, rfl⟩
      · rw [key_rl] at h; exact SeqAt.EqAt.str_int x t j u _ _ _ _ h
      · rw [key_rr] at h; exact wpAny_eqBool_str h
  «strs» := fun k x t v h => by
    rcases keyIs_shape h with ⟨i, u, rfl, e⟩ | ⟨y, u, rfl, e⟩
    · exact nomatch e
    · injection e with e1 _
      subst e1
      cases v <;> rfl

end L2

namespace L2
open PySem PySem.Spec PyProof.Rows

inductive V where
  | non | bl (b : Bool) | int (i : Int) | str (x : Str) | byt (b : Array UInt8) | flt (b : UInt64) | ref (a : Addr) | ty (n : String)
  deriving DecidableEq

def RelV : V → Value → Prop
  | .non, u => u = Value.none
  | .bl b, u => u = Value.bool b
  | .int i, u => ∃ t, u = Value.int i t
  | .str x, u => ∃ t, u = Value.str x t
  | .byt b, u => ∃ t, u = Value.bytes b t
  | .flt b, u => ∃ t, u = Value.float b t
  | .ref a, u => u = Value.ref a
  | .ty n, u => u = Value.type n

abbrev Vals : List V → List Value → Prop := Paired RelV
theorem Vals.length {xs : List V} {us : List Value} (r : Vals xs us) : xs.length = us.length := Paired.length r
theorem Vals.get : ∀ {xs : List V} {us : List Value} {i : Nat} {x : V}, Vals xs us → xs[i]? = some x → ∃ u, us[i]? = some u ∧ RelV x u
  | _, _, _, _, .nil, e => by simp at e
  | _, _, 0, _, .cons r _, e => by simp at e; subst e; exact ⟨_, rfl, r⟩
  | _, _, i + 1, x, .cons _ t, e => by
    obtain ⟨u, h1, h2⟩ := Vals.get (i := i) (x := x) t (by simpa using e)
    exact ⟨u, by simpa using h1, h2⟩
theorem Vals.set {x : V} {u : Value} (r : RelV x u) : ∀ {xs : List V} {us : List Value} (i : Nat), Vals xs us → Vals (xs.set i x) (us.set i u)
  | _, _, _, .nil => .nil
  | _, _, 0, .cons _ t => .cons r t
  | _, _, i + 1, .cons q t => .cons q (Vals.set r i t)
theorem Vals.append : ∀ {xs ys : List V} {us ws : List Value}, Vals xs us → Vals ys ws → Vals (xs ++ ys) (us ++ ws)
  | _, _, _, _, .nil, s => s
  | _, _, _, _, .cons r t, s => .cons r (Vals.append t s)
theorem Vals.take : ∀ {xs : List V} {us : List Value} (n : Nat), Vals xs us → Vals (xs.take n) (us.take n)
  | _, _, 0, _ => .nil
  | _, _, _ + 1, .nil => .nil
  | _, _, n + 1, .cons r t => .cons r (Vals.take n t)
theorem Vals.drop : ∀ {xs : List V} {us : List Value} (n : Nat), Vals xs us → Vals (xs.drop n) (us.drop n)
  | _, _, 0, r => r
  | _, _, _ + 1, .nil => .nil
  | _, _, n + 1, .cons _ t => Vals.drop n t
theorem Vals.none_of : ∀ {xs : List V} {us : List Value} {i : Nat}, Vals xs us → xs[i]? = none → us[i]? = none := fun {xs us i} r e => by
  have h1 := r.length
  have h2 : xs.length ≤ i := List.getElem?_eq_none_iff.mp e
  exact List.getElem?_eq_none_iff.mpr (by omega)

def RelO : Option V → Option Value → Prop
  | some v, some u => RelV v u
  | none, none => True
  | _, _ => False
def KV {κ : Type} : List (κ × V) → List (κ × Value) → Prop := Paired fun (p : κ × V) (q : κ × Value) => p.1 = q.1 ∧ RelV p.2 q.2

def kV : Key → V
  | .inl i => .int i
  | .inr x => .str x

inductive HO where
  /-- a list -/
  | lst (xs : List V)
  /-- a tuple (never changes) -/
  | tup (xs : List V)
  /-- a dict whose keys are ints and texts; one whose keys are tuples of ints and texts (the empty one is both) -/
  | dK (kvs : List (Key × V)) | dT (kvs : List (List Key × V))
  /-- a set of ints: its members, its size -/
  | set (S : Int → Bool) (n : Nat)
  /-- an instance of the class at C, its dict at dx, its attributes -/
  | ins (C dx : Addr) (fs : List (Str × V))
  /-- the dict of the instance at x -/
  | own (x : Addr)
  /-- the dict of an exception -/
  | xd (fs : List (Str × V))
  /-- a bound method, f of x -/
  | met (f x : Addr)
  /-- a range object lo, lo + 1, .. below hi -/
  | rng (lo hi : Int)
  /-- a thing that is known to the object (the script; a dict while a loop walks it): read, never written while it is so -/
  | frz (o : Obj) (u : HO)
  /-- a code object's table -/
  | tbl (ps : Array Value)
  /-- any other thing, by what is true of its one object (a def of one's own: SetO a S n := HO.ext fun h => ..) -/
  | ext (φ : Heap → Prop)

abbrev Hp := Addr → Option HO
def upd (H : Hp) (a : Addr) (o : HO) : Hp := fun b => if b = a then some o else H b
theorem upd_same {H : Hp} {a : Addr} {o : HO} : upd H a o a = some o := by unfold upd; rw [if_pos rfl]
theorem upd_ne {H : Hp} {a b : Addr} {o : HO} (h : b ≠ a) : upd H a o b = H b := by unfold upd; rw [if_neg h]
theorem ne_of_none {H : Hp} {a b : Addr} {o : HO} (h : H a = some o) (h' : H b = none) : a ≠ b := by
  intro e; subst e; rw [h] at h'; cases h'

section
variable (P : Program) (w : World)
def ObjOk (H : Hp) (h : Heap) (a : Addr) : HO → Prop
  | .lst xs => xs.length ≤ sizeLine ∧ ∃ (its : List Value) (n : Nat), Vals xs its ∧ h.get? a = some { cls := .type "list", data := .seq its.toArray n }
  | .tup xs => xs.length ≤ sizeLine ∧ ∃ its : List Value, Vals xs its ∧ IsTup h a its.toArray
  | .dK kvs => kvs.length ≤ sizeLine ∧ (a == sysModules) = false ∧ ∃ vs, KV kvs vs ∧ h.DictOf (mixKind P w) a vs
  | .dT kvs => kvs.length ≤ sizeLine ∧ (a == sysModules) = false ∧ ∃ xs : List (List Key × Addr × Value),
      Paired (fun (p : List Key × V) (q : List Key × Addr × Value) => p.1 = q.1 ∧ H q.2.1 = some (.tup (p.1.map kV)) ∧ RelV p.2 q.2.2) kvs xs ∧
      ∃ o es ep, h.get? a = some o ∧ o.ExactDict ∧ o.data = .dict es ep ∧ es.toList = xs.map (entryOfKey (tupleKind (mixKind P w))) ∧ (xs.map (·.1)).Nodup
  | .set S n => h.SetOf (intKind P w) a S n
  | .ins C dx fs => H dx = some (.own a) ∧ fs.length ≤ 1000 ∧ dx ≠ a ∧ h.get? a = some (PySem.W.instObj C dx) ∧
      ∃ mA, h.Ns1 dx mA ∧ (∀ f, RelO (fs.lookup f) (mA f)) ∧ PySem.Within mA (fs.map (·.1))
  | .own _ => ∃ o, h.get? a = some o
  | .xd fs => ∃ mA, h.Ns1 a mA ∧ ∀ f, RelO (fs.lookup f) (mA f)
  | .rng lo hi => ∃ t u v, h.get? a = some { cls := .type "range", data := .fields #[.int lo t, .int hi u, .int 1 v] }
  | .frz o u => h.get? a = some o ∧ ObjOk H h a u
  | .tbl ps => h.get? a = some { cls := .none, data := .fields ps }
  | .met f x => h.get? a = some (PySem.W.methodObj (.ref f) (.ref x))
  | .ext φ => φ h ∧ (∃ o, h.get? a = some o) ∧ ∀ h1 h2 : Heap, φ h1 → (∀ o, h1.get? a = some o → h2.get? a = some o) → φ h2
def HOk (H : Hp) (h : Heap) : Prop := ∀ a o, H a = some o → ObjOk P w H h a o
end

section
variable {P : Program} {w : World} {H H' : Hp} {h h' : Heap} {a : Addr} {o : HO}
theorem ObjOk.lt (x : ObjOk P w H h a o) : a < h.objs.size := by
  cases o with
  | lst xs => obtain ⟨_, _, _, _, e⟩ := x; exact Heap.lt_size e
  | tup xs => obtain ⟨_, _, _, p⟩ := x; exact p.lt
  | dK kvs => obtain ⟨_, _, _, _, o, _, _, e, _⟩ := x; exact Heap.lt_size e
  | dT kvs => obtain ⟨_, _, _, _, o, _, _, e, _⟩ := x; exact Heap.lt_size e
  | set S n => obtain ⟨o, _, _, _, e, _⟩ := x; exact Heap.lt_size e
  | ins C dx fs => obtain ⟨_, _, _, e, _⟩ := x; exact Heap.lt_size e
  | own y => obtain ⟨_, e⟩ := x; exact Heap.lt_size e
  | xd fs => obtain ⟨_, ⟨_, _, _, e, _⟩, _⟩ := x; exact Heap.lt_size e
  | rng lo hi => obtain ⟨_, _, _, e⟩ := x; exact Heap.lt_size e
  | frz ob u => obtain ⟨e, _⟩ := x; exact Heap.lt_size e
  | tbl ps => exact Heap.lt_size (show h.get? a = some _ from x)
  | met f y => exact Heap.lt_size (show h.get? a = some _ from x)
  | ext φ => obtain ⟨_, ⟨_, e⟩, _⟩ := x; exact Heap.lt_size e
theorem Paired.mapP {α β : Type} {F G : α → β → Prop} : ∀ {l₁ : List α} {l₂ : List β}, Paired F l₁ l₂ → (∀ a b, F a b → G a b) → Paired G l₁ l₂
  | _, _, .nil, _ => .nil
  | _, _, .cons r t, f => .cons (f _ _ r) (Paired.mapP t f)
theorem ObjOk.stay (x : ObjOk P w H h a o) (k : ∀ b u, (b = a ∨ H b = some (.own a)) → h.get? b = some u → h'.get? b = some u)
    (ho : ∀ b, H b = some (.own a) → H' b = some (.own a)) (ht : ∀ b xs, H b = some (.tup xs) → H' b = some (.tup xs)) : ObjOk P w H' h' a o := by
  induction o with
  | lst xs => obtain ⟨z, its, n, r, e⟩ := x; exact ⟨z, its, n, r, k _ _ (.inl rfl) e⟩
  | tup xs => obtain ⟨z, its, r, ob, e, c⟩ := x; exact ⟨z, its, r, ob, k _ _ (.inl rfl) e, c⟩
  | dK kvs => obtain ⟨z, y, vs, r, ob, es, ep, e, c⟩ := x; exact ⟨z, y, vs, r, ob, es, ep, k _ _ (.inl rfl) e, c⟩
  | dT kvs =>
    obtain ⟨z, y, xs, r, ob, es, ep, e, c⟩ := x
    exact ⟨z, y, xs, Paired.mapP r fun p q z => ⟨z.1, ht _ _ z.2.1, z.2.2⟩, ob, es, ep, k _ _ (.inl rfl) e, c⟩
  | set S n => obtain ⟨ob, es, ep, t, e, c⟩ := x; exact ⟨ob, es, ep, t, k _ _ (.inl rfl) e, c⟩
  | ins C dx fs =>
    obtain ⟨d, z, ne, e, mA, ⟨od, es, ep, e2, c⟩, r⟩ := x
    exact ⟨ho _ d, z, ne, k _ _ (.inl rfl) e, mA, ⟨od, es, ep, k _ _ (.inr d) e2, c⟩, r⟩
  | own y => obtain ⟨ob, e⟩ := x; exact ⟨ob, k _ _ (.inl rfl) e⟩
  | xd fs => obtain ⟨mA, ⟨od, es, ep, e, c⟩, r⟩ := x; exact ⟨mA, ⟨od, es, ep, k _ _ (.inl rfl) e, c⟩, r⟩
  | rng lo hi => obtain ⟨t, u, v, e⟩ := x; exact ⟨t, u, v, k _ _ (.inl rfl) e⟩
  | frz ob u ih => obtain ⟨e, q⟩ := x; exact ⟨k _ _ (.inl rfl) e, ih q⟩
  | tbl ps =>
    have e : h.get? a = some { cls := .none, data := .fields ps } := x
    show h'.get? a = some { cls := .none, data := .fields ps }
    exact k a _ (.inl rfl) e
  | met f y =>
    have e : h.get? a = some (PySem.W.methodObj (.ref f) (.ref y)) := x
    show h'.get? a = some (PySem.W.methodObj (.ref f) (.ref y))
    exact k a _ (.inl rfl) e
  | ext φ => obtain ⟨p, ⟨o, e⟩, st⟩ := x; exact ⟨st _ _ p fun o q => k _ _ (.inl rfl) q, ⟨o, k _ _ (.inl rfl) e⟩, st⟩
theorem HOk.lt (x : HOk P w H h) (e : H a = some o) : a < h.objs.size := (x a o e).lt
theorem HOk.fresh (x : HOk P w H h) (e : h.objs.size ≤ a) : H a = none := by
  cases q : H a with
  | none => rfl
  | some u => exact absurd (Nat.lt_of_lt_of_le (x.lt q) e) (Nat.lt_irrefl _)
theorem HOk.kept (x : HOk P w H h) (k : ∀ b u, h.get? b = some u → h'.get? b = some u) : HOk P w H h' := fun a o e =>
  (x a o e).stay (fun b u _ q => k b u q) (fun _ q => q) fun _ _ q => q
theorem HOk.laid (x : HOk P w H h) (k : ∀ b u, h.get? b = some u → h'.get? b = some u) (hp : h.objs.size ≤ a) (new : ObjOk P w (upd H a o) h' a o) : HOk P w (upd H a o) h' := fun b u e => by
  have hn := x.fresh hp
  by_cases hb : b = a
  · subst hb; rw [upd_same] at e; cases e; exact new
  · rw [upd_ne hb] at e
    exact (x b u e).stay (fun c v _ q => k c v q) (fun c q => by rw [upd_ne (ne_of_none q hn)]; exact q) fun c xs q => by rw [upd_ne (ne_of_none q hn)]; exact q
end

def Rd (H : Hp) (a : Addr) (u : HO) : Prop := H a = some u ∨ ∃ o, H a = some (.frz o u)
theorem Rd.of {H : Hp} {a : Addr} {u : HO} (h : H a = some u) : Rd H a u := .inl h
theorem Rd.ok {P : Program} {w : World} {H : Hp} {h : Heap} {a : Addr} {u : HO} (r : Rd H a u) (x : HOk P w H h) : ObjOk P w H h a u := by
  rcases r with r | ⟨o, r⟩
  · exact x a u r
  · obtain ⟨_, q⟩ := x a _ r
    exact q
def Mut : Option HO → Prop
  | some (.lst _) => True
  | some (.dK _) => True
  | some (.dT _) => True
  | some (.set _ _) => True
  | some (.ins _ _ _) => True
  | some (.ext _) => True
  | _ => False
section
variable {P : Program} {w : World} {H : Hp} {h h' : Heap} {x e : Addr} {o' : HO}
theorem HOk.write (ok : HOk P w H h) (mu : Mut (H x)) (he : e = x ∨ H e = some (.own x)) (k : ∀ b u, b ≠ e → h.get? b = some u → h'.get? b = some u) (heo : ∃ u, h'.get? e = some u)
    (new : ObjOk P w (upd H x o') h' x o') : HOk P w (upd H x o') h' := fun b u q => by
  have nown : ∀ c y, H c = some (.own y) → c ≠ x := fun c y r z => by subst z; rw [r] at mu; exact mu
  have ntup : ∀ c xs, H c = some (.tup xs) → c ≠ x := fun c xs r z => by subst z; rw [r] at mu; exact mu
  by_cases hb : b = x
  · subst hb; rw [upd_same] at q; cases q; exact new
  · rw [upd_ne hb] at q
    by_cases hbe : b = e
    · have q' : H b = some (.own x) := by
        rcases he with z | z
        · exact absurd (hbe.trans z) hb
        · rw [hbe]; exact z
      rw [q] at q'; cases q'
      obtain ⟨v, hv⟩ := heo
      exact ⟨v, by rw [hbe]; exact hv⟩
    · refine (ok b u q).stay (fun c v hc r => k c v ?_ r) (fun c r => by rw [upd_ne (nown c b r)]; exact r) fun c xs r => by rw [upd_ne (ntup c xs r)]; exact r
      rcases hc with rfl | hc
      · exact hbe
      · rintro rfl
        rcases he with z | z
        · exact nown c b hc z
        · rw [hc] at z; cases z; exact hb rfl
end

structure Un (fs ex : List Addr) (H H' : Hp) (h h' : Heap) : Prop where
  keep : ∀ b o, h.get? b = some o → H b = none → b ∉ fs → b ∉ ex → h'.get? b = some o
  slot : ∀ b o, h.get? b = some o → H b = none → b ∈ fs → b ∉ ex → ∃ sl, h'.get? b = some { o with slots := sl }
  free : ∀ b o, h.get? b = some o → H b = none → b ∉ ex → H' b = none
  there : ∀ b o, h.get? b = some o → b ∉ ex → ∃ o', h'.get? b = some o'
  tups : ∀ b xs, H b = some (.tup xs) → H' b = some (.tup xs)
  frzs : ∀ b o u, H b = some (.frz o u) → H' b = some (.frz o u)
  tbls : ∀ b ps, H b = some (.tbl ps) → ∃ more, H' b = some (.tbl (ps ++ more))
section
variable {fs fs' ex ex' : List Addr} {H H1 H2 : Hp} {h h1 h2 h' : Heap} {a x e : Addr} {o : HO}
theorem Un.any (u : Un fs ex H H1 h h1) {b : Addr} {ob : Obj} (q : h.get? b = some ob) (n : H b = none) (hx : b ∉ ex) : ∃ sl, h1.get? b = some { ob with slots := sl } := by
  by_cases hb : b ∈ fs
  · exact u.slot b ob q n hb hx
  · exact ⟨ob.slots, u.keep b ob q n hb hx⟩
theorem Un.trans (a : Un fs ex H H1 h h1) (b : Un fs ex H1 H2 h1 h2) : Un fs ex H H2 h h2 where
  keep := fun c ob q n hc hx => b.keep c ob (a.keep c ob q n hc hx) (a.free c ob q n hx) hc hx
  slot := fun c ob q n hc hx => by
    obtain ⟨sl, e1⟩ := a.slot c ob q n hc hx
    obtain ⟨sl', e2⟩ := b.slot c _ e1 (a.free c ob q n hx) hc hx
    exact ⟨sl', e2⟩
  free := fun c ob q n hx => by
    obtain ⟨o', e1⟩ := a.there c ob q hx
    exact b.free c o' e1 (a.free c ob q n hx) hx
  there := fun c ob q hx => by
    obtain ⟨o', e1⟩ := a.there c ob q hx
    exact b.there c o' e1 hx
  tups := fun c xs q => b.tups c xs (a.tups c xs q)
  frzs := fun c ob xs q => b.frzs c ob xs (a.frzs c ob xs q)
  tbls := fun c ps q => by
    obtain ⟨m1, e1⟩ := a.tbls c ps q
    obtain ⟨m2, e2⟩ := b.tbls c _ e1
    exact ⟨m1 ++ m2, by rw [e2, Array.append_assoc]⟩
theorem Un.kept (k : ∀ b u, h.get? b = some u → h'.get? b = some u) : Un fs ex H H h h' :=
  ⟨fun b ob q _ _ _ => k b ob q, fun b ob q _ _ _ => ⟨ob.slots, k b ob q⟩, fun _ _ _ n _ => n, fun b ob q _ => ⟨ob, k b ob q⟩, fun _ _ q => q, fun _ _ _ q => q, fun _ ps q => ⟨#[], by rw [q]; simp⟩⟩
theorem Un.refl : Un fs ex H H h h := Un.kept fun _ _ q => q
theorem Un.laid (k : ∀ b u, h.get? b = some u → h'.get? b = some u) (hp : h.objs.size ≤ a) (hn : H a = none) : Un fs ex H (upd H a o) h h' where
  keep := fun b u q _ _ _ => k b u q
  slot := fun b u q _ _ _ => ⟨u.slots, k b u q⟩
  free := fun b u q n _ => by rw [upd_ne (Nat.ne_of_lt (Nat.lt_of_lt_of_le (Heap.lt_size q) hp))]; exact n
  there := fun b u q _ => ⟨u, k b u q⟩
  tups := fun b xs q => by rw [upd_ne (ne_of_none q hn)]; exact q
  frzs := fun b u xs q => by rw [upd_ne (ne_of_none q hn)]; exact q
  tbls := fun b ps q => ⟨#[], by rw [upd_ne (ne_of_none q hn), q]; simp⟩
theorem Un.write (mu : Mut (H x)) (he : e = x ∨ H e = some (.own x)) (k : ∀ b u, b ≠ e → h.get? b = some u → h'.get? b = some u) (heo : ∃ u, h'.get? e = some u) : Un fs ex H (upd H x o) h h' := by
  have hx : ∀ b, H b = none → b ≠ x := fun b n z => by subst z; rw [n] at mu; exact mu
  have hb : ∀ b, H b = none → b ≠ e := fun b n z => by
    subst z
    rcases he with r | r
    · exact hx b n r
    · rw [n] at r; cases r
  have hm : ∀ b u, H b = some u → ¬ Mut (some u) → b ≠ x := fun b u q nm z => by subst z; rw [q] at mu; exact nm mu
  refine ⟨fun b u q n _ _ => k b u (hb b n) q, fun b u q n _ _ => ⟨u.slots, k b u (hb b n) q⟩, fun b u q n _ => by rw [upd_ne (hx b n)]; exact n, fun b u q _ => ?_,
    fun b xs q => by rw [upd_ne (hm b _ q fun z => z)]; exact q, fun b u xs q => by rw [upd_ne (hm b _ q fun z => z)]; exact q, fun b ps q => ⟨#[], by rw [upd_ne (hm b _ q fun z => z), q]; simp⟩⟩
  by_cases hbe : b = e
  · subst hbe; exact heo
  · exact ⟨u, k b u hbe q⟩
theorem Un.mono (u : Un fs ex H H1 h h1) (hs : ∀ b ∈ fs, b ∈ fs') (hx : ∀ b ∈ ex, b ∈ ex') : Un fs' ex' H H1 h h1 :=
  ⟨fun b ob q n hb he => u.keep b ob q n (fun z => hb (hs b z)) fun z => he (hx b z), fun _ _ q n _ he => u.any q n fun z => he (hx _ z), fun b ob q n he => u.free b ob q n fun z => he (hx b z), fun b ob q he => u.there b ob q fun z => he (hx b z), u.tups, u.frzs, u.tbls⟩
end

def trk (h : Heap) (H : Hp) : List Addr := (List.range h.objs.size).filter fun a => (H a).isSome
def hidT (h : Heap) (H : Hp) : Heap := PySem.W.hideAll h (trk h H)
theorem hidT_size (h : Heap) (H : Hp) : (hidT h H).objs.size = h.objs.size := PySem.W.hideAll_size _ _
theorem hidT_get {h : Heap} {H : Hp} {b : Addr} {o : Obj} (e : h.get? b = some o) (n : H b = none) : (hidT h H).get? b = some o :=
  PySem.W.hideAll_get _ e fun hm => by
    have q : (H b).isSome = true := (List.mem_filter.mp hm).2
    rw [n] at q; simp at q
theorem of_hidT {h : Heap} {H : Hp} {b : Addr} {o : Obj} (e : (hidT h H).get? b = some o) : h.get? b = some o ∧ H b = none := by
  have e' : h.get? b = some o := PySem.W.of_hideAll (trk h H) e
  refine ⟨e', ?_⟩
  cases q : H b with
  | none => rfl
  | some x =>
    have hm : b ∈ trk h H := List.mem_filter.mpr ⟨List.mem_range.mpr (Heap.lt_size e'), by simp [q]⟩
    have z : (hidT h H).get? b = none := PySem.W.hideAll_none (trk h H) hm
    rw [z] at e; cases e

def allNews (g h : Heap) (L : Addr) : List (Addr × Obj) := (List.range h.objs.size).filterMap fun a => if a = L ∨ (g.get? a).isSome = true then none else (h.get? a).map fun o => (a, o)
def rest (g h : Heap) (L d : Addr) : List (Addr × Obj) := (allNews g h L).filter fun p => decide (p.1 ≠ d)
end L2

namespace L2
open PySem PySem.Spec PyProof.Rows

structure Mod (K : PySem.W.Frag) (mg : Str → Option Value) (base : Heap) : Prop where
  kin : K.In base
  glob : base.Ns mainGlobals mg
  blt : ∃ mb, base.Ns builtinsNs mb ∧ ∀ x : Str, x ≠ "__name__" → mb x = bootBuiltins x
  nolimit : base.NoLimit

structure Cx where
  prog : Program
  w : World
  K : PySem.W.Frag
  mg : Str → Option Value
  base : Heap
  A : Around
  N : List Str
  s₀ : Shared
  H₀ : Hp
  env : Env
  outer : List Env
  stack : List Env
  ex : List Addr
  fn : Str → Bool
  calm : Bool
  pn : List (Addr × Obj)
  xe : Value → Shared → Prop
def frs (l : List Env) : List Addr := l.filterMap (·.frame)
abbrev Cx.fs (X : Cx) : List Addr := frs X.outer

def Vis (sc : Scope) (x : Str) : Prop := sc.names.lookup x = some .local ∨ sc.names.lookup x = some .cell ∨ sc.names.lookup x = some .free
def Loc (sc : Scope) (x : Str) : Prop := sc.names.lookup x = some .local ∨ sc.names.lookup x = some .cell
def Look (env : Env) (h : Heap) (m : Str → Option Value) (x : Str) (u : Value) : Prop :=
  (env.kindOf x = some .local ∧ m x = some u) ∨ ((env.kindOf x = some .cell ∨ env.kindOf x = some .free) ∧ ∃ c, env.cells.lookup x = some c ∧ h.IsCell c (some u))

structure Cx.Ok (X : Cx) : Prop where
  mod : Mod X.K X.mg X.base
  kind : X.env.scope.kind = .function
  glob : X.env.globals = mainGlobals
  blt : X.env.builtins = builtinsNs
  above : X.s₀.heap.objs.size ≤ X.env.locals
  inj : ∀ x y c, X.env.cells.lookup x = some c → X.env.cells.lookup y = some c → x = y
  has : ∀ x, (X.env.kindOf x = some .cell ∨ X.env.kindOf x = some .free) → ∃ c, X.env.cells.lookup x = some c
  cab : ∀ x c, X.fn x = true → X.env.cells.lookup x = some c → X.s₀.heap.objs.size ≤ c
  hd : X.calm = true → X.A.handled = none
  frames : X.A.frames = some X.stack
  stk : X.stack = X.outer ∨ (X.stack = X.env :: X.outer ∧ X.env.frame = some X.env.locals)
  exf : ∀ b ∈ X.ex, b ≠ X.env.locals ∧ ∀ x c, X.env.cells.lookup x = some c → c ≠ b
  bs : ∀ b o, X.base.get? b = some o → X.s₀.heap.get? b = some o ∧ X.H₀ b = none
  bsz : X.base.objs.size ≤ X.s₀.heap.objs.size
  noex : ∀ b o, X.base.get? b = some o → b ∉ X.ex
  exfs : ∀ b ∈ X.ex, b ∉ X.fs
  funs : X.s₀.heap.FunFrames X.base X.outer
  frf : ∀ b ∈ X.fs, X.H₀ b = none

structure Inv (X : Cx) (pins : List (Addr × Obj)) (σ : List (Option V)) (H : Hp) (s : Shared) : Prop where
  ok : X.Ok
  os : s.os = X.s₀.os
  bare : AllBare s.gens
  base : Un X.fs X.ex X.H₀ H X.s₀.heap s.heap
  loc : ∃ m, s.heap.Ns X.env.locals m ∧ ∀ (i : Nat) (x : Str) (v : V), X.N[i]? = some x → σ[i]? = some (some v) → Vis X.env.scope x → ∃ u, RelV v u ∧ Look X.env s.heap m x u
  cell : ∀ x c, X.env.cells.lookup x = some c → ∃ v, s.heap.IsCell c v
  free : H X.env.locals = none
  freeC : ∀ x c, X.env.cells.lookup x = some c → H c = none
  pin : ∀ p ∈ X.pn ++ pins, s.heap.get? p.1 = some p.2 ∧ H p.1 = none ∧ p.1 ≠ X.env.locals ∧ p.1 ∉ X.fs ∧ ∀ v, p.2.data ≠ .cell v
  hok : HOk X.prog X.w H s.heap
  len : σ.length = X.N.length

section
variable {X : Cx} {pins : List (Addr × Obj)} {σ : List (Option V)} {H H' : Hp} {s : Shared} {h' : Heap}

theorem Cx.Ok.nofr (ok : X.Ok) {b : Addr} {o : Obj} (e : X.base.get? b = some o) : b ∉ X.fs := fun hb => by
  have := (ok.funs.mem hb).1
  rw [e] at this; cases this
theorem Inv.bs (I : Inv X pins σ H s) : ∀ b o, X.base.get? b = some o → s.heap.get? b = some o ∧ H b = none := fun b o e =>
  ⟨I.base.keep b o (I.ok.bs b o e).1 (I.ok.bs b o e).2 (I.ok.nofr e) (I.ok.noex b o e), I.base.free b o (I.ok.bs b o e).1 (I.ok.bs b o e).2 (I.ok.noex b o e)⟩
theorem Inv.bk (I : Inv X pins σ H s) : ∀ b o, X.base.get? b = some o → s.heap.get? b = some o := fun b o e => (I.bs b o e).1
theorem Inv.mod (I : Inv X pins σ H s) : Mod X.K X.mg X.base := I.ok.mod
theorem Inv.kIn (I : Inv X pins σ H s) : X.K.In s.heap := I.ok.mod.kin.keeps I.bk
theorem Inv.nolimit (I : Inv X pins σ H s) : s.heap.NoLimit := I.ok.mod.nolimit.keeps I.bk
theorem Inv.fr (I : Inv X pins σ H s) : ∃ m, Fr X.base X.env.locals s.heap m :=
  let ⟨m, hn, _⟩ := I.loc
  ⟨m, hn, I.bk, Nat.le_trans I.ok.bsz I.ok.above⟩
theorem Inv.lt (I : Inv X pins σ H s) : X.env.locals < s.heap.objs.size := let ⟨_, hn, _⟩ := I.loc; hn.lt
theorem Inv.sz (I : Inv X pins σ H s) : X.s₀.heap.objs.size ≤ s.heap.objs.size := Nat.le_trans I.ok.above (Nat.le_of_lt I.lt)
theorem Inv.nofs (I : Inv X pins σ H s) {a : Addr} (h : s.heap.objs.size ≤ a) : a ∉ X.fs := fun hb => by
  obtain ⟨_, o, ho, _⟩ := I.ok.funs.mem hb
  exact absurd (Nat.lt_of_lt_of_le (Heap.lt_size ho) (Nat.le_trans I.sz h)) (Nat.lt_irrefl _)
theorem Inv.cne (I : Inv X pins σ H s) : ∀ x c, X.env.cells.lookup x = some c → c ≠ X.env.locals := fun x c e z => by
  obtain ⟨v, o, ho, hd⟩ := I.cell x c e
  obtain ⟨m, ⟨o', es, ep, ho', hd', _⟩, _⟩ := I.loc
  rw [z, ho'] at ho; cases ho; rw [hd'] at hd; cases hd
theorem Inv.funs (I : Inv X pins σ H s) : s.heap.FunFrames X.base X.outer := by
  have all : ∀ (l : List Env), (∀ b ∈ frs l, b ∈ X.fs) → X.s₀.heap.FunFrames X.base l → s.heap.FunFrames X.base l := by
    intro l
    induction l with
    | nil => intro _ _; trivial
    | cons env r ih =>
      intro hs hl
      obtain ⟨hk, ⟨L, o, hf, hn, ho, hd⟩, hr⟩ := hl
      have hL : L ∈ X.fs := hs L (by unfold frs; rw [List.filterMap_cons, hf]; exact List.mem_cons_self)
      obtain ⟨sl, e⟩ := I.base.slot L o ho (I.ok.frf L hL) hL fun z => I.ok.exfs L z hL
      exact ⟨hk, ⟨L, _, hf, hn, e, hd⟩, ih (fun b hb => hs b (by unfold frs; rw [List.filterMap_cons, hf]; exact List.mem_cons_of_mem _ hb)) hr⟩
  exact all X.outer (fun _ hb => hb) I.ok.funs

theorem Inv.stack (I : Inv X pins σ H s) : s.heap.FunFrames X.base X.stack := by
  rcases I.ok.stk with e | ⟨e, hf⟩
  · rw [e]; exact I.funs
  · rw [e]
    obtain ⟨m, hn, _⟩ := I.loc
    refine .cons (by rw [I.ok.kind]; decide) hf hn ?_ I.funs
    exact Heap.get?_none_of_le (Nat.le_trans I.ok.bsz I.ok.above)
theorem Inv.stkSub (I : Inv X pins σ H s) : ∀ b ∈ frs X.stack, b ∈ X.env.locals :: X.fs := fun b hb => by
  rcases I.ok.stk with e | ⟨e, hf⟩
  · rw [e] at hb; exact List.mem_cons_of_mem _ hb
  · rw [e] at hb
    unfold frs at hb
    rw [List.filterMap_cons, hf] at hb
    exact hb
theorem Inv.stkFree (I : Inv X pins σ H s) : ∀ b ∈ frs X.stack, H b = none := fun b hb => by
  rcases List.mem_cons.mp (I.stkSub b hb) with e | hb
  · rw [e]; exact I.free
  · obtain ⟨_, o, ho, _⟩ := I.ok.funs.mem hb
    exact I.base.free b o ho (I.ok.frf b hb) fun z => I.ok.exfs b z hb

theorem Inv.step {g' : Array GenState} {t' : Nat} {d' : Drawn} {ch : List Addr} (I : Inv X pins σ H s)
    (hch : ∀ b ∈ ch, (b ∈ X.ex ∨ X.s₀.heap.objs.size ≤ b) ∧ b ≠ X.env.locals ∧ (∀ x c, X.env.cells.lookup x = some c → c ≠ b) ∧ ∀ p ∈ X.pn ++ pins, p.1 ≠ b)
    (keep : ∀ b o, b ≠ X.env.locals → b ∉ X.fs → b ∉ ch → s.heap.get? b = some o → H b = none → h'.get? b = some o)
    (slot : ∀ b o, b ≠ X.env.locals → b ∈ X.fs → b ∉ ch → s.heap.get? b = some o → H b = none → ∃ sl, h'.get? b = some { o with slots := sl }) (free : ∀ b o, b ∉ ch → s.heap.get? b = some o → H b = none → H' b = none)
    (there : ∀ b o, b ∉ ch → s.heap.get? b = some o → ∃ o', h'.get? b = some o')
    (tups : ∀ b xs, H b = some (.tup xs) → H' b = some (.tup xs)) (frzs : ∀ b o u, H b = some (.frz o u) → H' b = some (.frz o u)) (tbls : ∀ b ps, H b = some (.tbl ps) → ∃ more, H' b = some (.tbl (ps ++ more)))
    (ns : ∀ m, s.heap.Ns X.env.locals m → h'.Ns X.env.locals m) (hok : HOk X.prog X.w H' h') (hg : AllBare g') :
    Inv X pins σ H' { s with heap := h', gens := g', drawn := d', toks := t' } := by
  have neL : ∀ b o, X.s₀.heap.get? b = some o → b ≠ X.env.locals := fun b o e => Nat.ne_of_lt (Nat.lt_of_lt_of_le (Heap.lt_size e) I.ok.above)
  have neC : ∀ b o, X.s₀.heap.get? b = some o → b ∉ X.ex → b ∉ ch := fun b o e hx hb => by
    rcases (hch b hb).1 with z | z
    · exact hx z
    · exact absurd (Nat.lt_of_lt_of_le (Heap.lt_size e) z) (Nat.lt_irrefl _)
  have cellK : ∀ x c, X.env.cells.lookup x = some c → ∀ v, s.heap.IsCell c v → h'.IsCell c v := fun x c e v ⟨o, ho, hd⟩ => by
    have nch : c ∉ ch := fun z => (hch c z).2.2.1 x c e rfl
    by_cases hc : c ∈ X.fs
    · obtain ⟨sl, q⟩ := slot c o (I.cne x c e) hc nch ho (I.freeC x c e)
      exact ⟨_, q, hd⟩
    · exact ⟨o, keep c o (I.cne x c e) hc nch ho (I.freeC x c e), hd⟩
  refine ⟨I.ok, I.os, hg, ⟨fun b o e n hb hx => ?_, fun b o e n hb hx => ?_, fun b o e n hx => ?_, fun b o e hx => ?_, fun b xs e => tups b xs (I.base.tups b xs e), fun b o xs e => frzs b o xs (I.base.frzs b o xs e), fun b ps e => ?_⟩, ?_, fun x c e => ?_, ?_, fun x c e => ?_, fun p hp => ?_, hok, I.len⟩
  · exact keep b o (neL b o e) hb (neC b o e hx) (I.base.keep b o e n hb hx) (I.base.free b o e n hx)
  · obtain ⟨sl, e1⟩ := I.base.slot b o e n hb hx
    obtain ⟨sl', e2⟩ := slot b _ (neL b o e) hb (neC b o e hx) e1 (I.base.free b o e n hx)
    exact ⟨sl', e2⟩
  · obtain ⟨o', e1⟩ := I.base.there b o e hx
    exact free b o' (neC b o e hx) e1 (I.base.free b o e n hx)
  · obtain ⟨o', e1⟩ := I.base.there b o e hx
    exact there b o' (neC b o e hx) e1
  · obtain ⟨m1, e1⟩ := I.base.tbls b ps e
    obtain ⟨m2, e2⟩ := tbls b _ e1
    exact ⟨m1 ++ m2, by rw [e2, Array.append_assoc]⟩
  · obtain ⟨m, hn, hl⟩ := I.loc
    refine ⟨m, ns m hn, fun i x v e1 e2 e3 => ?_⟩
    obtain ⟨u, r, l⟩ := hl i x v e1 e2 e3
    refine ⟨u, r, ?_⟩
    rcases l with l | ⟨k, c, e, z⟩
    · exact .inl l
    · exact .inr ⟨k, c, e, cellK x c e _ z⟩
  · obtain ⟨v, z⟩ := I.cell x c e
    exact ⟨v, cellK x c e v z⟩
  · obtain ⟨m, ⟨o, _, _, ho, _⟩, _⟩ := I.loc
    exact free _ o (fun z => (hch _ z).2.1 rfl) ho I.free
  · obtain ⟨v, o, ho, hd⟩ := I.cell x c e
    exact free c o (fun z => (hch c z).2.2.1 x c e rfl) ho (I.freeC x c e)
  · obtain ⟨e, n, ne, nf, d⟩ := I.pin p hp
    have nch : p.1 ∉ ch := fun z => (hch p.1 z).2.2.2 p hp rfl
    exact ⟨keep p.1 p.2 ne nf nch e n, free p.1 p.2 nch e n, ne, nf, d⟩
theorem Inv.un {t' : Nat} (I : Inv X pins σ H s) (u : Un X.fs [] H H' s.heap h') (hok : HOk X.prog X.w H' h') : Inv X pins σ H' { s with heap := h', toks := t' } := by
  obtain ⟨m, ⟨o, es, ep, ho, r⟩, _⟩ := id I.loc
  obtain ⟨sl, hL⟩ := u.any ho I.free (by simp)
  exact I.step (g' := s.gens) (d' := s.drawn) (ch := []) (fun _ z => nomatch z) (fun b o _ hb _ e n => u.keep b o e n hb (by simp)) (fun b o _ hb _ e n => u.slot b o e n hb (by simp)) (fun b o _ e n => u.free b o e n (by simp)) (fun b o _ e => u.there b o e (by simp)) u.tups u.frzs u.tbls (fun m' hm => by
    obtain ⟨o', es', ep', ho', r'⟩ := hm
    rw [ho] at ho'; cases ho'
    exact ⟨_, es', ep', hL, r'⟩) hok I.bare
theorem Inv.call {g' : Array GenState} {t' : Nat} {d' : Drawn} {ch : List Addr} (I : Inv X pins σ H s) (u : Un (frs X.stack) ch H H' s.heap h') (hok : HOk X.prog X.w H' h') (hg : AllBare g')
    (hch : ∀ b ∈ ch, (b ∈ X.ex ∨ X.s₀.heap.objs.size ≤ b) ∧ b ≠ X.env.locals ∧ (∀ x c, X.env.cells.lookup x = some c → c ≠ b) ∧ ∀ p ∈ X.pn ++ pins, p.1 ≠ b) :
    Inv X pins σ H' { s with heap := h', gens := g', drawn := d', toks := t' } := by
  obtain ⟨m, ⟨o, es, ep, ho, r⟩, _⟩ := id I.loc
  obtain ⟨sl, hL⟩ := u.any ho I.free fun z => (hch _ z).2.1 rfl
  exact I.step (ch := ch) hch (fun b o hL hb hc e n => u.keep b o e n (fun z => (List.mem_cons.mp (I.stkSub b z)).elim hL hb) hc) (fun b o _ _ hc e n => u.any e n hc) (fun b o hc e n => u.free b o e n hc) (fun b o hc e => u.there b o e hc) u.tups u.frzs u.tbls (fun m' hm => by
    obtain ⟨o', es', ep', ho', r'⟩ := hm
    rw [ho] at ho'; cases ho'
    exact ⟨_, es', ep', hL, r'⟩) hok hg
theorem Inv.turned {t' : Nat} {it : Addr} (I : Inv X pins σ H s) (k : ∀ b o, b ≠ it → s.heap.get? b = some o → h'.get? b = some o) (hn : H it = none) (hL : it ≠ X.env.locals)
    (h1 : it ∈ X.ex ∨ X.s₀.heap.objs.size ≤ it) (h2 : ∀ x c, X.env.cells.lookup x = some c → c ≠ it) (h3 : ∀ p ∈ X.pn ++ pins, p.1 ≠ it) : Inv X pins σ H { s with heap := h', toks := t' } := by
  have nit : ∀ b u, H b = some u → b ≠ it := fun b u e z => by rw [z, hn] at e; cases e
  refine I.step (g' := s.gens) (d' := s.drawn) (ch := [it]) (fun b hb => ?_) (fun b o _ _ hc e _ => k b o (fun z => hc (by simp [z])) e) (fun b o _ _ hc e _ => ⟨o.slots, k b o (fun z => hc (by simp [z])) e⟩) (fun _ _ _ _ n => n)
    (fun b o hc e => ⟨o, k b o (fun z => hc (by simp [z])) e⟩) (fun _ _ e => e) (fun _ _ _ e => e) (fun b ps e => ⟨#[], by rw [e]; simp⟩) (fun m hm => ?_) (fun b u e => ?_) I.bare
  · have e : b = it := by simpa using hb
    subst e
    exact ⟨h1, hL, h2, h3⟩
  · obtain ⟨o, es, ep, ho, r⟩ := hm
    exact ⟨o, es, ep, k _ o (Ne.symm hL) ho, r⟩
  · refine (I.hok b u e).stay (fun c v hc q => k c v ?_ q) (fun _ q => q) fun _ _ q => q
    rcases hc with z | z
    · rw [z]; exact nit b u e
    · exact nit c _ z
theorem Inv.tok (I : Inv X pins σ H s) (t : Nat) : Inv X pins σ H { s with toks := t } := I.un (h' := s.heap) (t' := t) Un.refl I.hok
theorem Inv.kept {t' : Nat} (I : Inv X pins σ H s) (k : ∀ b u, s.heap.get? b = some u → h'.get? b = some u) : Inv X pins σ H { s with heap := h', toks := t' } := I.un (Un.kept k) (I.hok.kept k)
theorem Inv.laid {a : Addr} {o : HO} {t' : Nat} (I : Inv X pins σ H s) (k : ∀ b u, s.heap.get? b = some u → h'.get? b = some u) (hp : s.heap.objs.size ≤ a) (new : ObjOk X.prog X.w (upd H a o) h' a o) :
    Inv X pins σ (upd H a o) { s with heap := h', toks := t' } := I.un (Un.laid k hp (I.hok.fresh hp)) (I.hok.laid k hp new)
theorem Inv.write {x e : Addr} {o : HO} {t' : Nat} (I : Inv X pins σ H s) (mu : Mut (H x)) (he : e = x ∨ H e = some (.own x)) (k : ∀ b u, b ≠ e → s.heap.get? b = some u → h'.get? b = some u) (heo : ∃ u, h'.get? e = some u)
    (new : ObjOk X.prog X.w (upd H x o) h' x o) : Inv X pins σ (upd H x o) { s with heap := h', toks := t' } := I.un (Un.write mu he k heo) (I.hok.write mu he k heo new)
theorem Inv.weak {σ' : List (Option V)} (I : Inv X pins σ H s) (hl : σ'.length = σ.length) (w : ∀ (i : Nat) v, σ'[i]? = some (some v) → σ[i]? = some (some v)) : Inv X pins σ' H s :=
  ⟨I.ok, I.os, I.bare, I.base, let ⟨m, hn, hl'⟩ := I.loc; ⟨m, hn, fun i x v e1 e2 e3 => hl' i x v e1 (w i v e2) e3⟩, I.cell, I.free, I.freeC, I.pin, I.hok, hl.trans I.len⟩
theorem Inv.pins_of {pins' : List (Addr × Obj)} (I : Inv X pins σ H s) (h : ∀ p ∈ pins', s.heap.get? p.1 = some p.2 ∧ H p.1 = none ∧ p.1 ≠ X.env.locals ∧ p.1 ∉ X.fs ∧ ∀ v, p.2.data ≠ .cell v) : Inv X pins' σ H s :=
  ⟨I.ok, I.os, I.bare, I.base, I.loc, I.cell, I.free, I.freeC, fun p hp => (List.mem_append.mp hp).elim (fun z => I.pin p (List.mem_append_left _ z)) (h p), I.hok, I.len⟩

theorem nodup_ix {N : List Str} (hN : N.Nodup) {i j : Nat} {x : Str} (a : N[i]? = some x) (b : N[j]? = some x) : i = j := by
  obtain ⟨h1, e1⟩ := List.getElem?_eq_some_iff.mp a
  obtain ⟨h2, e2⟩ := List.getElem?_eq_some_iff.mp b
  exact (List.getElem_inj hN).mp (e1.trans e2.symm)

theorem store_ok2 {M : Model} {A : Around} {E : Value → Shared → Prop} {i : Nat} {x : Str} {v : V} {u : Value} {Q : Unit → Shared → Prop} (I : Inv X pins σ H s) (hN : X.N.Nodup) (hi : X.N[i]? = some x) (hx : Loc X.env.scope x) (r : RelV v u)
    (h : ∀ s', Inv X pins (σ.set i (some v)) H s' → (∃ a, Heap.SameBut a s.heap s'.heap ∧ (a = X.env.locals ∨ X.env.cells.lookup x = some a)) → Q () s') (hf : X.fn x = true ∨ X.env.scope.names.lookup x = some .local := by first | exact .inl rfl | exact .inr rfl | assumption) : wpAny M A (storeName X.env x u) Q E s := by
  obtain ⟨m, hn, hl⟩ := id I.loc
  have hcls : (X.env.scope.kind == .class || (X.env.scope.kind == .module && X.env.locals != X.env.globals)) = false := by rw [I.ok.kind]; rfl
  have hiσ : i < σ.length := by rw [I.len]; exact (List.getElem?_eq_some_iff.mp hi).1
  have cne := I.cne
  have tracked : ∀ {a : Addr} {h' : Heap}, (∃ o, s.heap.get? a = some o ∧ H a = none) → Heap.SameBut a s.heap h' → HOk X.prog X.w H h' := fun {a h'} ha hs b ob e => by
    obtain ⟨_, _, hfree⟩ := ha
    refine (I.hok b ob e).stay (fun c w' hc q => (hs.2 c ?_).trans q) (fun _ q => q) fun _ _ q => q
    rintro rfl
    rcases hc with rfl | hc
    · rw [hfree] at e; cases e
    · rw [hfree] at hc; cases hc
  rcases hx with hk | hk
  · refine wpAny_storeName_local hk hn (fun h' hn' hs => ?_) hcls
    obtain ⟨oL, _, _, hoL, _⟩ := id hn
    refine h _ ⟨I.ok, I.os, I.bare, ⟨fun b o e n hb hx => ?_, fun b o e n hb hx => ?_, I.base.free, fun b o e hx => ?_, I.base.tups, I.base.frzs, I.base.tbls⟩, ⟨_, hn', fun j y v' e1 e2 e3 => ?_⟩, fun y c e => ?_, I.free, I.freeC, fun p hp => ?_, tracked ⟨oL, hoL, I.free⟩ hs, by simpa using I.len⟩ ⟨_, hs, .inl rfl⟩
    · exact (hs.2 b (Nat.ne_of_lt (Nat.lt_of_lt_of_le (Heap.lt_size e) I.ok.above))).trans (I.base.keep b o e n hb hx)
    · obtain ⟨sl, e1⟩ := I.base.slot b o e n hb hx
      exact ⟨sl, (hs.2 b (Nat.ne_of_lt (Nat.lt_of_lt_of_le (Heap.lt_size e) I.ok.above))).trans e1⟩
    · obtain ⟨o', e1⟩ := I.base.there b o e hx
      exact ⟨o', (hs.2 b (Nat.ne_of_lt (Nat.lt_of_lt_of_le (Heap.lt_size e) I.ok.above))).trans e1⟩
    · by_cases hj : j = i
      · subst hj
        rw [hi] at e1; cases e1
        rw [List.getElem?_set_self hiσ] at e2
        cases e2
        exact ⟨u, r, .inl ⟨hk, by simp⟩⟩
      · rw [List.getElem?_set_ne (Ne.symm hj)] at e2
        obtain ⟨u', r', q⟩ := hl j y v' e1 e2 e3
        refine ⟨u', r', ?_⟩
        rcases q with ⟨k, e⟩ | ⟨k, c, e, z⟩
        · refine .inl ⟨k, ?_⟩
          have : y ≠ x := fun e => hj (nodup_ix hN e1 (e ▸ hi))
          simp [this, e]
        · exact .inr ⟨k, c, e, z.sameBut hs (cne y c e)⟩
    · obtain ⟨w', z⟩ := I.cell y c e
      exact ⟨w', z.sameBut hs (cne y c e)⟩
    · obtain ⟨e, n, ne, nf, d⟩ := I.pin p hp
      exact ⟨(hs.2 p.1 ne).trans e, n, ne, nf, d⟩
  · have hfn : X.fn x = true := by
      rcases hf with z | z
      · exact z
      · rw [z] at hk; cases hk
    obtain ⟨c, hc⟩ := I.ok.has x (.inl hk)
    obtain ⟨w', z⟩ := I.cell x c hc
    refine wpAny_storeName_cell I.ok.kind hk hc z (fun h' hc' hs => ?_)
    obtain ⟨oc, hoc, hocd⟩ := id z
    refine h { s with heap := h' } ⟨I.ok, I.os, I.bare, ⟨fun b o e n hb hx => ?_, fun b o e n hb hx => ?_, I.base.free, fun b o e hx => ?_, I.base.tups, I.base.frzs, I.base.tbls⟩, ⟨m, hn.sameBut hs (Ne.symm (cne x c hc)), fun j y v' e1 e2 e3 => ?_⟩, fun y c' e => ?_, I.free, I.freeC, fun p hp => ?_, tracked ⟨oc, hoc, I.freeC x c hc⟩ hs, by simpa using I.len⟩ ⟨c, hs, .inr hc⟩
    · exact (hs.2 b (Nat.ne_of_lt (Nat.lt_of_lt_of_le (Heap.lt_size e) (I.ok.cab x c hfn hc)))).trans (I.base.keep b o e n hb hx)
    · obtain ⟨sl, e1⟩ := I.base.slot b o e n hb hx
      exact ⟨sl, (hs.2 b (Nat.ne_of_lt (Nat.lt_of_lt_of_le (Heap.lt_size e) (I.ok.cab x c hfn hc)))).trans e1⟩
    · obtain ⟨o', e1⟩ := I.base.there b o e hx
      exact ⟨o', (hs.2 b (Nat.ne_of_lt (Nat.lt_of_lt_of_le (Heap.lt_size e) (I.ok.cab x c hfn hc)))).trans e1⟩
    · by_cases hj : j = i
      · subst hj
        rw [hi] at e1; cases e1
        rw [List.getElem?_set_self hiσ] at e2
        cases e2
        exact ⟨u, r, .inr ⟨.inl hk, c, hc, hc'⟩⟩
      · rw [List.getElem?_set_ne (Ne.symm hj)] at e2
        obtain ⟨u', r', q⟩ := hl j y v' e1 e2 e3
        refine ⟨u', r', ?_⟩
        rcases q with q | ⟨k, c', e, z'⟩
        · exact .inl q
        · refine .inr ⟨k, c', e, z'.sameBut hs ?_⟩
          rintro rfl
          exact hj (nodup_ix hN e1 (I.ok.inj _ _ _ e hc ▸ hi))
    · by_cases hcc : c' = c
      · subst hcc; exact ⟨_, hc'⟩
      · obtain ⟨w2, z2⟩ := I.cell y c' e
        exact ⟨w2, z2.sameBut hs hcc⟩
    · obtain ⟨e, n, ne, nf, d⟩ := I.pin p hp
      refine ⟨(hs.2 p.1 ?_).trans e, n, ne, nf, d⟩
      intro q
      rw [q, hoc] at e
      have q' : oc = p.2 := Option.some.inj e
      exact d w' (by rw [← q']; exact hocd)
theorem store_ok {M : Model} {A : Around} {E : Value → Shared → Prop} {i : Nat} {x : Str} {v : V} {u : Value} {Q : Unit → Shared → Prop} (I : Inv X pins σ H s) (hN : X.N.Nodup) (hi : X.N[i]? = some x) (hx : Loc X.env.scope x) (r : RelV v u)
    (h : ∀ s', Inv X pins (σ.set i (some v)) H s' → Q () s') (hf : X.fn x = true ∨ X.env.scope.names.lookup x = some .local := by first | exact .inl rfl | exact .inr rfl | assumption) : wpAny M A (storeName X.env x u) Q E s :=
  store_ok2 I hN hi hx r (fun s' I' _ => h s' I') hf
end

abbrev XK := Value → Option Addr → Hp → Prop
abbrev St := List (Option V)
abbrev VK := V → Hp → Prop
abbrev TE := St → Hp → VK → Prop
abbrev TT := St → Hp → (Bool → Hp → Prop) → Prop
abbrev TA := St → Hp → (List V → Hp → Prop) → Prop
structure Ends where
  nx : St → Hp → Prop
  rt : VK
  bk : St → Hp → Prop := fun _ _ => False
  ct : St → Hp → Prop := fun _ _ => False
abbrev TS := Ends → St → Hp → Prop

def EP (X : Cx) (pins : List (Addr × Obj)) (σ : St) (Q : VK) (u : Value) (s' : Shared) : Prop := ∃ v H', Inv X pins σ H' s' ∧ RelV v u ∧ Q v H'
def TP (X : Cx) (pins : List (Addr × Obj)) (σ : St) (Q : Bool → Hp → Prop) (b : Bool) (s' : Shared) : Prop := ∃ H', Inv X pins σ H' s' ∧ Q b H'
def AP (X : Cx) (pins : List (Addr × Obj)) (σ : St) (Q : List V → Hp → Prop) (us : List Value) (s' : Shared) : Prop := ∃ vs H', Inv X pins σ H' s' ∧ Vals vs us ∧ Q vs H'
def SP (X : Cx) (pins : List (Addr × Obj)) (D : Ends) (f : Flow) (s' : Shared) : Prop :=
  match f with
  | .next => ∃ σ' H', Inv X pins σ' H' s' ∧ D.nx σ' H'
  | .brk => ∃ σ' H', Inv X pins σ' H' s' ∧ D.bk σ' H'
  | .cont => ∃ σ' H', Inv X pins σ' H' s' ∧ D.ct σ' H'
  | .ret u => ∃ v σ' H', Inv X pins σ' H' s' ∧ RelV v u ∧ D.rt v H'

def PE (X : Cx) (e : Expr) (t : TE) : Prop :=
  ∀ (pins : List (Addr × Obj)) (s : Shared) (σ : St) (H : Hp) (Q : VK), Inv X pins σ H s → t σ H Q → wpAny (model X.prog X.w) X.A (eval e X.env) (EP X pins σ Q) X.xe s
def PT (X : Cx) (e : Expr) (t : TT) : Prop :=
  ∀ (pins : List (Addr × Obj)) (s : Shared) (σ : St) (H : Hp) (Q : Bool → Hp → Prop), Inv X pins σ H s → t σ H Q → wpAny (model X.prog X.w) X.A (isTrue e X.env (eval e X.env)) (TP X pins σ Q) X.xe s
def PW (X : Cx) (e : Expr) (t : TT) : Prop :=
  ∀ (whole : Sem Value) (pins : List (Addr × Obj)) (s : Shared) (σ : St) (H : Hp) (Q : Bool → Hp → Prop), Inv X pins σ H s → t σ H Q → wpAny (model X.prog X.w) X.A (isTrue e X.env whole) (TP X pins σ Q) X.xe s
theorem PW.pt {X : Cx} {e : Expr} {t : TT} (h : PW X e t) : PT X e t := h _
def PA (X : Cx) (es : List Expr) (t : TA) : Prop :=
  ∀ (pos : Pos) (pins : List (Addr × Obj)) (s : Shared) (σ : St) (H : Hp) (Q : List V → Hp → Prop), Inv X pins σ H s → t σ H Q → wpAny (model X.prog X.w) X.A (spliced (backTo pos (starEach es X.env))) (AP X pins σ Q) X.xe s
def PS (X : Cx) (st : Stmt) (t : TS) : Prop :=
  ∀ (pins : List (Addr × Obj)) (s : Shared) (σ : St) (H : Hp) (D : Ends), Inv X pins σ H s → t D σ H → wpAny (model X.prog X.w) X.A (exec st X.env) (SP X pins D) X.xe s
def PSs (X : Cx) (st : List Stmt) (t : TS) : Prop :=
  ∀ (pins : List (Addr × Obj)) (s : Shared) (σ : St) (H : Hp) (D : Ends), Inv X pins σ H s → t D σ H → wpAny (model X.prog X.w) X.A (execs st X.env) (SP X pins D) X.xe s
theorem thn {α : Type} {t : Sem α} {Q Q' : α → Shared → Prop} {M : Model} {A : Around} {E : Value → Shared → Prop} {s : Shared} (h : wpAny M A t Q E s) (hQ : ∀ a s, Q a s → Q' a s) : wpAny M A t Q' E s := wpAny_mono h hQ fun _ _ x => x
end L2

namespace L2
open PySem PySem.Spec PyProof.Rows
section
variable {X : Cx}

theorem bin {a b : Expr} {ta tb : TE} (ha : PE X a ta) (hb : PE X b tb) {pins : List (Addr × Obj)} {s : Shared} {σ : St} {H : Hp} {R : V → V → Hp → Prop} (I : Inv X pins σ H s) (h : ta σ H fun x H1 => tb σ H1 fun y H2 => R x y H2)
    {α : Type} {Q : α → Shared → Prop} {f : Value → Value → Sem α}
    (hf : ∀ v u s2 x y H2, Inv X pins σ H2 s2 → RelV x v → RelV y u → R x y H2 → wpAny (model X.prog X.w) X.A (f v u) Q X.xe s2) :
    wpAny (model X.prog X.w) X.A (eval a X.env) (fun v s₁ => wpAny (model X.prog X.w) X.A (eval b X.env) (fun u s₂ => wpAny (model X.prog X.w) X.A (f v u) Q X.xe s₂) X.xe s₁) X.xe s := by
  refine thn (ha pins s σ H _ I h) fun v s1 ⟨x, H1, I1, r1, q1⟩ => ?_
  refine thn (hb pins s1 σ H1 _ I1 q1) fun u s2 ⟨y, H2, I2, r2, q2⟩ => ?_
  exact hf v u s2 x y H2 I2 r1 r2 q2

def tVar (i : Nat) : TE := fun σ H Q => ∃ v, σ[i]? = some (some v) ∧ Q v H
def tC (v : V) : TE := fun _ H Q => Q v H
theorem pe_var {i : Nat} {x : Str} {pos : Pos} (hN : X.N[i]? = some x) (hv : Vis X.env.scope x) (hd : (x == ("__debug__" : Str)) = false := by decide) (hcd : (x == ("__classdict__" : Str)) = false := by decide) : PE X (.Name x pos) (tVar i) := by
  intro pins s σ H Q I h
  obtain ⟨v, e, h⟩ := h
  obtain ⟨m, hn, hl⟩ := I.loc
  obtain ⟨u, r, l⟩ := hl i x v hN e hv
  have fin : EP X pins σ Q u s := ⟨v, H, I, r, h⟩
  rcases l with ⟨hk, hm⟩ | ⟨hk, c, hc, hcell⟩
  · exact wpAny_Name (wpAny_loadName_local I.ok.kind hk hn hm fin) hd
  · rcases hk with hk | hk
    · exact wpAny_Name (wpAny_loadName_cell I.ok.kind hk hc hcell fin) hd
    · exact wpAny_Name (wpAny_loadName_free I.ok.kind hk hc hcell fin hcd) hd
theorem pe_int {i j pos} : PE X (.Constant (.int i) j pos) (tC (.int i)) := fun _ _ _ H _ I h => wpAny_Constant_int ⟨.int i, H, I.tok _, ⟨_, rfl⟩, h⟩
theorem pe_bl {b j pos} : PE X (.Constant (.bool b) j pos) (tC (.bl b)) := fun _ _ _ H _ I h => Constant_bool ⟨.bl b, H, I, rfl, h⟩
theorem pe_str {x j pos} : PE X (.Constant (.str x) j pos) (tC (.str x)) := fun _ _ _ H _ I h => Calls.Constant_str ⟨.str x, H, I.tok _, ⟨_, rfl⟩, h⟩

def Gl (X : Cx) (x : Str) : Prop := X.env.kindOf x = some .globalImplicit
theorem ld_glob {E : Value → Shared → Prop} {pins : List (Addr × Obj)} {s : Shared} {σ : St} {H : Hp} {x : Str} {u : Value} {pos : Pos} {Q : Value → Shared → Prop} (I : Inv X pins σ H s) (hg : Gl X x) (hm : X.mg x = some u) (h : Q u s)
    (hd : (x == ("__debug__" : Str)) = false := by decide) : wpAny (model X.prog X.w) X.A (eval (.Name x pos) X.env) Q E s :=
  Calls.Name_function_global I.ok.kind hg (Calls.loadGlobal_global (by rw [I.ok.glob]; exact I.mod.glob.keeps I.bk) hm h) hd
theorem ld_blt {E : Value → Shared → Prop} {pins : List (Addr × Obj)} {s : Shared} {σ : St} {H : Hp} {x : Str} {u : Value} {pos : Pos} {Q : Value → Shared → Prop} (I : Inv X pins σ H s) (hg : Gl X x) (hm : X.mg x = none) (hv : bootBuiltins x = some u) (h : Q u s)
    (hn : x ≠ "__name__" := by decide) (hd : (x == ("__debug__" : Str)) = false := by decide) : wpAny (model X.prog X.w) X.A (eval (.Name x pos) X.env) Q E s := by
  obtain ⟨mb, h1, h2⟩ := I.mod.blt
  exact Calls.Name_function_global I.ok.kind hg (Calls.loadGlobal_builtin (by rw [I.ok.glob]; exact I.mod.glob.keeps I.bk) hm (by rw [I.ok.blt]; exact h1.keeps I.bk) ((h2 x hn).trans hv) h) hd
theorem pe_glob {x : Str} {v : V} {u : Value} {pos : Pos} (hg : Gl X x) (hm : X.mg x = some u) (r : RelV v u) (hd : (x == ("__debug__" : Str)) = false := by decide) : PE X (.Name x pos) (tC v) :=
  fun _ _ _ H _ I h => ld_glob I hg hm ⟨v, H, I, r, h⟩ hd
theorem pe_bltn {x : Str} {v : V} {u : Value} {pos : Pos} (hg : Gl X x) (hm : X.mg x = none) (hv : bootBuiltins x = some u) (r : RelV v u) (hn : x ≠ "__name__" := by decide) (hd : (x == ("__debug__" : Str)) = false := by decide) : PE X (.Name x pos) (tC v) :=
  fun _ _ _ H _ I h => ld_blt I hg hm hv ⟨v, H, I, r, h⟩ hn hd

variable {a b : Expr} {ta tb : TE} {pos : Pos}
def PC (X : Cx) (op : CmpOp) (a b : Expr) (t : TE) : Prop :=
  ∀ (pins : List (Addr × Obj)) (s : Shared) (σ : St) (H : Hp) (Q : VK), Inv X pins σ H s → t σ H Q →
    wpAny (model X.prog X.w) X.A (eval a X.env) (fun v s₁ => wpAny (model X.prog X.w) X.A (eval b X.env) (fun u s₂ => wpAny (model X.prog X.w) X.A (compareOp op v u) (EP X pins σ Q) X.xe s₂) X.xe s₁) X.xe s
theorem nobehind (b : Expr) {op : CmpOp} (h : op ≠ .In) (h2 : op ≠ .NotIn) : behindInMarks op b = false := by
  have e1 : (op == CmpOp.In) = false := by cases op <;> first | rfl | exact absurd rfl h
  have e2 : (op == CmpOp.NotIn) = false := by cases op <;> first | rfl | exact absurd rfl h2
  cases b <;> simp [behindInMarks, e1, e2]
def tB (t : TE) : TT := fun σ H Q => t σ H fun x H1 => ∃ c, x = .bl c ∧ Q c H1
theorem pt_cmp {op : CmpOp} {t : TE} (h : PC X op a b t) (h1 : behindInMarks op b = false := by first | exact nobehind _ (by decide) (by decide) | rfl) : PT X (.Compare a [op] [b] pos) (tB t) := by
  intro pins s σ H Q I hw
  refine wpAny_isTrue_Compare1 (thn (h pins s σ H _ I hw) fun v s1 h1 => thn h1 fun u s2 h2 => thn h2 fun c s3 ⟨x, H1, I1, r1, q1⟩ => ?_) h1
  obtain ⟨d, rfl, q⟩ := q1
  cases r1
  exact wpAny_truthy_bool ⟨H1, I1, q⟩
theorem pt_val {e : Expr} {t : TE} (h : PE X e t) (he : ∀ whole, isTrue e X.env whole = (do let v ← whole; standAt e.pos; holding [v] (truthy v)) := by intro _; rfl) : PT X e (tB t) := by
  intro pins s σ H Q I hw
  refine isTrue_plain (thn (h pins s σ H _ I hw) fun v s1 ⟨x, H1, I1, r1, q1⟩ => ?_) (he _)
  obtain ⟨d, rfl, q⟩ := q1
  cases r1
  exact wpAny_truthy_bool ⟨H1, I1, q⟩

variable {tA tB' : TT} {rest : List Expr}
def tAnd (t u : TT) : TT := fun σ H Q => t σ H fun c H1 => if c = true then u σ H1 Q else Q false H1
def tOr (t u : TT) : TT := fun σ H Q => t σ H fun c H1 => if c = true then Q true H1 else u σ H1 Q
def tNot (t : TT) : TT := fun σ H Q => t σ H fun c H1 => Q (!c) H1
theorem pw_and1 (ha : PT X a tA) : PW X (.BoolOp .And [a] pos) tA := by
  intro wh pins s σ H Q I h
  refine isTrue_and (thn (ha pins s σ H Q I h) fun c s1 e => ?_)
  cases c with
  | true => exact isTrue_and_nil e
  | false => exact e
theorem pw_or1 (ha : PT X a tA) : PW X (.BoolOp .Or [a] pos) tA := by
  intro wh pins s σ H Q I h
  refine isTrue_or (thn (ha pins s σ H Q I h) fun c s1 e => ?_)
  cases c with
  | false => exact isTrue_or_nil e
  | true => exact e
theorem pw_and (ha : PT X a tA) (hb : PW X (.BoolOp .And (b :: rest) pos) tB') : PW X (.BoolOp .And (a :: b :: rest) pos) (tAnd tA tB') := by
  intro wh pins s σ H Q I h
  refine isTrue_and (thn (ha pins s σ H _ I h) fun c s1 ⟨H1, I1, q1⟩ => ?_)
  cases c with
  | true => exact hb wh pins s1 σ H1 Q I1 q1
  | false => exact ⟨H1, I1, q1⟩
theorem pw_or (ha : PT X a tA) (hb : PW X (.BoolOp .Or (b :: rest) pos) tB') : PW X (.BoolOp .Or (a :: b :: rest) pos) (tOr tA tB') := by
  intro wh pins s σ H Q I h
  refine isTrue_or (thn (ha pins s σ H _ I h) fun c s1 ⟨H1, I1, q1⟩ => ?_)
  cases c with
  | true => exact ⟨H1, I1, q1⟩
  | false => exact hb wh pins s1 σ H1 Q I1 q1
theorem pt_not (ha : PT X a tA) : PT X (.UnaryOp .Not a pos) (tNot tA) := by
  intro pins s σ H Q I h
  exact isTrue_not (ha pins s σ H (fun c H1 => Q (!c) H1) I h)
def tAndV (ta tb : TE) : TE := fun σ H Q => ta σ H fun x H1 => ∃ c, x = .bl c ∧ if c = true then tb σ H1 Q else Q (.bl false) H1
def tNotV (ta : TE) : TE := fun σ H Q => ta σ H fun x H1 => ∃ c, x = .bl c ∧ Q (.bl (!c)) H1
theorem pe_one {op} {t : TE} (h : PE X a t) : PE X (.BoolOp op [a] pos) t := fun pins s σ H Q I hw => BoolOp_one (h pins s σ H Q I hw)
theorem pe_and (ha : PE X a ta) (hb : PE X (.BoolOp .And (b :: rest) pos) tb) : PE X (.BoolOp .And (a :: b :: rest) pos) (tAndV ta tb) := by
  intro pins s σ H Q I h
  refine BoolOp_and (thn (ha pins s σ H _ I h) fun v s1 ⟨x, H1, I1, r1, q1⟩ => ?_)
  obtain ⟨c, rfl, q1⟩ := q1
  cases r1
  refine wpAny_truthy_bool ?_
  cases c with
  | true => exact hb pins s1 σ H1 Q I1 q1
  | false => exact ⟨.bl false, H1, I1, rfl, q1⟩
theorem pe_not (ha : PE X a ta) : PE X (.UnaryOp .Not a pos) (tNotV ta) := by
  intro pins s σ H Q I h
  refine UnaryOp_ (thn (ha pins s σ H _ I h) fun v s1 ⟨x, H1, I1, r1, q1⟩ => ?_)
  obtain ⟨c, rfl, q1⟩ := q1
  cases r1
  exact not_of (wpAny_truthy_bool ⟨.bl (!c), H1, I1, rfl, q1⟩)
end
end L2

namespace L2
open PySem PySem.Spec PyProof.Rows

def SqL (K : PySem.W.Frag) (H : Hp) (a : Addr) (xs : List V) : Prop :=
  Rd H a (.lst xs) ∨
    ∃ (o : Obj) (its : Array Value) (n : Nat), K.lookup a = some o ∧ o.cls = .type "list" ∧ o.dict = none ∧ o.data = .seq its n ∧ its.size ≤ sizeLine ∧ Vals xs its.toList
def SqT (K : PySem.W.Frag) (H : Hp) (a : Addr) (xs : List V) : Prop :=
  Rd H a (.tup xs) ∨
    ∃ (o : Obj) (its : Array Value) (n : Nat), K.lookup a = some o ∧ o.cls = .type "tuple" ∧ o.data = .seq its n ∧ its.size ≤ sizeLine ∧ Vals xs its.toList
def absV : Value → Option V
  | .none => some .non
  | .bool b => some (.bl b)
  | .int i _ => some (.int i)
  | .str x _ => some (.str x)
  | .bytes b _ => some (.byt b)
  | .float b _ => some (.flt b)
  | .ref a => some (.ref a)
  | .type n => some (.ty n)
  | _ => none
theorem RelV.abs {x : V} {u : Value} (r : RelV x u) : absV u = some x := by
  cases x with
  | non => cases r; rfl
  | bl _ => cases r; rfl
  | int _ => obtain ⟨t, rfl⟩ := r; rfl
  | str _ => obtain ⟨t, rfl⟩ := r; rfl
  | byt _ => obtain ⟨t, rfl⟩ := r; rfl
  | flt _ => obtain ⟨t, rfl⟩ := r; rfl
  | ref _ => cases r; rfl
  | ty _ => cases r; rfl
theorem RelV.inj {x y : V} {u : Value} (r : RelV x u) (q : RelV y u) : x = y := Option.some.inj (r.abs.symm.trans q.abs)
theorem Vals.inj : ∀ {xs ys : List V} {us : List Value}, Vals xs us → Vals ys us → xs = ys
  | _, _, _, .nil, .nil => rfl
  | _, _, _, .cons r t, .cons r' t' => by rw [r.inj r', Vals.inj t t']
section
variable {X : Cx} {pins : List (Addr × Obj)} {σ : St} {H : Hp} {s : Shared} {a : Addr} {xs ys : List V}
theorem SqL.of {K : PySem.W.Frag} (h : H a = some (.lst xs)) : SqL K H a xs := .inl (.inl h)
theorem SqT.of {K : PySem.W.Frag} (h : H a = some (.tup xs)) : SqT K H a xs := .inl (.inl h)
theorem Inv.list (I : Inv X pins σ H s) (h : SqL X.K H a xs) : ∃ its : List Value, Vals xs its ∧ PlainL s.heap a its.toArray ∧ xs.length ≤ sizeLine := by
  rcases h with h | ⟨o, its, n, hk, hc, hd, hs, hz, r⟩
  · obtain ⟨z, its, n, r, e⟩ := h.ok I.hok
    exact ⟨its, r, ⟨_, n, e, rfl, rfl, rfl⟩, z⟩
  · refine ⟨its.toList, r, ⟨o, n, I.kIn a o hk, hc, hd, by simpa using hs⟩, ?_⟩
    have e := r.length
    simp only [Array.length_toList] at e
    omega
theorem Inv.tuple (I : Inv X pins σ H s) (h : SqT X.K H a xs) : ∃ its : List Value, Vals xs its ∧ IsTup s.heap a its.toArray ∧ xs.length ≤ sizeLine := by
  rcases h with h | ⟨o, its, n, hk, hc, hs, hz, r⟩
  · obtain ⟨z, its, r, p⟩ := h.ok I.hok
    exact ⟨its, r, p, z⟩
  · refine ⟨its.toList, r, ⟨o, I.kIn a o hk, hc, n, by simpa using hs⟩, ?_⟩
    have e := r.length
    simp only [Array.length_toList] at e
    omega
theorem Inv.list_inj (I : Inv X pins σ H s) (h : SqL X.K H a xs) (h' : SqL X.K H a ys) : xs = ys := by
  obtain ⟨its, r, ⟨o, n, e, _, _, d⟩, _⟩ := I.list h
  obtain ⟨its', r', ⟨o', n', e', _, _, d'⟩, _⟩ := I.list h'
  rw [e] at e'; cases e'
  rw [d] at d'
  injection d' with d1 _
  have : its = its' := by simpa using congrArg Array.toList d1
  subst this
  exact r.inj r'
end

abbrev Cx.wish (X : Cx) (E : Value → Shared → Prop) : Cx := { X with xe := E }
abbrev Cx.nox (X : Cx) : Cx := X.wish fun _ _ => False
theorem Cx.Ok.wish {X : Cx} (ok : X.Ok) (E : Value → Shared → Prop) : (X.wish E).Ok :=
  ⟨ok.mod, ok.kind, ok.glob, ok.blt, ok.above, ok.inj, ok.has, ok.cab, ok.hd, ok.frames, ok.stk, ok.exf, ok.bs, ok.bsz, ok.noex, ok.exfs, ok.funs, ok.frf⟩
theorem Cx.Ok.unwish {X : Cx} {E : Value → Shared → Prop} (ok : (X.wish E).Ok) : X.Ok :=
  ⟨ok.mod, ok.kind, ok.glob, ok.blt, ok.above, ok.inj, ok.has, ok.cab, ok.hd, ok.frames, ok.stk, ok.exf, ok.bs, ok.bsz, ok.noex, ok.exfs, ok.funs, ok.frf⟩
section
variable {X : Cx} {pins : List (Addr × Obj)} {σ : St} {H : Hp} {s : Shared} {E : Value → Shared → Prop}
theorem Inv.wish (I : Inv X pins σ H s) (E : Value → Shared → Prop) : Inv (X.wish E) pins σ H s := ⟨I.ok.wish E, I.os, I.bare, I.base, I.loc, I.cell, I.free, I.freeC, I.pin, I.hok, I.len⟩
theorem Inv.unwish (I : Inv (X.wish E) pins σ H s) : Inv X pins σ H s := ⟨I.ok.unwish, I.os, I.bare, I.base, I.loc, I.cell, I.free, I.freeC, I.pin, I.hok, I.len⟩
theorem SP.unwish {D : Ends} {f : Flow} {s' : Shared} (h : SP (X.wish E) pins D f s') : SP X pins D f s' := by
  cases f with
  | next => obtain ⟨σ', H', I, q⟩ := h; exact ⟨σ', H', I.unwish, q⟩
  | brk => obtain ⟨σ', H', I, q⟩ := h; exact ⟨σ', H', I.unwish, q⟩
  | cont => obtain ⟨σ', H', I, q⟩ := h; exact ⟨σ', H', I.unwish, q⟩
  | ret u => obtain ⟨v, σ', H', I, r, q⟩ := h; exact ⟨v, σ', H', I.unwish, r, q⟩
theorem PE.nox {e : Expr} {t : TE} (h : PE X.nox e t) : PE X e t := fun pins s σ H Q I hw =>
  wpAny_mono (h pins s σ H Q (I.wish _) hw) (fun _ _ ⟨v, H', I', r, q⟩ => ⟨v, H', I'.unwish, r, q⟩) fun _ _ z => False.elim z
theorem PT.nox {e : Expr} {t : TT} (h : PT X.nox e t) : PT X e t := fun pins s σ H Q I hw =>
  wpAny_mono (h pins s σ H Q (I.wish _) hw) (fun _ _ ⟨H', I', q⟩ => ⟨H', I'.unwish, q⟩) fun _ _ z => False.elim z
theorem PSs.nox {st : List Stmt} {t : TS} (h : PSs X.nox st t) : PSs X st t := fun pins s σ H D I hw =>
  wpAny_mono (h pins s σ H D (I.wish _) hw) (fun _ _ q => q.unwish) fun _ _ z => False.elim z
end

section
variable {X : Cx} {st : Stmt} {rest : List Stmt} {t u : TS} {e : Expr} {te : TE} {pos : Pos}
def tNext : TS := fun D σ H => D.nx σ H
def tSeq (t u : TS) : TS := fun D σ H => t { D with nx := u D } σ H
theorem pss_nil : PSs X [] tNext := fun _ _ σ H _ I h => wpAny_execs_nil ⟨σ, H, I, h⟩
theorem pss_cons (h1 : PS X st t) (h2 : PSs X rest u) : PSs X (st :: rest) (tSeq t u) := by
  intro pins s σ H D I h
  refine wpAny_execs_cons (thn (h1 pins s σ H { D with nx := u D } I h) fun f s1 q => ?_)
  cases f with
  | next =>
    obtain ⟨σ', H', I', q⟩ := q
    exact h2 pins s1 σ' H' D I' q
  | ret v => exact q
  | brk => exact q
  | cont => exact q
theorem pss_one (h1 : PS X st t) : PSs X [st] t := by
  intro pins s σ H D I h
  refine wpAny_execs_cons (thn (h1 pins s σ H D I h) fun f s1 q => ?_)
  cases f with
  | next => exact wpAny_execs_nil q
  | ret v => exact q
  | brk => exact q
  | cont => exact q
theorem Inv.quiet {pins : List (Addr × Obj)} {σ : St} {H : Hp} {s : Shared} (I : Inv X pins σ H s) : interactive X.env = false := by simp [interactive, I.ok.kind]
def tDrop (te : TE) : TS := fun D σ H => te σ H fun _ H1 => D.nx σ H1
theorem ps_expr (he : PE X e te) (hs : swapsWith e none pos.line X.env = pure false := by rfl) : PS X (.Expr e pos) (tDrop te) := by
  intro pins s σ H D I h
  exact wpAny_Expr_any (thn (he pins s σ H _ I h) fun v s1 ⟨x, H1, I1, r1, q1⟩ => ⟨σ, H1, I1, q1⟩) I.quiet hs
def tRet (te : TE) : TS := fun D σ H => te σ H D.rt
theorem ps_ret (he : PE X e te) : PS X (.Return (some e) pos) (tRet te) := by
  intro pins s σ H D I h
  exact wpAny_Return_some (thn (he pins s σ H _ I h) fun v s1 ⟨x, H1, I1, r1, q1⟩ => ⟨x, σ, H1, I1, r1, q1⟩)
def tIfS (c : TT) (t u : TS) : TS := fun D σ H => c σ H fun b H1 => if b = true then t D σ H1 else u D σ H1
theorem ps_if {c : Expr} {a b : List Stmt} {tc : TT} (hc : PT X c tc) (ha : PSs X a t) (hb : PSs X b u) : PS X (.If c a b pos) (tIfS tc t u) := by
  intro pins s σ H D I h
  refine wpAny_If (thn (hc pins s σ H _ I h) fun d s1 ⟨H1, I1, q1⟩ => ?_)
  cases d with
  | true => exact ha pins s1 σ H1 D I1 q1
  | false => exact hb pins s1 σ H1 D I1 q1
def tNever : TS := fun _ _ _ => False
theorem ps_never : PS X st tNever := fun _ _ _ _ _ _ h => h.elim
end

abbrev TG := V → St → Hp → (St → Hp → Prop) → Prop
abbrev TGs := List V → St → Hp → (St → Hp → Prop) → Prop
def PG (X : Cx) (target : Expr) (t : TG) : Prop :=
  ∀ (pins : List (Addr × Obj)) (s : Shared) (σ : St) (H : Hp) (v : V) (u : Value) (Q : St → Hp → Prop), Inv X pins σ H s → RelV v u → t v σ H Q →
    wpAny (model X.prog X.w) X.A (assign target X.env u) (fun _ s' => ∃ σ' H', Inv X pins σ' H' s' ∧ Q σ' H') X.xe s
def PGs (X : Cx) (ts : List Expr) (t : TGs) : Prop :=
  ∀ (pins : List (Addr × Obj)) (s : Shared) (σ : St) (H : Hp) (vs : List V) (us : List Value) (Q : St → Hp → Prop), Inv X pins σ H s → Vals vs us → t vs σ H Q →
    wpAny (model X.prog X.w) X.A (assignInOrder ((assignEach ts X.env).map (·.2)) us) (fun _ s' => ∃ σ' H', Inv X pins σ' H' s' ∧ Q σ' H') X.xe s
abbrev TIp := V → V → Hp → VK → Prop
def PIp (X : Cx) (op : Operator) (t : TIp) : Prop :=
  ∀ (pins : List (Addr × Obj)) (s : Shared) (σ : St) (H : Hp) (x y : V) (v u : Value) (Q : VK), Inv X pins σ H s → RelV x v → RelV y u → t x y H Q →
    wpAny (model X.prog X.w) X.A (inplaceOp op v u) (EP X pins σ Q) X.xe s
section
variable {X : Cx} {pos : Pos}
def gName (i : Nat) : TG := fun v σ H Q => Q (σ.set i (some v)) H
theorem pg_name {i : Nat} {x : Str} (hN : X.N.Nodup) (hi : X.N[i]? = some x) (hx : Loc X.env.scope x) (hf : X.fn x = true ∨ X.env.scope.names.lookup x = some .local := by first | exact .inl rfl | exact .inr rfl | assumption) : PG X (.Name x pos) (gName i) := by
  intro pins s σ H v u Q I r h
  exact wpAny_assign_Name (store_ok I hN hi hx r (fun s' I' => ⟨_, H, I', h⟩) hf)
def gNil : TGs := fun vs σ H Q => vs = [] ∧ Q σ H
def gCons (t : TG) (u : TGs) : TGs := fun vs σ H Q => ∃ v r, vs = v :: r ∧ t v σ H fun σ' H' => u r σ' H' Q
theorem pgs_nil : PGs X [] gNil := by
  intro pins s σ H vs us Q I r h
  obtain ⟨e, h⟩ := h
  subst e
  cases r
  exact assignInOrder_nil ⟨σ, H, I, h⟩
theorem pgs_cons {e : Expr} {es : List Expr} {t : TG} {u : TGs} (h1 : PG X e t) (h2 : PGs X es u)
    (hs : (assignEach (e :: es) X.env).map (·.2) = assign e X.env :: (assignEach es X.env).map (·.2) := by rfl) : PGs X (e :: es) (gCons t u) := by
  intro pins s σ H vs us Q I r h
  obtain ⟨v, vr, e1, h⟩ := h
  subst e1
  cases r with
  | cons r rr =>
    rw [hs]
    refine assignInOrder_cons (thn (h1 pins s σ H _ _ _ I r h) fun _ s1 ⟨σ1, H1, I1, q1⟩ => ?_)
    exact h2 pins s1 σ1 H1 _ _ Q I1 rr q1
def gTup (K : PySem.W.Frag) (n : Nat) (t : TGs) : TG := fun v σ H Q => ∃ a xs, v = .ref a ∧ SqT K H a xs ∧ xs.length = n ∧ t xs σ H Q
theorem pg_tup {es : List Expr} {k : Nat} {t : TGs} {n : Nat} (hc : X.calm = true) (h : PGs X es t)
    (hn : (assignEach es X.env).length = n := by rfl) (hst : (assignEach es X.env).findIdx? (·.1) = none := by rfl) : PG X (.Tuple es k pos) (gTup X.K n t) := by
  intro pins s σ H v u Q I r hw
  obtain ⟨a, xs, e1, hq, hl, hw⟩ := hw
  subst e1
  cases r
  obtain ⟨its, rv, ht, hz⟩ := I.tuple hq
  refine assign_Tuple_tuple (I.ok.hd hc) ht (by simp [hn, ← hl, rv.length]) hst fun h' hx => ?_
  have I1 : Inv X pins σ H { s with heap := h' } := I.kept (t' := s.toks) fun b o e => hx b o (Nat.ne_of_lt (Heap.lt_size e)) e
  exact h pins _ σ H xs _ Q I1 (by simpa using rv) hw
def tAsg (te : TE) (g : TG) : TS := fun D σ H => te σ H fun x H1 => g x σ H1 D.nx
theorem ps_asg {tg e : Expr} {te : TE} {g : TG} (he : PE X e te) (hg : PG X tg g) (hs : swapsWithSole [tg] e pos.line X.env = pure false := by rfl) (hw : swappedStores [tg] e X.env = pure none := by rfl)
    (h1 : (assignEach [tg] X.env).map (·.2) = [assign tg X.env] := by rfl) : PS X (.Assign [tg] e pos) (tAsg te g) := by
  intro pins s σ H D I h
  refine wpAny_Assign_stores (thn (he pins s σ H _ I h) fun v s1 ⟨x, H1, I1, r1, q1⟩ => ?_) hs hw
  rw [h1]
  exact thn (hg pins s1 σ H1 x v _ I1 r1 q1) fun _ s2 q => q
theorem ps_set {i : Nat} {x : Str} {e : Expr} {te : TE} {pos' : Pos} (hN : X.N.Nodup) (hi : X.N[i]? = some x) (hx : Loc X.env.scope x) (he : PE X e te) (hs : swapsWith e (some (.Name x pos')) pos.line X.env = pure false := by rfl) (hf : X.fn x = true ∨ X.env.scope.names.lookup x = some .local := by first | exact .inl rfl | exact .inr rfl | assumption) :
    PS X (.Assign [.Name x pos'] e pos) (tAsg te (gName i)) := by
  intro pins s σ H D I h
  refine wpAny_Assign_Name (thn (he pins s σ H _ I h) fun v s1 ⟨y, H1, I1, r1, q1⟩ => ?_) hs
  exact store_ok I1 hN hi hx r1 (fun s2 I2 => ⟨_, H1, I2, q1⟩) hf
def tAug (i : Nat) (te : TE) (ti : TIp) : TS := fun D σ H => ∃ x, σ[i]? = some (some x) ∧ te σ H fun y H1 => ti x y H1 fun z H2 => D.nx (σ.set i (some z)) H2
theorem ps_aug {i : Nat} {x : Str} {e : Expr} {te : TE} {op : Operator} {ti : TIp} {pos' : Pos} (hN : X.N.Nodup) (hi : X.N[i]? = some x) (hx : Loc X.env.scope x) (he : PE X e te) (ho : PIp X op ti) (hf : X.fn x = true ∨ X.env.scope.names.lookup x = some .local := by first | exact .inl rfl | exact .inr rfl | assumption) :
    PS X (.AugAssign (.Name x pos') op e pos) (tAug i te ti) := by
  intro pins s σ H D I h
  obtain ⟨v, e1, h⟩ := h
  obtain ⟨m, hn, hl⟩ := I.loc
  have vis : Vis X.env.scope x := by rcases hx with k | k; exact .inl k; exact .inr (.inl k)
  obtain ⟨u, r, l⟩ := hl i x v hi e1 vis
  refine wpAny_AugAssign_Name ?_
  have go : wpAny (model X.prog X.w) X.A (eval e X.env) (fun w s₂ => wpAny (model X.prog X.w) X.A (inplaceOp op u w) (fun r s₃ => wpAny (model X.prog X.w) X.A (storeName X.env x r) (fun _ => SP X pins D .next) X.xe s₃) X.xe s₂) X.xe s := by
    refine thn (he pins s σ H _ I h) fun w s1 ⟨y, H1, I1, r1, q1⟩ => ?_
    refine thn (ho pins s1 σ H1 v y u w _ I1 r r1 q1) fun z s2 ⟨zv, H2, I2, r2, q2⟩ => ?_
    exact store_ok I2 hN hi hx r2 (fun s3 I3 => ⟨_, H2, I3, q2⟩) hf
  rcases l with ⟨hk, hm⟩ | ⟨hk, c, hc, hcell⟩
  · exact wpAny_loadName_local I.ok.kind hk hn hm go
  · rcases hk with hk | hk
    · exact wpAny_loadName_cell I.ok.kind hk hc hcell go
    · rcases hx with k | k
      · have : X.env.scope.names.lookup x = some .free := hk
        rw [k] at this; cases this
      · have : X.env.scope.names.lookup x = some .free := hk
        rw [k] at this; cases this
def ipI (f : Int → Int → Int) : TIp := fun x y H Q => ∃ i j, x = .int i ∧ y = .int j ∧ Q (.int (f i j)) H
theorem ip_add : PIp X .Add (ipI fun i j => i + j) := by
  intro pins s σ H x y v u Q I r1 r2 h
  obtain ⟨i, j, e1, e2, q⟩ := h
  subst e1; subst e2
  obtain ⟨t, rfl⟩ := r1
  obtain ⟨t', rfl⟩ := r2
  exact iadd_int ⟨.int _, H, I.tok _, ⟨_, rfl⟩, q⟩
end

section
variable {X : Cx} {pos : Pos}
def tWhile (c : TT) (tb : TS) : TS := fun D σ H => ∃ W : Nat → St → Hp → Prop, (∃ m, W m σ H) ∧ ∀ m σ H, W m σ H →
  c σ H fun b H1 => if b = true then ∃ N : St → Hp → Prop, (∀ σ' H', N σ' H' → ∃ m', m' < m ∧ W m' σ' H') ∧ tb { D with nx := N, ct := N, bk := D.nx } σ H1 else D.nx σ H1
theorem ps_while {c : Expr} {body : List Stmt} {tc : TT} {tb : TS} (hp : PassesOwn (model X.prog X.w) X.A X.env X.xe) (hc : PT X c tc) (hb : PSs X body tb) : PS X (.While c body [] pos) (tWhile tc tb) := by
  intro pins s σ H D I h
  obtain ⟨W, ⟨m0, w0⟩, turn⟩ := h
  refine wpAny_While (codeAny_whileLoop (fun n s' => ∃ σ' H', Inv X pins σ' H' s' ∧ W n σ' H') ?_ m0 ⟨σ, H, I, w0⟩)
  rintro n s1 ⟨σ1, H1, I1, w1⟩
  refine wpAny_passesOwn hp (thn (hc pins s1 σ1 H1 _ I1 (turn n σ1 H1 w1)) fun b s2 ⟨H2, I2, q2⟩ => ?_)
  cases b with
  | true =>
    obtain ⟨N, hN, q2⟩ := q2
    rw [if_pos rfl]
    refine wpAny_passesOwn hp (thn (hb pins s2 σ1 H2 _ I2 q2) fun f s3 q3 => ?_)
    cases f with
    | next =>
      obtain ⟨σ3, H3, I3, n3⟩ := q3
      obtain ⟨m', hm, w3⟩ := hN σ3 H3 n3
      exact ⟨m', hm, σ3, H3, I3, w3⟩
    | cont =>
      obtain ⟨σ3, H3, I3, n3⟩ := q3
      obtain ⟨m', hm, w3⟩ := hN σ3 H3 n3
      exact ⟨m', hm, σ3, H3, I3, w3⟩
    | brk => exact q3
    | ret v => exact q3
  | false =>
    rw [if_neg Bool.false_ne_true]
    exact wpAny_execs_nil ⟨σ1, H2, I2, q2⟩
end

structure It where
  go : Nat → Hp → Prop
  yld : Nat → Hp → V → Hp → Prop
  stop : Nat → Hp → Prop
def FpOk (X : Cx) (pins : List (Addr × Obj)) (H : Hp) (b : Addr) : Prop :=
  H b = none ∧ b ≠ X.env.locals ∧ b ∉ X.fs ∧ (b ∈ X.ex ∨ X.s₀.heap.objs.size ≤ b) ∧ (∀ x c, X.env.cells.lookup x = some c → c ≠ b) ∧ ∀ p ∈ X.pn ++ pins, p.1 ≠ b
theorem Inv.fpOk {X : Cx} {pins : List (Addr × Obj)} {σ : St} {H H' : Hp} {s : Shared} {b : Addr} (I : Inv X pins σ H s) (hb : s.heap.objs.size ≤ b) (hn : H' b = none) : FpOk X pins H' b := by
  refine ⟨hn, Nat.ne_of_gt (Nat.lt_of_lt_of_le I.lt hb), I.nofs hb, .inr (Nat.le_trans I.sz hb), fun x c e z => ?_, fun p hp z => ?_⟩
  · obtain ⟨v, q⟩ := I.cell x c e
    exact absurd (Nat.lt_of_lt_of_le q.lt (by rw [z]; exact hb)) (Nat.lt_irrefl _)
  · exact absurd (Nat.lt_of_lt_of_le (Heap.lt_size (I.pin p hp).1) (by rw [z]; exact hb)) (Nat.lt_irrefl _)
structure Turn (P : Program) (w : World) (K : PySem.W.Frag) (tg : Expr) (J : It) (fp : List Addr) (it : Addr) (tn : Nat → Heap → Prop) : Prop where
  mem : it ∈ fp
  obj : ∀ i h, tn i h → ∀ b ∈ fp, ∃ o, h.get? b = some o ∧ ∀ v, o.data ≠ .cell v
  keep : ∀ i h h', tn i h → (∀ b ∈ fp, ∀ o, h.get? b = some o → h'.get? b = some o) → tn i h'
  item : ∀ (X : Cx), X.prog = P → X.w = w → X.K = K → X.calm = true → ∀ (i : Nat) (pins : List (Addr × Obj)) (s : Shared) (σ : St) (H : Hp) (E : Value → Shared → Prop), Inv X pins σ H s → (∀ b ∈ fp, FpOk X pins H b) → tn i s.heap → J.go i H →
    wpAny (model P w) X.A (pyNext (.ref it)) (fun r s1 => ∃ u, r = some u ∧
      wpAny (model P w) X.A (letOwnedTupleGo tg (.ref it) u) (fun _ s2 => ∃ x H', Inv X pins σ H' s2 ∧ RelV x u ∧ J.yld i H x H' ∧ tn (i + 1) s2.heap ∧ ∀ b ∈ fp, H' b = none) E s1) E s
  done : ∀ (X : Cx), X.prog = P → X.w = w → X.K = K → X.calm = true → ∀ (i : Nat) (pins : List (Addr × Obj)) (s : Shared) (σ : St) (H : Hp) (E : Value → Shared → Prop), Inv X pins σ H s → (∀ b ∈ fp, FpOk X pins H b) → tn i s.heap → J.stop i H →
    wpAny (model P w) X.A (pyNext (.ref it)) (fun r s1 => r = none ∧ Inv X pins σ H s1) E s
  self : ∀ (A : Around) (i : Nat) (s : Shared) (Q : Value → Shared → Prop) (E : Value → Shared → Prop), tn i s.heap → Q (.ref it) s → wpAny (model P w) A (pyIter (.ref it)) Q E s
abbrev TI := St → Hp → (It → Hp → Prop) → Prop
def PIE (X : Cx) (pins : List (Addr × Obj)) (σ : St) (tg : Expr) (R : It → Hp → Prop) (itv : Value) (s2 : Shared) : Prop :=
  ∃ (it : Addr) (fp : List Addr) (tn : Nat → Heap → Prop) (J : It) (H' : Hp), itv = .ref it ∧ Inv X pins σ H' s2 ∧ Turn X.prog X.w X.K tg J fp it tn ∧ tn 0 s2.heap ∧ (∀ b ∈ fp, FpOk X pins H' b) ∧ R J H'
def PI (X : Cx) (tg iter : Expr) (wi : TI) : Prop :=
  ∀ (pins : List (Addr × Obj)) (s : Shared) (σ : St) (H : Hp) (R : It → Hp → Prop), Inv X pins σ H s → wi σ H R →
    wpAny (model X.prog X.w) X.A (eval iter X.env) (fun v s1 => wpAny (model X.prog X.w) X.A (pyIter v) (PIE X pins σ tg R) X.xe s1) X.xe s

theorem go_of {M : Model} {A : Around} {E : Value → Shared → Prop} {s : Shared} {tg : Expr} {it : Addr} {u : Value} {o : Obj} {n : String} {vs : Array Value} {Q : Unit → Shared → Prop} (ho : s.heap.get? it = some o) (hc : o.cls = .type n) (hd : o.data = .fields vs)
    (hn : ["enumerate", "zip", "dict_itemiterator", "dict_reverseitemiterator", "odict_iterator", "itertools.zip_longest", "itertools.pairwise"].contains n = false) (hQ : Q () s) : wpAny M A (letOwnedTupleGo tg (.ref it) u) Q E s := by
  unfold letOwnedTupleGo
  cases tg <;> first
    | exact wpAny_pure hQ
    | (cases u <;> first
        | exact wpAny_pure hQ
        | (refine wpAny_bind (wpAny_load ho ?_)
           rw [hc, hd]
           show wpAny M A (if (["enumerate", "zip", "dict_itemiterator", "dict_reverseitemiterator", "odict_iterator", "itertools.zip_longest", "itertools.pairwise"].contains n && vs[0]? == some (rawInt _)) = true then _ else _) Q E s
           rw [if_neg (by intro h; rw [hn, Bool.false_and] at h; cases h)]
           exact wpAny_pure hQ))

def Itl (K : PySem.W.Frag) (a : Addr) : It :=
  ⟨fun i H => ∃ xs x, SqL K H a xs ∧ xs[i]? = some x, fun i H x H' => H' = H ∧ ∀ xs, SqL K H a xs → xs[i]? = some x, fun i H => ∃ xs, SqL K H a xs ∧ xs.length ≤ i⟩
def Itr (lo : Int) (n : Nat) : It := ⟨fun i _ => i < n, fun i H x H' => H' = H ∧ x = .int (lo + i), fun i _ => n ≤ i⟩
theorem turn_list {P : Program} {w : World} {K : PySem.W.Frag} {tg : Expr} (a it : Addr) : Turn P w K tg (Itl K a) [it] it (fun i h => h.IsListIter it a i) where
  mem := by simp
  obj := fun i h st b hb => by
    have e : b = it := by simpa using hb
    subst e
    obtain ⟨o, e, c, d⟩ := st
    exact ⟨o, e, fun v z => by rw [d] at z; cases z⟩
  keep := fun i h h' st k => st.at fun o e => k it (by simp) o e
  item := by
    intro X hP hw hK hc i pins s σ H E I hf st hg
    subst hP hw hK
    obtain ⟨xs, x, hq, hx⟩ := hg
    obtain ⟨its, rv, p, hz⟩ := I.list hq
    obtain ⟨u, hu, ru⟩ := rv.get hx
    obtain ⟨f0, f1, f2, f3, f4, f5⟩ := hf it (by simp)
    refine wpAny_pyNext_list_item st p.isList (x := u) (by simpa using hu) fun h' st' sb => ?_
    have I1 : Inv X pins σ H { s with heap := h' } := I.turned (t' := s.toks) (fun b o hb e => (sb.2 b hb).trans e) f0 f1 f3 f4 f5
    obtain ⟨o, e, c, d⟩ := id st'
    exact ⟨u, rfl, go_of (s := { s with heap := h' }) e c d (by decide) ⟨x, H, I1, ru, ⟨rfl, fun ys hy => by rw [I.list_inj hy hq]; exact hx⟩, st', fun b hb => (hf b hb).1⟩⟩
  done := by
    intro X hP hw hK hc i pins s σ H E I hf st hg
    subst hP hw hK
    obtain ⟨xs, hq, hx⟩ := hg
    obtain ⟨its, rv, p, hz⟩ := I.list hq
    obtain ⟨f0, f1, f2, f3, f4, f5⟩ := hf it (by simp)
    have hl := rv.length
    exact wpAny_pyNext_list_end (I.ok.hd hc) st p.isList (by simp; omega) fun h' eb => ⟨rfl, I.turned (t' := s.toks) (fun b o hb e => eb b o hb e) f0 f1 f3 f4 f5⟩
  self := fun _ _ _ _ _ st h => wpAny_pyIter_listiter st h
theorem turn_range {P : Program} {w : World} {K : PySem.W.Frag} {tg : Expr} (it : Addr) (lo : Int) (n : Nat) : Turn P w K tg (Itr lo n) [it] it (fun i h => IsRangeIter h it (lo + (i : Nat) * 1) ((n : Int) - (i : Nat)) 1) where
  mem := by simp
  obj := fun i h st b hb => by
    have e : b = it := by simpa using hb
    subst e
    exact ⟨_, st, fun v z => by
      have z' : Data.fields _ = Data.cell v := z
      cases z'⟩
  keep := fun i h h' st k => k it (by simp) _ st
  item := by
    intro X hP hw hK hc i pins s σ H E I hf st hg
    subst hP hw hK
    obtain ⟨f0, f1, f2, f3, f4, f5⟩ := hf it (by simp)
    have W := Walks.range (prog := X.prog) (w := X.w) (I.ok.hd hc) it lo 1 n
    refine W.item i s _ _ hg st fun v h' tk hv st' kk => ?_
    obtain ⟨t, rfl⟩ := hv
    have I1 : Inv X pins σ H { s with heap := h', toks := tk } := I.turned (fun b o hb e => kk b o (by simpa using hb) e) f0 f1 f3 f4 f5
    refine ⟨_, rfl, go_of (s := { s with heap := h', toks := tk }) (n := "range_iterator") st' rfl rfl (by decide) ⟨.int (lo + i), H, I1, ⟨t, ?_⟩, ⟨rfl, rfl⟩, st', fun b hb => (hf b hb).1⟩⟩
    rw [Int.mul_one]
  done := by
    intro X hP hw hK hc i pins s σ H E I hf st hg
    subst hP hw hK
    obtain ⟨f0, f1, f2, f3, f4, f5⟩ := hf it (by simp)
    exact wpAny_pyNext_range_end (I.ok.hd hc) st (by have : n ≤ i := hg; omega) fun h' eb => ⟨rfl, I.turned (t' := s.toks) (fun b o hb e => eb b o hb e) f0 f1 f3 f4 f5⟩
  self := fun _ _ _ _ _ st h => wpAny_pyIter_rangeiter st h
end L2

namespace L2
open PySem PySem.Spec PyProof.Rows
section
variable {X : Cx} {tg : Expr}
def iList (K : PySem.W.Frag) (tl : TE) : TI := fun σ H R => tl σ H fun x H1 => ∃ a, x = .ref a ∧ (∃ xs, SqL K H1 a xs) ∧ R (Itl K a) H1
theorem pi_list {l : Expr} {tl : TE} (hl : PE X l tl) : PI X tg l (iList X.K tl) := by
  intro pins s σ H R I h
  refine thn (hl pins s σ H _ I h) fun v s1 ⟨x, H1, I1, r1, q1⟩ => ?_
  obtain ⟨a, e, ⟨xs, hq⟩, q⟩ := q1
  subst e
  cases r1
  obtain ⟨its, rv, p, hz⟩ := I1.list hq
  refine wpAny_pyIter_list p.isList ?_
  refine ⟨s1.heap.objs.size, [s1.heap.objs.size], _, _, H1, rfl, I1.kept (t' := s1.toks) fun b o e => Heap.get?_push_of_some _ e, turn_list a _, ⟨_, Heap.get?_push_size _ rfl, rfl, rfl⟩, fun b hb => ?_, q⟩
  have e : b = s1.heap.objs.size := by simpa using hb
  subst e
  exact I1.fpOk (Nat.le_refl _) (I1.hok.fresh (Nat.le_refl _))
theorem range_it {pins : List (Addr × Obj)} {σ : St} {H : Hp} {s : Shared} {R : It → Hp → Prop} {E : Value → Shared → Prop} {lo hi : Int} {t u v : Tok} {tk : Nat} (I : Inv X pins σ H s) (h1 : -(2 ^ 62) ≤ lo) (h2 : lo < 2 ^ 62) (h3 : -(2 ^ 62) ≤ hi) (h4 : hi < 2 ^ 62)
    (q : R (Itr lo (hi - lo).toNat) H) : wpAny (model X.prog X.w) X.A (pyIter (.ref s.heap.objs.size)) (PIE X pins σ tg R) E { s with heap := s.heap.push { cls := .type "range", data := .fields #[.int lo t, .int hi u, .int 1 v] }, toks := tk } := by
  refine wpAny_pyIter_range (IsRange.new ..) (small_one h1 h2 h3 h4) ?_
  have I1 : Inv X pins σ H { s with heap := s.heap.push { cls := .type "range", data := .fields #[.int lo t, .int hi u, .int 1 v] }, toks := tk } := I.kept fun b o e => Heap.get?_push_of_some _ e
  refine ⟨(s.heap.push { cls := .type "range", data := .fields #[.int lo t, .int hi u, .int 1 v] }).objs.size, [(s.heap.push { cls := .type "range", data := .fields #[.int lo t, .int hi u, .int 1 v] }).objs.size], _, _, H, rfl,
    I1.kept (t' := tk) fun b o e => Heap.get?_push_of_some _ e, turn_range _ lo (hi - lo).toNat, ?_, fun b hb => ?_, q⟩
  · have e1 : lo + ((0 : Nat) : Int) * 1 = lo := by simp
    have e2 : (((hi - lo).toNat : Nat) : Int) - ((0 : Nat) : Int) = Builtin.Range.rangeSize lo hi 1 := by rw [rangeSize_one]; split <;> omega
    show IsRangeIter _ _ (lo + ((0 : Nat) : Int) * 1) ((((hi - lo).toNat : Nat) : Int) - ((0 : Nat) : Int)) 1
    rw [e1, e2]
    exact Heap.get?_push_size _ rfl
  · have e : b = (s.heap.push { cls := .type "range", data := .fields #[.int lo t, .int hi u, .int 1 v] }).objs.size := by simpa using hb
    subst e
    exact I1.fpOk (Nat.le_refl _) (I1.hok.fresh (Nat.le_refl _))
def iRng2 (ta : TA) : TI := fun σ H R => ta σ H fun vs H1 => ∃ i j : Int, vs = [.int i, .int j] ∧ (-(2 ^ 62) ≤ i ∧ i < 2 ^ 62 ∧ -(2 ^ 62) ≤ j ∧ j < 2 ^ 62) ∧ R (Itr i (j - i).toNat) H1
theorem pi_range2 {a b : Expr} {ta : TA} {p pos : Pos} (hg : Gl X "range") (hm : X.mg "range" = none) (ha : PA X [a, b] ta) (hs : starEach [a, b] X.env = [(false, eval a X.env), (false, eval b X.env)] := by rfl) (hs2 : starEach [b] X.env = [(false, eval b X.env)] := by rfl) :
    PI X tg (.Call (.Name "range" p) [a, b] [] pos) (iRng2 ta) := by
  intro pins s σ H R I h
  refine Call_ (ld_blt I hg hm boot_range (PyProof.Rows.callWith_type1 (thn (ha pos pins s σ H _ I h) fun us s1 ⟨vs, H1, I1, r1, q1⟩ => ?_) (by rw [hs, hs2]) (by rw [hs2]; rfl)))
  obtain ⟨i, j, e, ⟨q1, q2, q3, q4⟩, q⟩ := q1
  subst e
  cases r1 with
  | cons r rr =>
    cases rr with
    | cons r' rr =>
      cases rr
      obtain ⟨t, rfl⟩ := r
      obtain ⟨t', rfl⟩ := r'
      exact call_range_2 (range_it I1 q1 q2 q3 q4 q)

def tFor (wi : TI) (g : TG) (tb : TS) : TS := fun D σ H => wi σ H fun J H1 => ∃ W : Nat → Nat → St → Hp → Prop, (∃ m, W 0 m σ H1) ∧ ∀ i m σ H, W i m σ H →
  (J.stop i H ∧ D.nx σ H) ∨ (J.go i H ∧ ∃ N : St → Hp → Prop, (∀ σ' H', N σ' H' → ∃ m', m' < m ∧ W (i + 1) m' σ' H') ∧ ∀ x H', J.yld i H x H' → g x σ H' fun σ2 H2 => tb { D with nx := N, ct := N, bk := D.nx } σ2 H2)
def pinsAt (fp : List Addr) (h : Heap) : List (Addr × Obj) := fp.filterMap fun b => (h.get? b).map fun o => (b, o)
theorem mem_pinsAt {fp : List Addr} {h : Heap} {b : Addr} {o : Obj} (hb : b ∈ fp) (e : h.get? b = some o) : (b, o) ∈ pinsAt fp h := List.mem_filterMap.mpr ⟨b, hb, by rw [e]; rfl⟩
theorem of_pinsAt {fp : List Addr} {h : Heap} {p : Addr × Obj} (hp : p ∈ pinsAt fp h) : p.1 ∈ fp ∧ h.get? p.1 = some p.2 := by
  obtain ⟨b, hb, e⟩ := List.mem_filterMap.mp hp
  cases q : h.get? b with
  | none => rw [q] at e; cases e
  | some o =>
    rw [q] at e
    have e' : (b, o) = p := Option.some.inj e
    subst e'
    exact ⟨hb, q⟩
theorem Inv.pinned {pins : List (Addr × Obj)} {σ : St} {H : Hp} {s : Shared} {fp : List Addr} (I : Inv X pins σ H s) (hf : ∀ b ∈ fp, FpOk X pins H b) (ho : ∀ b ∈ fp, ∃ o, s.heap.get? b = some o ∧ ∀ v, o.data ≠ .cell v) : Inv X (pins ++ pinsAt fp s.heap) σ H s :=
  I.pins_of fun p hp => (List.mem_append.mp hp).elim (fun z => I.pin p (List.mem_append_right _ z)) fun z => by
    obtain ⟨hb, e⟩ := of_pinsAt z
    obtain ⟨f0, f1, f2, _⟩ := hf p.1 hb
    obtain ⟨o, e', d⟩ := ho p.1 hb
    rw [e] at e'; cases e'
    exact ⟨e, f0, f1, f2, d⟩
theorem Inv.unpinned {pins pl : List (Addr × Obj)} {σ : St} {H : Hp} {s : Shared} (I : Inv X (pins ++ pl) σ H s) : Inv X pins σ H s := I.pins_of fun p hp => I.pin p (List.mem_append_right _ (List.mem_append_left _ hp))
theorem ps_for {iter : Expr} {body : List Stmt} {wi : TI} {g : TG} {tb : TS} {pos : Pos} (hp : PassesOwn (model X.prog X.w) X.A X.env X.xe) (hc : X.calm = true) (hi : PI X tg iter wi) (hg : PG X tg g) (hb : PSs X body tb)
    (hs : ∀ x, foldedSetIterable iter X.env x = pure x := by intro _; rfl) : PS X (.For tg iter body [] pos) (tFor wi g tb) := by
  intro pins s σ H D I h
  refine wpAny_For (thn (hi pins s σ H _ I h) fun v s1 h1 => thn h1 fun itv s2 h2 => ?_) hs
  obtain ⟨it, fp, tn, J, H2, e, I2, T, st2, f2, W, ⟨m0, w0⟩, turn⟩ := h2
  subst e
  -- what stays true of the iterator's objects through the loop
  have stat : ∀ {H' : Hp}, (∀ b ∈ fp, H' b = none) → ∀ b ∈ fp, FpOk X pins H' b := fun hn b hb => ⟨hn b hb, (f2 b hb).2⟩
  refine codeAny_forLoop_any (fun n s' => ∃ i σ' H', Inv X pins σ' H' s' ∧ tn i s'.heap ∧ (∀ b ∈ fp, H' b = none) ∧ W i n σ' H') ?_ m0 ⟨0, σ, H2, I2, st2, fun b hb => (f2 b hb).1, w0⟩
  rintro n s3 ⟨i, σ3, H3, I3, st3, fr3, w3⟩
  rcases turn i n σ3 H3 w3 with ⟨stop, qn⟩ | ⟨go, N, hN, step⟩
  · refine wpAny_passesOwn hp (thn (T.done X rfl rfl rfl hc i pins s3 σ3 H3 X.xe I3 (stat fr3) st3 stop) fun r s4 ⟨hr, I4⟩ => ?_)
    subst hr
    exact wpAny_execs_nil ⟨σ3, H3, I4, qn⟩
  · refine wpAny_passesOwn hp (thn (T.item X rfl rfl rfl hc i pins s3 σ3 H3 X.xe I3 (stat fr3) st3 go) fun r s4 ⟨u, hr, h4⟩ => ?_)
    subst hr
    refine wpAny_passesOwn hp (thn h4 fun _ s5 ⟨x, H5, I5, r5, y5, st5, fr5⟩ => ?_)
    have I5' := I5.pinned (stat fr5) (T.obj _ _ st5)
    refine wpAny_passesOwn hp (thn (hg _ s5 σ3 H5 x u _ I5' r5 (step x H5 y5)) fun _ s6 ⟨σ6, H6, I6, q6⟩ => ?_)
    refine wpAny_passesOwn hp (thn (hb _ s6 σ6 H6 _ I6 q6) fun f s7 q7 => ?_)
    have again : ∀ {σ7 : St} {H7 : Hp}, Inv X (pins ++ pinsAt fp s5.heap) σ7 H7 s7 → N σ7 H7 → ∃ m, m < n ∧ ∃ i σ' H', Inv X pins σ' H' s7 ∧ tn i s7.heap ∧ (∀ b ∈ fp, H' b = none) ∧ W i m σ' H' := fun {σ7 H7} I7 n7 => by
      obtain ⟨m', hm, w7⟩ := hN σ7 H7 n7
      refine ⟨m', hm, i + 1, σ7, H7, I7.unpinned, T.keep _ _ _ st5 fun b hb o e => (I7.pin (b, o) (List.mem_append_right _ (List.mem_append_right _ (mem_pinsAt hb e)))).1, fun b hb => ?_, w7⟩
      obtain ⟨o, e, d⟩ := T.obj _ _ st5 b hb
      exact (I7.pin (b, o) (List.mem_append_right _ (List.mem_append_right _ (mem_pinsAt hb e)))).2.1
    cases f with
    | next => obtain ⟨σ7, H7, I7, n7⟩ := q7; exact again I7 n7
    | cont => obtain ⟨σ7, H7, I7, n7⟩ := q7; exact again I7 n7
    | brk => obtain ⟨σ7, H7, I7, q7⟩ := q7; exact ⟨σ7, H7, I7.unpinned, q7⟩
    | ret v => obtain ⟨x7, σ7, H7, I7, r7, q7⟩ := q7; exact ⟨x7, σ7, H7, I7.unpinned, r7, q7⟩
end

theorem for_list {K : PySem.W.Frag} {a : Addr} {xs : List V} {g : TG} {tb : TS} {D : Ends} {σ : St} {H : Hp} (Pv : Nat → St → Hp → Prop) (h0 : Pv 0 σ H) (hl : ∀ i σ H, i ≤ xs.length → Pv i σ H → SqL K H a xs)
    (hs : ∀ i x σ H, xs[i]? = some x → Pv i σ H → g x σ H fun σ2 H2 => tb { D with nx := Pv (i + 1), ct := Pv (i + 1), bk := D.nx } σ2 H2) (hd : ∀ σ H, Pv xs.length σ H → D.nx σ H) :
    ∃ W : Nat → Nat → St → Hp → Prop, (∃ m, W 0 m σ H) ∧ ∀ i m σ H, W i m σ H →
      ((Itl K a).stop i H ∧ D.nx σ H) ∨ ((Itl K a).go i H ∧ ∃ N : St → Hp → Prop, (∀ σ' H', N σ' H' → ∃ m', m' < m ∧ W (i + 1) m' σ' H') ∧ ∀ x H', (Itl K a).yld i H x H' → g x σ H' fun σ2 H2 => tb { D with nx := N, ct := N, bk := D.nx } σ2 H2) := by
  refine ⟨fun i m σ H => m = xs.length - i ∧ i ≤ xs.length ∧ Pv i σ H, ⟨xs.length, by simp, Nat.zero_le _, h0⟩, ?_⟩
  rintro i m σ H ⟨rfl, hi, p⟩
  have q := hl i σ H hi p
  by_cases hlt : i < xs.length
  · refine .inr ⟨⟨xs, xs[i], q, by simp [hlt]⟩, Pv (i + 1), fun σ' H' p' => ⟨xs.length - (i + 1), by omega, rfl, hlt, p'⟩, fun x H' y => ?_⟩
    obtain ⟨e, y⟩ := y
    subst e
    exact hs i x σ _ (y xs q) p
  · have e : i = xs.length := by omega
    subst e
    exact .inl ⟨⟨xs, q, Nat.le_refl _⟩, hd σ H p⟩
theorem for_range {lo : Int} {n : Nat} {g : TG} {tb : TS} {D : Ends} {σ : St} {H : Hp} (Pv : Nat → St → Hp → Prop) (h0 : Pv 0 σ H)
    (hs : ∀ i σ H, i < n → Pv i σ H → g (.int (lo + i)) σ H fun σ2 H2 => tb { D with nx := Pv (i + 1), ct := Pv (i + 1), bk := D.nx } σ2 H2) (hd : ∀ σ H, Pv n σ H → D.nx σ H) :
    ∃ W : Nat → Nat → St → Hp → Prop, (∃ m, W 0 m σ H) ∧ ∀ i m σ H, W i m σ H →
      ((Itr lo n).stop i H ∧ D.nx σ H) ∨ ((Itr lo n).go i H ∧ ∃ N : St → Hp → Prop, (∀ σ' H', N σ' H' → ∃ m', m' < m ∧ W (i + 1) m' σ' H') ∧ ∀ x H', (Itr lo n).yld i H x H' → g x σ H' fun σ2 H2 => tb { D with nx := N, ct := N, bk := D.nx } σ2 H2) := by
  refine ⟨fun i m σ H => m = n - i ∧ i ≤ n ∧ Pv i σ H, ⟨n, by simp, Nat.zero_le _, h0⟩, ?_⟩
  rintro i m σ H ⟨rfl, hi, p⟩
  by_cases hlt : i < n
  · refine .inr ⟨hlt, Pv (i + 1), fun σ' H' p' => ⟨n - (i + 1), by omega, rfl, hlt, p'⟩, fun x H' y => ?_⟩
    obtain ⟨e, y⟩ := y
    subst e y
    exact hs i σ _ hlt p
  · have e : i = n := by omega
    subst e
    exact .inl ⟨Nat.le_refl _, hd σ H p⟩
end L2

namespace L2
open PySem PySem.Spec PyProof.Rows

abbrev R2 := V → V → Hp → VK → Prop
def OpR (X : Cx) (f : Value → Value → Sem Value) (r : R2) : Prop :=
  ∀ (pins : List (Addr × Obj)) (s : Shared) (σ : St) (H : Hp) (x y : V) (v u : Value) (Q : VK), Inv X pins σ H s → RelV x v → RelV y u → r x y H Q →
    wpAny (model X.prog X.w) X.A (f v u) (EP X pins σ Q) X.xe s
def UnR (X : Cx) (f : Value → Sem Value) (r : V → Hp → VK → Prop) : Prop :=
  ∀ (pins : List (Addr × Obj)) (s : Shared) (σ : St) (H : Hp) (x : V) (v : Value) (Q : VK), Inv X pins σ H s → RelV x v → r x H Q →
    wpAny (model X.prog X.w) X.A (f v) (EP X pins σ Q) X.xe s
def CallR (X : Cx) (f : Value) (r : List V → Hp → VK → Prop) : Prop :=
  ∀ (pins : List (Addr × Obj)) (s : Shared) (σ : St) (H : Hp) (xs : List V) (us : List Value) (Q : VK), Inv X pins σ H s → Vals xs us → r xs H Q →
    wpAny (model X.prog X.w) X.A (call f us) (EP X pins σ Q) X.xe s
def tOp (r : R2) (ta tb : TE) : TE := fun σ H Q => ta σ H fun x H1 => tb σ H1 fun y H2 => r x y H2 Q
def tUn (r : V → Hp → VK → Prop) (ta : TE) : TE := fun σ H Q => ta σ H fun x H1 => r x H1 Q
def rI (C : Int → Int → Prop) (g : Int → Int → V) : R2 := fun x y H Q => ∃ i j, x = .int i ∧ y = .int j ∧ C i j ∧ Q (g i j) H
def rI0 (g : Int → Int → V) : R2 := fun x y H Q => ∃ i j, x = .int i ∧ y = .int j ∧ Q (g i j) H
def rU (g : Int → V) : V → Hp → VK → Prop := fun x H Q => ∃ i, x = .int i ∧ Q (g i) H

section
variable {X : Cx} {a b c : Expr} {ta tb tc : TE} {pos : Pos}

theorem binT (ha : PE X a ta) (hb : PE X b tb) {pins : List (Addr × Obj)} {s : Shared} {σ : St} {H : Hp} {R : V → V → Hp → Prop} (I : Inv X pins σ H s)
    (h : ta σ H fun x H1 => tb σ H1 fun y H2 => R x y H2) {Q : Value → Shared → Prop} {f : Value → Value → Sem Value}
    (hf : ∀ v u s2 x y H2, Inv X pins σ H2 s2 → RelV x v → RelV y u → R x y H2 → wpAny (model X.prog X.w) X.A (f v u) Q X.xe s2) :
    wpAny (model X.prog X.w) X.A (eval a X.env) (fun v s₁ => wpAny (model X.prog X.w) X.A (eval b X.env) (fun u s₂ => wpAny (model X.prog X.w) X.A (f v u) Q X.xe s₂) X.xe s₁) X.xe s := by
  refine thn (ha pins s σ H _ I h) fun v s1 ⟨x, H1, I1, r1, q1⟩ => ?_
  refine thn (hb pins s1 σ H1 _ I1 q1) fun u s2 ⟨y, H2, I2, r2, q2⟩ => ?_
  exact hf v u s2 x y H2 I2 r1 r2 q2

theorem pe_op {op : Operator} {r : R2} (ho : OpR X (binaryOp op) r) (ha : PE X a ta) (hb : PE X b tb) : PE X (.BinOp a op b pos) (tOp r ta tb) := by
  intro pins s σ H Q I h
  exact wpAny_BinOp (binT ha hb I h fun v u s2 x y H2 I2 rx ry q => ho pins s2 σ H2 x y v u Q I2 rx ry q)
theorem pe_un {op : UnaryOp} {r : V → Hp → VK → Prop} (ho : UnR X (unaryOp op) r) (ha : PE X a ta) : PE X (.UnaryOp op a pos) (tUn r ta) := by
  intro pins s σ H Q I h
  exact UnaryOp_ (thn (ha pins s σ H _ I h) fun v s1 ⟨x, H1, I1, r1, q1⟩ => ho pins s1 σ H1 x v Q I1 r1 q1)
theorem opI {f : Value → Value → Sem Value} {C : Int → Int → Prop} {g : Int → Int → Int}
    (rule : ∀ (i j : Int) (t u : Tok) (s : Shared) (Q : Value → Shared → Prop) (E : Value → Shared → Prop), C i j → Q (.int (g i j) s.toks) { s with toks := s.toks + 1 } → wpAny (model X.prog X.w) X.A (f (.int i t) (.int j u)) Q E s) :
    OpR X f (rI C fun i j => .int (g i j)) := by
  intro pins s σ H x y v u Q I rx ry h
  obtain ⟨i, j, rfl, rfl, hc, q⟩ := h
  obtain ⟨t, rfl⟩ := rx
  obtain ⟨t', rfl⟩ := ry
  exact rule i j t t' s _ _ hc ⟨.int (g i j), H, I.tok _, ⟨_, rfl⟩, q⟩
theorem opI0 {f : Value → Value → Sem Value} {g : Int → Int → Int}
    (rule : ∀ (i j : Int) (t u : Tok) (s : Shared) (Q : Value → Shared → Prop) (E : Value → Shared → Prop), Q (.int (g i j) s.toks) { s with toks := s.toks + 1 } → wpAny (model X.prog X.w) X.A (f (.int i t) (.int j u)) Q E s) :
    OpR X f (rI0 fun i j => .int (g i j)) := by
  intro pins s σ H x y v u Q I rx ry h
  obtain ⟨i, j, rfl, rfl, q⟩ := h
  obtain ⟨t, rfl⟩ := rx
  obtain ⟨t', rfl⟩ := ry
  exact rule i j t t' s _ _ ⟨.int (g i j), H, I.tok _, ⟨_, rfl⟩, q⟩
theorem opB0 {f : Value → Value → Sem Value} {g : Int → Int → Bool}
    (rule : ∀ (i j : Int) (t u : Tok) (s : Shared) (Q : Value → Shared → Prop) (E : Value → Shared → Prop), Q (.bool (g i j)) s → wpAny (model X.prog X.w) X.A (f (.int i t) (.int j u)) Q E s) :
    OpR X f (rI0 fun i j => .bl (g i j)) := by
  intro pins s σ H x y v u Q I rx ry h
  obtain ⟨i, j, rfl, rfl, q⟩ := h
  obtain ⟨t, rfl⟩ := rx
  obtain ⟨t', rfl⟩ := ry
  exact rule i j t t' s _ _ ⟨.bl (g i j), H, I, rfl, q⟩

def CDivN (i j : Int) : Prop := j ≠ 0 ∧ j.natAbs < 1073741824
def CPow (i j : Int) : Prop := 0 ≤ j ∧ j ≤ 1000000 ∧ i.natAbs < 2 ^ 64
def CMul (i j : Int) : Prop := (-(2 ^ 64) < i ∧ i < 2 ^ 64) ∨ (-(2 ^ 64) < j ∧ j < 2 ^ 64)
theorem CMul.ok {i j : Int} (h : CMul i j) : IntMulOk i j := by
  rcases h with ⟨h1, h2⟩ | ⟨h1, h2⟩
  · exact .of_left (intBits_le_64 h1 h2)
  · exact .of_right (intBits_le_64 h1 h2)
theorem op_add : OpR X (binaryOp .Add) (rI0 fun i j => .int (i + j)) := opI0 fun _ _ _ _ _ _ _ q => add_int q
theorem op_sub : OpR X (binaryOp .Sub) (rI0 fun i j => .int (i - j)) := opI0 fun _ _ _ _ _ _ _ q => sub_int q
theorem op_fdivN : OpR X (binaryOp .FloorDiv) (rI CDivN fun i j => .int (i.fdiv j)) := opI fun _ _ _ _ _ _ _ hc q => floordiv_int hc.1 q (.inl (PyProof.noPylong_small hc.2))
theorem op_modN : OpR X (binaryOp .Mod) (rI (fun _ j => j ≠ 0) fun i j => .int (i.fmod j)) := opI fun _ _ _ _ _ _ _ hc q => mod_int' hc q
theorem unI {f : Value → Sem Value} {g : Int → Int}
    (rule : ∀ (i : Int) (t : Tok) (s : Shared) (Q : Value → Shared → Prop) (E : Value → Shared → Prop), Q (.int (g i) s.toks) { s with toks := s.toks + 1 } → wpAny (model X.prog X.w) X.A (f (.int i t)) Q E s) :
    UnR X f (rU fun i => .int (g i)) := by
  intro pins s σ H x v Q I rx h
  obtain ⟨i, rfl, q⟩ := h
  obtain ⟨t, rfl⟩ := rx
  exact rule i t s _ _ ⟨.int (g i), H, I.tok _, ⟨_, rfl⟩, q⟩
theorem un_neg : UnR X (unaryOp .USub) (rU fun i => .int (-i)) := unI fun _ _ _ _ _ q => neg_int q
end

def scal : V → V → Bool
  | .non, .non => true | .non, .int _ => true | .int _, .non => true | .non, .bl _ => true | .bl _, .non => true | .non, .str _ => true | .str _, .non => true
  | .int _, .int _ => true | .bl _, .bl _ => true | .str _, .str _ => true | .byt _, .byt _ => true
  | .int _, .str _ => true | .str _, .int _ => true | .bl _, .str _ => true | .str _, .bl _ => true
  | _, _ => false
def rEq : R2 := fun x y H Q => scal x y = true ∧ Q (.bl (decide (x = y))) H
def rNe : R2 := fun x y H Q => scal x y = true ∧ Q (.bl (!decide (x = y))) H

theorem dec_int {i j : Int} : decide (V.int i = V.int j) = (i == j) := by
  rw [Bool.eq_iff_iff]
  simp
theorem dec_bl {i j : Bool} : decide (V.bl i = V.bl j) = (i == j) := by
  rw [Bool.eq_iff_iff]
  simp
theorem dec_str {i j : Str} : decide (V.str i = V.str j) = (i == j) := by
  rw [Bool.eq_iff_iff]
  simp
theorem dec_byt {i j : Array UInt8} : decide (V.byt i = V.byt j) = (i.toList == j.toList) := by
  rw [Bool.eq_iff_iff]
  cases i
  cases j
  simp

section
variable {X : Cx} {a b c : Expr} {ta tb tc : TE} {pos : Pos}
theorem fin_bl {pins : List (Addr × Obj)} {σ : St} {H : Hp} {s : Shared} {Q : VK} {k k' : Bool} (I : Inv X pins σ H s) (q : Q (.bl k) H) (e : k = k') : EP X pins σ Q (.bool k') s := by
  subst e
  exact ⟨.bl k, H, I, rfl, q⟩
theorem op_eq : OpR X (compareOp .Eq) rEq := by
  intro pins s σ H x y v u Q I rx ry h
  obtain ⟨hs, q⟩ := h
  cases x with
  | non =>
    cases rx
    cases y with
    | non => cases ry; exact PySem.EqNone.eq_none_none (fin_bl I q (by simp))
    | bl j => cases ry; exact PySem.EqNone.eq_none_bool (fin_bl I q (by simp))
    | int j => obtain ⟨t', rfl⟩ := ry; exact PySem.EqNone.eq_none_int (fin_bl I q (by simp))
    | str j => obtain ⟨t', rfl⟩ := ry; exact PySem.EqNone.eq_none_str (fin_bl I q (by simp))
    | _ => exact absurd (show false = true from hs) Bool.false_ne_true
  | bl i =>
    cases rx
    cases y with
    | non => cases ry; exact PySem.EqNone.eq_bool_none (fin_bl I q (by simp))
    | bl j => cases ry; exact eq_bool (fin_bl I q dec_bl)
    | str j => obtain ⟨t', rfl⟩ := ry; exact PySem.EqMixed.eq_bool_str (fin_bl I q (by simp))
    | _ => exact absurd (show false = true from hs) Bool.false_ne_true
  | int i =>
    obtain ⟨t, rfl⟩ := rx
    cases y with
    | non => cases ry; exact PySem.EqNone.eq_int_none (fin_bl I q (by simp))
    | int j => obtain ⟨t', rfl⟩ := ry; exact eq_int (fin_bl I q dec_int)
    | str j => obtain ⟨t', rfl⟩ := ry; exact PySem.EqMixed.eq_int_str (fin_bl I q (by simp))
    | _ => exact absurd (show false = true from hs) Bool.false_ne_true
  | str i =>
    obtain ⟨t, rfl⟩ := rx
    cases y with
    | non => cases ry; exact PySem.EqNone.eq_str_none (fin_bl I q (by simp))
    | bl j => cases ry; exact PySem.EqMixed.eq_str_bool (fin_bl I q (by simp))
    | int j => obtain ⟨t', rfl⟩ := ry; exact PySem.EqMixed.eq_str_int (fin_bl I q (by simp))
    | str j => obtain ⟨t', rfl⟩ := ry; exact eq_str (fin_bl I q dec_str)
    | _ => exact absurd (show false = true from hs) Bool.false_ne_true
  | byt i =>
    obtain ⟨t, rfl⟩ := rx
    cases y with
    | byt j => obtain ⟨t', rfl⟩ := ry; exact PySem.W.eq_bytes (fin_bl I q dec_byt)
    | _ => exact absurd (show false = true from hs) Bool.false_ne_true
  | _ => cases y <;> exact absurd (show false = true from hs) Bool.false_ne_true
theorem op_ne : OpR X (compareOp .NotEq) rNe := by
  intro pins s σ H x y v u Q I rx ry h
  obtain ⟨hs, q⟩ := h
  cases x with
  | non =>
    cases rx
    cases y with
    | non => cases ry; exact PySem.EqNone.ne_none_none (fin_bl I q (by simp))
    | bl j => cases ry; exact PySem.EqNone.ne_none_bool (fin_bl I q (by simp))
    | int j => obtain ⟨t', rfl⟩ := ry; exact PySem.EqNone.ne_none_int (fin_bl I q (by simp))
    | str j => obtain ⟨t', rfl⟩ := ry; exact PySem.EqNone.ne_none_str (fin_bl I q (by simp))
    | _ => exact absurd (show false = true from hs) Bool.false_ne_true
  | bl i =>
    cases rx
    cases y with
    | non => cases ry; exact PySem.EqNone.ne_bool_none (fin_bl I q (by simp))
    | bl j => cases ry; exact ne_bool (fin_bl I q (congrArg not dec_bl))
    | str j => obtain ⟨t', rfl⟩ := ry; exact PySem.EqMixed.ne_bool_str (fin_bl I q (by simp))
    | _ => exact absurd (show false = true from hs) Bool.false_ne_true
  | int i =>
    obtain ⟨t, rfl⟩ := rx
    cases y with
    | non => cases ry; exact PySem.EqNone.ne_int_none (fin_bl I q (by simp))
    | int j => obtain ⟨t', rfl⟩ := ry; exact ne_int (fin_bl I q (congrArg not dec_int))
    | str j => obtain ⟨t', rfl⟩ := ry; exact PySem.EqMixed.ne_int_str (fin_bl I q (by simp))
    | _ => exact absurd (show false = true from hs) Bool.false_ne_true
  | str i =>
    obtain ⟨t, rfl⟩ := rx
    cases y with
    | non => cases ry; exact PySem.EqNone.ne_str_none (fin_bl I q (by simp))
    | bl j => cases ry; exact PySem.EqMixed.ne_str_bool (fin_bl I q (by simp))
    | int j => obtain ⟨t', rfl⟩ := ry; exact PySem.EqMixed.ne_str_int (fin_bl I q (by simp))
    | str j => obtain ⟨t', rfl⟩ := ry; exact ne_str (fin_bl I q (congrArg not dec_str))
    | _ => exact absurd (show false = true from hs) Bool.false_ne_true
  | byt i =>
    obtain ⟨t, rfl⟩ := rx
    cases y with
    | byt j => obtain ⟨t', rfl⟩ := ry; exact PySem.W.ne_bytes (fin_bl I q (congrArg not dec_byt))
    | _ => exact absurd (show false = true from hs) Bool.false_ne_true
  | _ => cases y <;> exact absurd (show false = true from hs) Bool.false_ne_true

theorem op_lt : OpR X (compareOp .Lt) (rI0 fun i j => .bl (decide (i < j))) := opB0 fun _ _ _ _ _ _ _ q => lt_int q
theorem op_le : OpR X (compareOp .LtE) (rI0 fun i j => .bl (decide (i ≤ j))) := opB0 fun _ _ _ _ _ _ _ q => le_int q
theorem op_gt : OpR X (compareOp .Gt) (rI0 fun i j => .bl (decide (j < i))) := opB0 fun _ _ _ _ _ _ _ q => gt_int q
theorem OpR.or {f : Value → Value → Sem Value} {r r' : R2} (h : OpR X f r) (h' : OpR X f r') : OpR X f (fun x y H Q => r x y H Q ∨ r' x y H Q) := by
  intro pins s σ H x y v u Q I rx ry q
  rcases q with q | q
  · exact h pins s σ H x y v u Q I rx ry q
  · exact h' pins s σ H x y v u Q I rx ry q

theorem nomark (b : Expr) {op : CmpOp} (h : op ≠ .In := by decide) (h2 : op ≠ .NotIn := by decide) : behindInMarks op b = false := by
  have e1 : (op == CmpOp.In) = false := by cases op <;> first | rfl | exact absurd rfl h
  have e2 : (op == CmpOp.NotIn) = false := by cases op <;> first | rfl | exact absurd rfl h2
  cases b <;> simp [behindInMarks, e1, e2]
theorem pe_cmpR {op : CmpOp} {r : R2} (ho : OpR X (compareOp op) r) (ha : PE X a ta) (hb : PE X b tb) (hm : behindInMarks op b = false) : PE X (.Compare a [op] [b] pos) (tOp r ta tb) := by
  intro pins s σ H Q I h
  exact wpAny_Compare1 (binT ha hb I h fun v u s2 x y H2 I2 rx ry q => ho pins s2 σ H2 x y v u Q I2 rx ry q) hm
def tTest (t : TE) : TT := fun σ H Q => t σ H fun x H' => ∃ k, x = .bl k ∧ Q k H'
theorem pt_cmpR {op : CmpOp} {r : R2} (ho : OpR X (compareOp op) r) (ha : PE X a ta) (hb : PE X b tb) (hm : behindInMarks op b = false) : PT X (.Compare a [op] [b] pos) (tTest (tOp r ta tb)) := by
  intro pins s σ H Q I h
  refine wpAny_isTrue_Compare1 (thn (ha pins s σ H _ I h) fun v s1 ⟨x, H1, I1, r1, q1⟩ => thn (hb pins s1 σ H1 _ I1 q1) fun u s2 ⟨y, H2, I2, r2, q2⟩ =>
    thn (ho pins s2 σ H2 x y v u _ I2 r1 r2 q2) fun c s3 ⟨z, H3, I3, r3, k, e, q3⟩ => ?_) hm
  subst e
  cases r3
  exact wpAny_truthy_bool ⟨H3, I3, q3⟩
def tChain (r r' : R2) (ta tb tc : TE) : TE := fun σ H Q => ta σ H fun x H1 => tb σ H1 fun y H2 => r x y H2 fun z H3 => ∃ k, z = .bl k ∧
  (if k = true then tc σ H3 fun w' H4 => r' y w' H4 Q else Q (.bl false) H3)
theorem pe_chain {op op' : CmpOp} {r r' : R2} (ho : OpR X (compareOp op) r) (ho' : OpR X (compareOp op') r') (ha : PE X a ta) (hb : PE X b tb) (hc : PE X c tc)
    (hm : lastMarks [op, op'] [b, c] = false := by with_unfolding_all rfl) : PE X (.Compare a [op, op'] [b, c] pos) (tChain r r' ta tb tc) := by
  intro pins s σ H Q I h
  refine Compare_chain (thn (ha pins s σ H _ I h) fun v s1 ⟨x, H1, I1, r1, q1⟩ => chain_link (thn (hb pins s1 σ H1 _ I1 q1) fun u s2 ⟨y, H2, I2, r2, q2⟩ =>
    thn (ho pins s2 σ H2 x y v u _ I2 r1 r2 q2) fun d s3 ⟨z, H3, I3, r3, k, e, q3⟩ => ?_)) hm
  subst e
  cases r3
  refine wpAny_truthy_bool ?_
  cases k with
  | false => exact ite_ff ⟨.bl false, H3, I3, rfl, q3⟩
  | true => exact ite_tt (chain_last (thn (hc pins s3 σ H3 _ I3 q3) fun w' s4 ⟨z', H4, I4, r4, q4⟩ => ho' pins s4 σ H4 y z' u w' Q I4 r2 r4 q4))
theorem line63 : (sizeLine : Nat) < 2 ^ 63 := by rw [sizeLine_eq]; decide
theorem vals1 {x : V} {us : List Value} (r : Vals [x] us) : ∃ u, us = [u] ∧ RelV x u := by
  cases r with
  | cons r1 r2 => cases r2; exact ⟨_, rfl, r1⟩
theorem vals2 {x y : V} {us : List Value} (r : Vals [x, y] us) : ∃ u w', us = [u, w'] ∧ RelV x u ∧ RelV y w' := by
  cases r with
  | cons r1 r2 =>
    cases r2 with
    | cons r3 r4 => cases r4; exact ⟨_, _, rfl, r1, r3⟩
theorem call_min2 (hc : X.calm = true) : CallR X (.builtin "min") (fun xs H Q => ∃ i j, xs = [.int i, .int j] ∧ Q (.int (if j < i then j else i)) H) := by
  intro pins s σ H xs us Q I r h
  obtain ⟨i, j, rfl, q⟩ := h
  obtain ⟨u, w', rfl, ⟨t, rfl⟩, ⟨t', rfl⟩⟩ := vals2 r
  refine min_two_ints (I.ok.hd hc) fun h' tk k => ⟨_, H, I.kept k, ?_, q⟩
  by_cases hj : j < i
  · rw [if_pos hj, if_pos hj]; exact ⟨_, rfl⟩
  · rw [if_neg hj, if_neg hj]; exact ⟨_, rfl⟩
end
end L2

namespace L2
open PySem PySem.Spec PyProof.Rows

structure ObjM (h : Heap) (x dx C : Addr) (mA : Str → Option Value) : Prop where
  obj : h.get? x = some (PySem.W.instObj C dx)
  ns : h.Ns1 dx mA
  ne : dx ≠ x

theorem lookIn_ns {h : Heap} {dx : Addr} {mA : Str → Option Value} (n : h.Ns1 dx mA) : ∃ od, h.get? dx = some od ∧ ∀ name, PySem.W.lookIn name od = some (mA name) := by
  obtain ⟨o, es, ep, ho, hd, hk, _, hm⟩ := n
  refine ⟨o, ho, fun name => ?_⟩
  have e := hm name
  unfold nsFind findBy at e
  rw [← Array.find?_toList] at e
  unfold PySem.W.lookIn
  rw [hd]
  dsimp only
  split
  · rename_i y q
    rw [q] at e
    exact congrArg some e
  · rename_i q
    rw [q] at e
    have a : es.toList.any (·.refKey) = false := by
      rw [List.any_eq_false]
      intro y hy
      obtain ⟨z, t, hkey⟩ := hk y (Array.mem_toList_iff.mp hy)
      simp [DictEntry.refKey, hkey]
    have a' : ¬ es.toList.any (·.refKey) = true := by rw [a]; exact Bool.false_ne_true
    rw [if_neg a']
    exact congrArg some e

theorem ObjM.look {h : Heap} {x dx C : Addr} {mA : Str → Option Value} (I : ObjM h x dx C mA) : ∃ od, PySem.W.InstAt h x (PySem.W.instObj C dx) C (some od) ∧ ∀ name, PySem.W.lookIn name od = some (mA name) :=
  let ⟨od, ho, hl⟩ := lookIn_ns I.ns
  ⟨od, ⟨I.obj, rfl, rfl, ho⟩, hl⟩

section
variable {prog : Program} {w : World} {A : Around} {E : Value → Shared → Prop} {s : Shared} {K : PySem.W.Frag} {x dx C f : Addr} {mA : Str → Option Value} {name : Str} {v : Value}

theorem get_map {expr : Bool} {Q : Value → Shared → Prop} (X : K.In s.heap) (I : ObjM s.heap x dx C mA) (hg : PySem.W.plainGet K C name = true) (hh : PySem.W.hasDictIn K C = true)
    (ha : PySem.W.findIn K (.ref C) name = some none) (hv : mA name = some v) (hv' : PySem.W.handedIn v = true) (h : Q v { s with toks := s.toks + 1 }) :
    wpAny (model prog w) A (getAttr (.ref x) name expr) Q E s := by
  obtain ⟨od, J, hl⟩ := I.look
  exact PySem.W.get_value X J (PySem.W.plainGet_of hg).1 (PySem.W.findObj_own hh ha rfl (by rw [hl, hv])) hv' h

theorem get_meth {pl : Sem Bool} {Q : Value × List Value → Shared → Prop} (X : K.In s.heap) (I : ObjM s.heap x dx C mA) (hg : PySem.W.plainGet K C name = true)
    (hf : PySem.W.findIn K (.ref C) name = some (some (.ref f))) (ht : PySem.W.isFn K (.ref f) = true) (hv : mA name = none) (h : Q (.ref f, [.ref x]) s) :
    wpAny (model prog w) A (getMethod (.ref x) name pl) Q E s := by
  obtain ⟨od, J, hl⟩ := I.look
  exact PySem.W.method_fn X J (PySem.W.plainGet_of hg).1 (PySem.W.plainGet_of hg).2 hf (beq_iff_eq.mp ht) (by show (PySem.W.lookIn name od).map (·.isSome) = some false; rw [hl, hv]; rfl) h

theorem set_map {ns : List Str} {Q : Unit → Shared → Prop} (X : K.In s.heap) (I : ObjM s.heap x dx C mA)
    (hs : PySem.W.findIn K (.ref C) "__setattr__" = some (some (.builtin "object.__setattr__"))) (hp : PySem.W.plainOver K C = true) (ht : PySem.W.takerIn K C name = some none) (hh : PySem.W.hasDictIn K C = true)
    (hw : PySem.Within mA ns) (hsz : ns.length ≤ sizeLine)
    (h : ∀ h', ObjM h' x dx C (fun y => if y = name then some v else mA y) → Heap.SameBut dx s.heap h' → Q () { s with heap := h', toks := s.toks + 2 }) :
    wpAny (model prog w) A (setAttr (.ref x) name v) Q E s := by
  obtain ⟨od, J, hl⟩ := I.look
  refine PySem.W.set_plain X J hs (PySem.W.osa_open (s := { s with toks := s.toks + 1 }) (r := none) X J hp ht fun b => ?_)
  obtain ⟨cd, hc, hd'⟩ := PySem.W.any_some hh
  have hx : s.heap.get? x = some ⟨.ref C, some dx, .plain, #[]⟩ := I.obj
  refine wpAny_bind (wpAny_pure (wpAny_bind (wpAny_bind (wpAny_loadPart hx (wpAny_bind (PySem.W.Looks.here (s := { s with toks := s.toks + 1 }) (PySem.W.looks_clsIn X hc) ?_))))))
  rw [hd']
  refine wpAny_pure (a := some dx) (wpAny_bind (wpAny_pure (wpAny_bind ?_)))
  refine wpAny_nsSet1 (s := { s with toks := s.toks + 1 }) I.ns fun h' hn2 hs2 => ?_
  obtain ⟨oD, esD, epD, hoD, hdD, hcD⟩ := hn2.count (PySem.Within.cons name v hw)
  refine wpAny_bind (wpAny_lookBehind hoD (by rw [hdD]; exact pastItsLine_dict (Nat.le_trans hcD (by rw [List.length_cons]; omega))) ?_)
  exact wpAny_pure (h _ ⟨(hs2.2 _ (Ne.symm I.ne)).trans I.obj, hn2, I.ne⟩ hs2)

theorem make_map {R : Result → Shared → Prop} {vs : List Value} {kw : List (Str × Value)} (X : K.In s.heap) (hm : PySem.W.makesIn K C = true)
    (hi : PySem.W.findIn K (.ref C) "__init__" = some (some (.ref f))) (hf : PySem.W.typeIn K (.ref f) = some (.type "function"))
    (h : codeAny (model prog w) (A.under (.builtin "type.__call__" ⟨.ref C :: vs, kw⟩)) (.call (.ref f) ⟨.ref (s.heap.objs.size + 1) :: vs, kw⟩) (PySem.W.InitBack (s.heap.objs.size + 1) R)
      { s with heap := (s.heap.push PySem.W.emptyDict).push (PySem.W.instObj C s.heap.objs.size) }) :
    codeAny (model prog w) A (.call (.ref C) ⟨vs, kw⟩) R s := by
  obtain ⟨hh, g, d, t, os⟩ := s
  exact PySem.W.make_core (PySem.W.makes_of X hm) (PySem.W.looks_findIn X hi) (fun self => PySem.W.bind_fn X self hf) (.inl rfl) h
end

def putF (f : Str) (v : V) : List (Str × V) → List (Str × V)
  | [] => [(f, v)]
  | (g, x) :: r => if g = f then (g, v) :: r else (g, x) :: putF f v r
theorem lookup_putF (f g : Str) (v : V) : ∀ fs : List (Str × V), (putF f v fs).lookup g = if g = f then some v else fs.lookup g
  | [] => by
    show List.lookup g [(f, v)] = _
    by_cases h : g = f
    · have hb : (g == f) = true := beq_iff_eq.mpr h
      simp only [List.lookup, hb, if_pos h]
    · have hb : (g == f) = false := beq_eq_false_iff_ne.mpr h
      simp only [List.lookup, hb, if_neg h]
  | (k, x) :: r => by
    have ih := lookup_putF f g v r
    rw [show putF f v ((k, x) :: r) = (if k = f then (k, v) :: r else (k, x) :: putF f v r) from rfl]
    by_cases hk : k = f
    · rw [if_pos hk]
      by_cases h : g = k
      · have hb : (g == k) = true := beq_iff_eq.mpr h
        simp only [List.lookup, hb, if_pos (h.trans hk)]
      · have hb : (g == k) = false := beq_eq_false_iff_ne.mpr h
        simp only [List.lookup, hb, if_neg (fun e : g = f => h (e.trans hk.symm))]
    · rw [if_neg hk]
      by_cases h : g = k
      · have hb : (g == k) = true := beq_iff_eq.mpr h
        simp only [List.lookup, hb, if_neg (fun e : g = f => hk (h.symm.trans e))]
      · have hb : (g == k) = false := beq_eq_false_iff_ne.mpr h
        simp only [List.lookup, hb]
        exact ih
theorem keys_putF (f : Str) (v : V) : ∀ fs : List (Str × V), f ∈ (putF f v fs).map (·.1) ∧ ∀ g, g ∈ fs.map (·.1) → g ∈ (putF f v fs).map (·.1)
  | [] => ⟨by simp [putF], fun g h => by simp at h⟩
  | (k, x) :: r => by
    obtain ⟨i1, i2⟩ := keys_putF f v r
    rw [show putF f v ((k, x) :: r) = (if k = f then (k, v) :: r else (k, x) :: putF f v r) from rfl]
    by_cases hk : k = f
    · rw [if_pos hk]
      subst hk
      exact ⟨by simp, fun g h => by simpa using h⟩
    · rw [if_neg hk]
      refine ⟨?_, fun g h => ?_⟩
      · rw [List.map_cons]
        exact List.mem_cons_of_mem _ i1
      · rw [List.map_cons] at h ⊢
        rcases List.mem_cons.mp h with e | e
        · exact List.mem_cons.mpr (.inl e)
        · exact List.mem_cons_of_mem _ (i2 g e)
theorem length_putF (f : Str) (v : V) : ∀ fs : List (Str × V), (putF f v fs).length ≤ fs.length + 1
  | [] => by simp [putF]
  | (k, x) :: r => by
    have ih := length_putF f v r
    rw [show putF f v ((k, x) :: r) = (if k = f then (k, v) :: r else (k, x) :: putF f v r) from rfl]
    by_cases hk : k = f
    · rw [if_pos hk, List.length_cons, List.length_cons]; omega
    · rw [if_neg hk, List.length_cons, List.length_cons]; omega

theorem RelO.some_of {v : V} {o : Option Value} (r : RelO (some v) o) : ∃ u, o = some u ∧ RelV v u := by
  cases o with
  | none => exact (show False from r).elim
  | some u => exact ⟨u, rfl, r⟩
theorem RelO.none_of {o : Option Value} (r : RelO none o) : o = none := by
  cases o with
  | none => rfl
  | some u => exact (show False from r).elim
theorem handed_of {v : V} {u : Value} (r : RelV v u) : PySem.W.handedIn u = true := by
  cases v with
  | non => cases (show u = Value.none from r); rfl
  | bl b => cases (show u = Value.bool b from r); rfl
  | int i => obtain ⟨t, e⟩ := (show ∃ t, u = Value.int i t from r); cases e; rfl
  | str x => obtain ⟨t, e⟩ := (show ∃ t, u = Value.str x t from r); cases e; rfl
  | byt b => obtain ⟨t, e⟩ := (show ∃ t, u = Value.bytes b t from r); cases e; rfl
  | flt b => obtain ⟨t, e⟩ := (show ∃ t, u = Value.float b t from r); cases e; rfl
  | ref a => cases (show u = Value.ref a from r); rfl
  | ty n => cases (show u = Value.type n from r); rfl

section
variable {P : Program} {w : World} {H H' : Hp} {h h' : Heap} {a C dx : Addr} {fs fs' : List (Str × V)}
theorem ins_get (hok : HOk P w H h) (e : H a = some (.ins C dx fs)) : ∃ mA, ObjM h a dx C mA ∧ (∀ f, RelO (fs.lookup f) (mA f)) ∧ PySem.Within mA (fs.map (·.1)) ∧ fs.length ≤ 1000 ∧ H dx = some (.own a) := by
  obtain ⟨d, z, ne, ob, mA, n, r, q⟩ := (show ObjOk P w H h a (.ins C dx fs) from hok a _ e)
  exact ⟨mA, ⟨ob, n, ne⟩, r, q, z, d⟩
end

structure Cls (K : PySem.W.Frag) (C : Addr) : Prop where
  pg : PySem.W.plainGet K C Str.empty = true
  hd : PySem.W.hasDictIn K C = true
  po : PySem.W.plainOver K C = true
  sa : PySem.W.findIn K (.ref C) "__setattr__" = some (some (.builtin "object.__setattr__"))
theorem Cls.get {K : PySem.W.Frag} {C : Addr} (c : Cls K C) (f : Str) : PySem.W.plainGet K C f = true := c.pg
def NoAttr (K : PySem.W.Frag) (C : Addr) (f : Str) : Prop := PySem.W.findIn K (.ref C) f = some none
theorem NoAttr.taker {K : PySem.W.Frag} {C : Addr} {f : Str} (n : NoAttr K C f) : PySem.W.takerIn K C f = some none := by
  unfold PySem.W.takerIn
  rw [show PySem.W.findIn K (.ref C) f = some none from n]
  rfl
structure Meth (K : PySem.W.Frag) (C : Addr) (m : Str) (f : Addr) : Prop where
  at_ : PySem.W.findIn K (.ref C) m = some (some (.ref f))
  fn : PySem.W.isFn K (.ref f) = true
  kp : PySem.W.keepIn K (.ref f) = true

section
variable {X : Cx} {pins : List (Addr × Obj)} {σ : St} {H : Hp} {s : Shared} {a C dx : Addr} {fs : List (Str × V)} {f : Str} {v : V} {A : Around} {E : Value → Shared → Prop}

theorem getattr_ok {b : Bool} {Q : Value → Shared → Prop} (I : Inv X pins σ H s) (e : H a = some (.ins C dx fs)) (c : Cls X.K C) (n : NoAttr X.K C f) (l : fs.lookup f = some v)
    (h : ∀ u s', Inv X pins σ H s' → RelV v u → Q u s') : wpAny (model X.prog X.w) A (getAttr (.ref a) f b) Q E s := by
  obtain ⟨mA, O, r, _, _, _⟩ := ins_get I.hok e
  obtain ⟨u, hu, ru⟩ := RelO.some_of (v := v) (o := mA f) (by rw [← l]; exact r f)
  exact get_map I.kIn O (c.get f) c.hd n hu (handed_of ru) (h u _ (I.tok _) ru)

theorem getmeth_ok {m : Str} {g : Addr} {pl : Sem Bool} {Q : Value × List Value → Shared → Prop} (I : Inv X pins σ H s) (e : H a = some (.ins C dx fs)) (c : Cls X.K C) (k : Meth X.K C m g) (l : fs.lookup m = none)
    (h : Q (.ref g, [.ref a]) s) : wpAny (model X.prog X.w) A (getMethod (.ref a) m pl) Q E s := by
  obtain ⟨mA, O, r, _, _, _⟩ := ins_get I.hok e
  have hn : mA m = none := RelO.none_of (by rw [← l]; exact r m)
  exact get_meth I.kIn O (c.get m) k.at_ k.fn hn h

theorem setattr_ok {y : V} {u : Value} {Q : Unit → Shared → Prop} (I : Inv X pins σ H s) (e : H a = some (.ins C dx fs)) (c : Cls X.K C) (n : NoAttr X.K C f) (hl : fs.length < 1000) (ry : RelV y u)
    (h : ∀ s', Inv X pins σ (upd H a (.ins C dx (putF f y fs))) s' → Q () s') : wpAny (model X.prog X.w) A (setAttr (.ref a) f u) Q E s := by
  obtain ⟨mA, O, r, wi, _, ho⟩ := ins_get I.hok e
  have hz : (fs.map (·.1)).length ≤ sizeLine := by rw [List.length_map, sizeLine_eq]; omega
  refine set_map I.kIn O c.sa c.po n.taker c.hd wi hz fun h' O' sb => h _ ?_
  have hd : ∃ o, h'.get? dx = some o := let ⟨o, _, _, e', _⟩ := O'.ns; ⟨o, e'⟩
  refine I.write (x := a) (e := dx) (by rw [e]; exact True.intro) (.inr ho) (fun b q hb z => (sb.2 b hb).trans z) hd ?_
  refine ⟨by rw [upd_ne O.ne]; exact ho, ?_, O.ne, O'.obj, _, O'.ns, fun g => ?_, fun g hg => ?_⟩
  · have := length_putF f y fs; omega
  · show RelO ((putF f y fs).lookup g) (if g = f then some u else mA g)
    rw [lookup_putF]
    by_cases q : g = f
    · rw [if_pos q, if_pos q]; exact ry
    · rw [if_neg q, if_neg q]; exact r g
  · by_cases q : g = f
    · rw [q]; exact (keys_putF f y fs).1
    · refine (keys_putF f y fs).2 g (wi g fun z => hg ?_)
      show (if g = f then some u else mA g) = none
      rw [if_neg q]; exact z

theorem Inv.made (I : Inv X pins σ H s) : Inv X pins σ (upd (upd H s.heap.objs.size (.own (s.heap.objs.size + 1))) (s.heap.objs.size + 1) (.ins C s.heap.objs.size []))
    { s with heap := (s.heap.push PySem.W.emptyDict).push (PySem.W.instObj C s.heap.objs.size) } := by
  have e1 : (s.heap.push PySem.W.emptyDict).get? s.heap.objs.size = some PySem.W.emptyDict := Heap.get?_push_size s.heap rfl
  have e2 : ((s.heap.push PySem.W.emptyDict).push (PySem.W.instObj C s.heap.objs.size)).get? (s.heap.objs.size + 1) = some (PySem.W.instObj C s.heap.objs.size) := by
    have := Heap.get?_push_size (s.heap.push PySem.W.emptyDict) (o := PySem.W.instObj C s.heap.objs.size) rfl
    rwa [Heap.size_push] at this
  have e3 : (s.heap.push PySem.W.emptyDict).Ns s.heap.objs.size (fun _ => none) := ⟨PySem.W.emptyDict, #[], _, e1, rfl, (fun e he => absurd he (by simp)), fun _ => rfl⟩
  have I1 := I.laid (a := s.heap.objs.size) (o := .own (s.heap.objs.size + 1)) (h' := s.heap.push PySem.W.emptyDict) (t' := s.toks) (fun b u q => Heap.get?_push_of_some _ q) (Nat.le_refl _) ⟨_, e1⟩
  refine I1.laid (a := s.heap.objs.size + 1) (o := .ins C s.heap.objs.size []) (t' := s.toks) (fun b u q => Heap.get?_push_of_some _ q) (Nat.le_of_eq (Heap.size_push _ _)) ?_
  have ne : s.heap.objs.size ≠ s.heap.objs.size + 1 := Nat.ne_of_lt (Nat.lt_succ_self _)
  refine ⟨by rw [upd_ne ne, upd_same], Nat.zero_le _, ne, e2, fun _ => none, (Heap.Ns1.of_empty e3).at fun o q => Heap.get?_push_of_some _ q, fun _ => True.intro, fun y hy => absurd rfl hy⟩

theorem attr_of {prog : Program} {w : World} {env : Env} {e : Expr} {f : Str} {pos : Pos} {s : Shared} {Q : Value → Shared → Prop} (hb : attributeBase e f env (eval e env) = eval e env)
    (h : wpAny (model prog w) A (eval e env) (fun o s₁ => wpAny (model prog w) A (getAttr o f true) Q E s₁) E s) : wpAny (model prog w) A (eval (.Attribute e f pos) env) Q E s :=
  Attribute_any_ h (by rw [arm_eval_Attribute, hb])
end

def tFld (K : PySem.W.Frag) (ta : TE) (f : Str) : TE := fun σ H Q => ta σ H fun x H1 => ∃ a C dx fs v, x = .ref a ∧ H1 a = some (.ins C dx fs) ∧ Cls K C ∧ NoAttr K C f ∧ fs.lookup f = some v ∧ Q v H1
def sFld (K : PySem.W.Frag) (ta tv : TE) (f : Str) : TS := fun D σ H => tv σ H fun y H1 => ta σ H1 fun x H2 => ∃ a C dx fs, x = .ref a ∧ H2 a = some (.ins C dx fs) ∧ Cls K C ∧ NoAttr K C f ∧ fs.length < 1000 ∧
  D.nx σ (upd H2 a (.ins C dx (putF f y fs)))
section
variable {X : Cx} {o e value : Expr} {f : Str} {pos pos' tpos : Pos} {ta tv : TE}
theorem pe_fld (he : PE X e ta) (hb : attributeBase e f X.env (eval e X.env) = eval e X.env) : PE X (.Attribute e f pos) (tFld X.K ta f) := by
  intro pins s σ H Q I h
  refine attr_of hb (thn (he pins s σ H _ I h) fun u s1 ⟨x, H1, I1, rx, a, C, dx, fs, v, ex, ea, c, n, l, q⟩ => ?_)
  subst ex
  obtain rfl : u = Value.ref a := rx
  exact getattr_ok I1 ea c n l fun u' s2 I2 ru => ⟨v, H1, I2, ru, q⟩
theorem ps_fld (ha : PE X o ta) (hv : PE X value tv) (hs : swapsWith value (some (.Attribute o f pos')) pos.line X.env = pure false) : PS X (.Assign [.Attribute o f pos'] value pos) (sFld X.K ta tv f) := by
  intro pins s σ H D I h
  refine plainObj_wpAny_Assign_Attribute (thn (hv pins s σ H _ I h) fun u s1 ⟨y, H1, I1, ry, q⟩ => thn (ha pins s1 σ H1 _ I1 q) fun ov s2 ⟨x, H2, I2, rx, a, C, dx, fs, ex, ea, c, n, l, q2⟩ => ?_) hs
  subst ex
  obtain rfl : ov = Value.ref a := rx
  exact setattr_ok I2 ea c n l ry fun s3 I3 => ⟨σ, _, I3, q2⟩
end

section
variable {X : Cx} {pins : List (Addr × Obj)} {σ : St} {H : Hp} {s : Shared} {A : Around} {E : Value → Shared → Prop} {Q : Value → Shared → Prop} {c : Value} {b : Bool}
inductive TyOf (K : PySem.W.Frag) (H : Hp) : V → Value → Prop where
  | non : TyOf K H .non (.type "NoneType")
  | bl (x : Bool) : TyOf K H (.bl x) (.type "bool")
  | int (i : Int) : TyOf K H (.int i) (.type "int")
  | str (x : Str) : TyOf K H (.str x) (.type "str")
  | flt (x : UInt64) : TyOf K H (.flt x) (.type "float")
  | lst {a : Addr} {xs : List V} (e : H a = some (.lst xs)) : TyOf K H (.ref a) (.type "list")
  | frz {a : Addr} {o : Obj} {xs : List V} (e : H a = some (.frz o (.lst xs))) : TyOf K H (.ref a) (.type "list")
  | tup {a : Addr} {xs : List V} (e : H a = some (.tup xs)) : TyOf K H (.ref a) (.type "tuple")
  | dK {a : Addr} {kvs : List (Key × V)} (e : H a = some (.dK kvs)) : TyOf K H (.ref a) (.type "dict")
  | dT {a : Addr} {kvs : List (List Key × V)} (e : H a = some (.dT kvs)) : TyOf K H (.ref a) (.type "dict")
  | ins {a C dx : Addr} {fs : List (Str × V)} (e : H a = some (.ins C dx fs)) (cl : Cls K C) (ha : PySem.W.findIn K (.ref C) "__class__" = some (some (.builtin "object.__class__")))
      (hn : PySem.W.specialIn K (.builtin "object.__class__") "__get__" = some (some (.builtin "getset_descriptor.__get__"))) (htk : PySem.W.takesIn K (.builtin "object.__class__") = some true)
      (hm : PySem.W.mroIn K C (.type "object") = some true) : TyOf K H (.ref a) (.ref C)
theorem isinst_ok {x : V} {u t : Value} (I : Inv X pins σ H s) (rx : RelV x u) (ty : TyOf X.K H x t) (e : PySem.W.kitOne X.K t c = some b) (h : ∀ tk, Q (.bool b) { s with toks := tk }) :
    wpAny (model X.prog X.w) A (call (.builtin "isinstance") [u, c]) Q E s := by
  cases ty with
  | non => cases (show u = Value.none from rx); exact PySem.W.kia_one PySem.W.kitx_none I.kIn True.intro e (fun z => nomatch z) h
  | bl y => cases (show u = Value.bool y from rx); exact PySem.W.kia_one PySem.W.kitx_bool I.kIn True.intro e (fun z => nomatch z) h
  | int i => obtain ⟨t, q⟩ := (show ∃ t, u = Value.int i t from rx); cases q; exact PySem.W.kia_one PySem.W.kitx_int I.kIn True.intro e (fun z => nomatch z) h
  | str y => obtain ⟨t, q⟩ := (show ∃ t, u = Value.str y t from rx); cases q; exact PySem.W.kia_one PySem.W.kitx_str I.kIn True.intro e (fun z => nomatch z) h
  | flt y => obtain ⟨t, q⟩ := (show ∃ t, u = Value.float y t from rx); cases q; exact PySem.W.kia_one PySem.W.kitx_float I.kIn True.intro e (fun z => nomatch z) h
  | @lst a xs ea =>
    cases (show u = Value.ref a from rx)
    obtain ⟨_, _, n, _, h1⟩ := (show ObjOk X.prog X.w H s.heap a (.lst xs) from I.hok a _ ea)
    exact PySem.W.kia_one PySem.W.kitx_list I.kIn ⟨_, h1, rfl⟩ e (fun z => nomatch z) h
  | @frz a ob xs ea =>
    cases (show u = Value.ref a from rx)
    obtain ⟨_, _, _, n, _, h1⟩ := (show ObjOk X.prog X.w H s.heap a (.frz ob (.lst xs)) from I.hok a _ ea)
    exact PySem.W.kia_one PySem.W.kitx_list I.kIn ⟨_, h1, rfl⟩ e (fun z => nomatch z) h
  | @tup a xs ea =>
    cases (show u = Value.ref a from rx)
    obtain ⟨_, _, _, p⟩ := (show ObjOk X.prog X.w H s.heap a (.tup xs) from I.hok a _ ea)
    obtain ⟨o, h1, h2, _⟩ := p
    exact PySem.W.kia_one PySem.W.kitx_tuple I.kIn ⟨o, h1, h2⟩ e (fun z => nomatch z) h
  | @dK a kvs ea =>
    cases (show u = Value.ref a from rx)
    obtain ⟨_, _, vs, _, p⟩ := (show ObjOk X.prog X.w H s.heap a (.dK kvs) from I.hok a _ ea)
    obtain ⟨o, es, ep, h1, h2, _⟩ := p
    exact PySem.W.kia_one PySem.W.kitx_dict I.kIn ⟨o, h1, h2.1⟩ e (fun z => nomatch z) h
  | @dT a kvs ea =>
    cases (show u = Value.ref a from rx)
    obtain ⟨_, _, xs, _, o, es, ep, h1, h2, _⟩ := (show ObjOk X.prog X.w H s.heap a (.dT kvs) from I.hok a _ ea)
    exact PySem.W.kia_one PySem.W.kitx_dict I.kIn ⟨o, h1, h2.1⟩ e (fun z => nomatch z) h
  | @ins a C dx fs ea cl ha hn htk hm =>
    cases (show u = Value.ref a from rx)
    obtain ⟨mA, O, _⟩ := ins_get I.hok ea
    obtain ⟨od, J, _⟩ := O.look
    exact PySem.W.kia_one (PySem.W.kitx_own (cl.get _) cl.hd ha hn htk hm) I.kIn J e (fun z => nomatch z) h
end
end L2

namespace L2
open PySem PySem.Spec PyProof.Rows

structure Room (k : Nat) (A : Around) : Prop where
  hd : A.handled = none
  dp : A.depth + 3 * k + 5 < recursionLimit
  un : A.units + 16 * k + 200 < cLine
theorem Room.mono {j k : Nat} {A : Around} (r : Room k A) (h : j ≤ k) : Room j A := ⟨r.hd, by have := r.dp; omega, by have := r.un; omega⟩
theorem Room.deeper {k : Nat} {A : Around} (r : Room (k + 1) A) (env : Env) : Room k (A.deeper env) :=
  ⟨r.hd, by have := r.dp; show A.depth + 1 + 3 * k + 5 < _; omega, by have := r.un; show A.units + 3 + 16 * k + 200 < _; omega⟩
theorem Room.in1 {k : Nat} {A : Around} (r : Room (k + 1) A) : Room k A.in1 :=
  ⟨r.hd, by have := r.dp; show A.depth + 3 * k + 5 < _; omega, by have := r.un; show A.units + 1 + 16 * k + 200 < _; omega⟩
theorem make_depth {A : Around} {C : Addr} {us : List Value} {kw : List (Str × Value)} : (A.under (.builtin "type.__call__" ⟨.ref C :: us, kw⟩)).depth = A.depth + 1 := by
  first | rfl | simp [Around.under, Code.weight, Code.isCreation, Code.isGuard, Code.isCaller, Code.frames, Code.isFrame, guardIds]
theorem make_units {A : Around} {C : Addr} {us : List Value} {kw : List (Str × Value)} : (A.under (.builtin "type.__call__" ⟨.ref C :: us, kw⟩)).units = A.units + 1 := by
  first | rfl | simp [Around.under, Code.cUnits, Code.frames, Code.isFrame]
theorem Room.make {k : Nat} {A : Around} (r : Room (k + 1) A) (C : Addr) (us : List Value) (kw : List (Str × Value)) : Room k (A.under (.builtin "type.__call__" ⟨.ref C :: us, kw⟩)) :=
  ⟨r.hd, by have := r.dp; rw [make_depth]; omega, by have := r.un; rw [make_units]; omega⟩
theorem Room.depth {k : Nat} {A : Around} (r : Room k A) : A.depth < recursionLimit := by have := r.dp; omega
theorem Room.units {k : Nat} {A : Around} (r : Room k A) : A.units + 64 < cLine := by have := r.un; omega
def tNil : TA := fun _ H Q => Q [] H
def tCons (ta : TE) (tr : TA) : TA := fun σ H Q => ta σ H fun x H1 => tr σ H1 fun xs H2 => Q (x :: xs) H2
section
variable {X : Cx} {e : Expr} {es : List Expr} {te : TE} {t : TA} {pos : Pos}
theorem pa_nil : PA X [] tNil := fun _ _ _ _ H Q I h => Calls.spliced_nil ⟨[], H, I, .nil, h⟩
theorem pa_cons (ha : PE X e te) (hr : PA X es t) (hs : starEach (e :: es) X.env = (false, eval e X.env) :: starEach es X.env := by rfl) : PA X (e :: es) (tCons te t) := by
  intro pos pins s σ H Q I h
  rw [hs]
  show wpAny _ _ (spliced ((false, eval e X.env) :: backTo pos (starEach es X.env))) _ _ s
  refine Calls.spliced_cons (thn (ha pins s σ H _ I h) fun u s1 ⟨x, H1, I1, r1, q1⟩ => ?_)
  exact thn (hr pos pins s1 σ H1 _ I1 q1) fun us s2 ⟨xs, H2, I2, r2, q2⟩ => ⟨x :: xs, H2, I2, .cons r1 r2, q2⟩

def tTup (t : TA) : TE := fun σ H Q => t σ H fun xs H1 => xs.length ≤ sizeLine ∧ ∀ p, H1 p = none → Q (.ref p) (upd H1 p (.tup xs))
def tLst (t : TA) : TE := fun σ H Q => t σ H fun xs H1 => xs.length ≤ sizeLine ∧ ∀ p, H1 p = none → Q (.ref p) (upd H1 p (.lst xs))
theorem pe_tup {x1} (h : PA X es t) : PE X (.Tuple es x1 pos) (tTup t) := by
  intro pins s σ H Q I hq
  refine wpAny_Tuple_spliced (thn (h pos pins s σ H _ I hq) fun us s1 ⟨xs, H1, I1, r, z, q⟩ => ⟨by rw [← r.length]; exact z, ?_⟩)
  have hf : H1 s1.heap.objs.size = none := I1.hok.fresh (Nat.le_refl _)
  refine ⟨.ref s1.heap.objs.size, upd H1 s1.heap.objs.size (.tup xs), I1.laid (t' := s1.toks) (fun b u e => Heap.get?_push_of_some _ e) (Nat.le_refl _) ?_, rfl, q _ hf⟩
  exact ⟨z, us, r, ⟨_, Heap.get?_push_size _ rfl, rfl, _, rfl⟩⟩
theorem pe_lst (h : PA X es t) : PE X (.List es pos) (tLst t) := by
  intro pins s σ H Q I hq
  refine wpAny_List_spliced (thn (h pos pins s σ H _ I hq) fun us s1 ⟨xs, H1, I1, r, z, q⟩ => ⟨by rw [← r.length]; exact z, ?_⟩)
  have hf : H1 s1.heap.objs.size = none := I1.hok.fresh (Nat.le_refl _)
  refine ⟨.ref s1.heap.objs.size, upd H1 s1.heap.objs.size (.lst xs), I1.laid (t' := s1.toks) (fun b u e => Heap.get?_push_of_some _ e) (Nat.le_refl _) ?_, rfl, q _ hf⟩
  exact ⟨z, us, 0, r, Heap.get?_push_size _ rfl⟩
end

abbrev Sp := List V → Hp → VK → XK → Prop
abbrev CXT := List Env → Hp → Shared → XK → Value → Shared → Prop

structure Env0 (P : Program) (w : World) (K : PySem.W.Frag) (mg : Str → Option Value) (base : Heap) (A : Around) (outer : List Env) (s : Shared) (H : Hp) : Prop where
  frames : A.frames = some outer
  mod : Mod K mg base
  bs : ∀ b o, base.get? b = some o → s.heap.get? b = some o ∧ H b = none
  bsz : base.objs.size ≤ s.heap.objs.size
  funs : s.heap.FunFrames base outer
  frf : ∀ b ∈ frs outer, H b = none
  hok : HOk P w H s.heap
  bare : AllBare s.gens
def CE (outer : List Env) (P : Program) (w : World) (H : Hp) (s : Shared) (Q : VK) (u : Value) (s' : Shared) : Prop :=
  ∃ v H', s'.os = s.os ∧ AllBare s'.gens ∧ Un (frs outer) [] H H' s.heap s'.heap ∧ HOk P w H' s'.heap ∧ RelV v u ∧ Q v H'
def CR (CX : CXT) (outer : List Env) (P : Program) (w : World) (H : Hp) (s : Shared) (Q : VK) (E : XK) (r : Result) (s' : Shared) : Prop :=
  match r with
  | .ok (.ret u) => CE outer P w H s Q u s'
  | .ok _ => False
  | .error e => CX outer H s E e s'
structure FnOk (P : Program) (w : World) (K : PySem.W.Frag) (mg : Str → Option Value) (base : Heap) (CX : CXT) (k : Nat) (f : Addr) (fd : FuncData) (ps : List Str) (sp : Sp) : Prop where
  len : ∀ vs H Q E, sp vs H Q E → vs.length = ps.length
  run : ∀ (A : Around) (outer : List Env) (s : Shared) (H : Hp) (args : Args) (us : List Value) (vs : List V) (Q : VK) (E : XK), Room k A → Env0 P w K mg base A outer s H → BindsTo s fd args (ps.zip us) → Vals vs us → sp vs H Q E →
    codeAny (model P w) A (.call (.ref f) args) (CR CX outer P w H s Q E) s
theorem FnOk.mono {P : Program} {w : World} {K : PySem.W.Frag} {mg : Str → Option Value} {base : Heap} {CX : CXT} {j k : Nat} {f : Addr} {fd : FuncData} {ps : List Str} {sp : Sp} (F : FnOk P w K mg base CX j f fd ps sp) (h : j ≤ k) :
    FnOk P w K mg base CX k f fd ps sp := ⟨F.len, fun A outer s H args us vs Q E hr => F.run A outer s H args us vs Q E (hr.mono h)⟩
theorem FnOk.imp {P : Program} {w : World} {K : PySem.W.Frag} {mg : Str → Option Value} {base : Heap} {CX : CXT} {k : Nat} {f : Addr} {fd : FuncData} {ps : List Str} {sp sp' : Sp} (F : FnOk P w K mg base CX k f fd ps sp)
    (h : ∀ vs H Q E, sp' vs H Q E → sp vs H Q E) : FnOk P w K mg base CX k f fd ps sp' :=
  ⟨fun vs H Q E q => F.len vs H Q E (h _ _ _ _ q), fun A outer s H args us vs Q E hr he hb hv hs => F.run A outer s H args us vs Q E hr he hb hv (h _ _ _ _ hs)⟩

theorem Env0.make {P : Program} {w : World} {K : PySem.W.Frag} {mg : Str → Option Value} {base : Heap} {A : Around} {outer : List Env} {s : Shared} {H : Hp} (e : Env0 P w K mg base A outer s H) (C : Addr) (us : List Value) (kw : List (Str × Value)) :
    Env0 P w K mg base (A.under (.builtin "type.__call__" ⟨.ref C :: us, kw⟩)) outer s H := ⟨by first | exact e.frames | (simpa [Around.under, Code.envs, Code.isFrame, pushEnvs] using e.frames), e.mod, e.bs, e.bsz, e.funs, e.frf, e.hok, e.bare⟩
theorem Env0.in1 {P : Program} {w : World} {K : PySem.W.Frag} {mg : Str → Option Value} {base : Heap} {A : Around} {outer : List Env} {s : Shared} {H : Hp} (e : Env0 P w K mg base A outer s H) :
    Env0 P w K mg base A.in1 outer s H := ⟨e.frames, e.mod, e.bs, e.bsz, e.funs, e.frf, e.hok, e.bare⟩

section
variable {X : Cx} {pins : List (Addr × Obj)} {σ : St} {H : Hp} {s s' : Shared}
theorem Inv.env0 (I : Inv X pins σ H s) : Env0 X.prog X.w X.K X.mg X.base X.A X.stack s H :=
  ⟨I.ok.frames, I.ok.mod, I.bs, Nat.le_trans I.ok.bsz I.sz, I.stack, I.stkFree, I.hok, I.bare⟩
theorem Inv.after {Q : VK} {u : Value} (I : Inv X pins σ H s) (h : CE X.stack X.prog X.w H s Q u s') : EP X pins σ Q u s' := by
  obtain ⟨v, H', os, bare, un, hok, r, q⟩ := h
  obtain ⟨hh, g, d, t, os'⟩ := s'
  obtain rfl : os' = s.os := os
  exact ⟨v, H', I.call (h' := hh) (g' := g) (d' := d) (t' := t) (ch := []) un hok bare (fun b z => absurd z (by simp)), r, q⟩
end

def tCall (sp : Sp) (dvs : List V) (E : XK) (t : TA) : TE := fun σ H Q => t σ H fun vs H1 => sp (vs ++ dvs) H1 Q E
def tMake (C : Addr) (sp : Sp) (dvs : List V) (E : XK) (t : TA) : TE := fun σ H Q => t σ H fun vs H1 => ∀ x dx, H1 x = none → H1 dx = none → dx ≠ x →
  sp (.ref x :: (vs ++ dvs)) (upd (upd H1 dx (.own x)) x (.ins C dx [])) (fun v H2 => v = .non ∧ Q (.ref x) H2) E

def Binds (K : PySem.W.Frag) (fd : FuncData) (ps : List Str) (ds : List Value) : Prop :=
  ∀ (s : Shared) (us : List Value), K.In s.heap → (us ++ ds).length = ps.length → BindsTo s fd ⟨us, []⟩ (ps.zip (us ++ ds))
theorem Binds.all {K : PySem.W.Frag} {fd : FuncData} {ps : List Str} (h : ∀ us : List Value, us.length = ps.length → bindArgs fd ⟨us, []⟩ = pure (ps.zip us)) : Binds K fd ps [] := fun s us _ hl => by
  rw [List.append_nil] at hl ⊢
  exact .of_eq (h us hl)

def Passes (CX : CXT) (X : Cx) (E : XK) : Prop := ∀ (pins : List (Addr × Obj)) (σ : St) (H : Hp) (s : Shared) (e : Value) (s' : Shared), Inv X pins σ H s → CX X.stack H s E e s' → X.xe e s'

section
variable {X : Cx} {CX : CXT} {k : Nat} {f C : Addr} {fd : FuncData} {ps : List Str} {sp : Sp} {dvs : List V} {ds : List Value} {E : XK} {x m : Str} {p pos apos : Pos} {e o : Expr} {es : List Expr} {ta : TE} {t : TA}

theorem run_fn {pins : List (Addr × Obj)} {σ : St} {H : Hp} {s : Shared} {Q : VK} {us : List Value} {vs : List V} (F : FnOk X.prog X.w X.K X.mg X.base CX k f fd ps sp) (hr : Room k X.A) (hb : Binds X.K fd ps ds) (hd : Vals dvs ds) (hx : Passes CX X E)
    (I : Inv X pins σ H s) (r : Vals vs us) (h : sp (vs ++ dvs) H Q E) : wpAny (model X.prog X.w) X.A (call (.ref f) us) (EP X pins σ Q) X.xe s := by
  have r2 : Vals (vs ++ dvs) (us ++ ds) := r.append hd
  have hl : (us ++ ds).length = ps.length := by rw [← r2.length]; exact F.len _ _ _ _ h
  refine wpAny_call (codeAny_mono (F.run X.A X.stack s H ⟨us, []⟩ (us ++ ds) (vs ++ dvs) Q E hr I.env0 (hb s us I.kIn hl) r2 h) fun r s' hq => ?_)
  cases r with
  | error e => exact hx pins σ H s e s' I hq
  | ok fl =>
    cases fl with
    | ret u => exact I.after hq
    | next => exact False.elim hq
    | brk => exact False.elim hq
    | cont => exact False.elim hq

theorem pe_call (F : FnOk X.prog X.w X.K X.mg X.base CX k f fd ps sp) (hr : Room k X.A) (hg : Gl X x) (hm : X.mg x = some (.ref f)) (hk : PySem.W.keepIn X.K (.ref f) = true) (hb : Binds X.K fd ps ds) (hd : Vals dvs ds) (hx : Passes CX X E)
    (ha : PA X (e :: es) t) (hdb : (x == ("__debug__" : Str)) = false := by decide) (he : starEach (e :: es) X.env = (false, eval e X.env) :: starEach es X.env := by rfl) (hpl : (backTo pos (starEach es X.env)).any (·.1) = false := by rfl) :
    PE X (.Call (.Name x p) (e :: es) [] pos) (tCall sp dvs E t) := by
  intro pins s σ H Q I h
  refine wpAny_Call_Name_kw (ld_glob I hg hm ?_ hdb)
  refine PySem.W.callWith_K (h₀ := X.base) I.ok.mod.kin hk (thn (ha pos pins s σ H _ I h) fun us s1 ⟨vs, H1, I1, r, q⟩ => ⟨I1.kIn, ?_⟩) he hpl
  exact run_fn F hr hb hd hx I1 r q
structure Mk (K : PySem.W.Frag) (C f : Addr) : Prop where
  makes : PySem.W.makesIn K C = true
  init : PySem.W.findIn K (.ref C) "__init__" = some (some (.ref f))
  fn : PySem.W.isFn K (.ref f) = true
  kp : PySem.W.keepIn K (.ref C) = true

theorem run_make {pins : List (Addr × Obj)} {σ : St} {H : Hp} {s : Shared} {Q : VK} {us : List Value} {vs : List V} (M : Mk X.K C f) (F : FnOk X.prog X.w X.K X.mg X.base CX k f fd ps sp) (hr : Room (k + 1) X.A) (hb : Binds X.K fd ps ds) (hd : Vals dvs ds)
    (hx : Passes CX X E) (I : Inv X pins σ H s) (r : Vals vs us)
    (h : ∀ x dx, H x = none → H dx = none → dx ≠ x → sp (.ref x :: (vs ++ dvs)) (upd (upd H dx (.own x)) x (.ins C dx [])) (fun v H2 => v = .non ∧ Q (.ref x) H2) E) :
    wpAny (model X.prog X.w) X.A (call (.ref C) us) (EP X pins σ Q) X.xe s := by
  have hq := h (s.heap.objs.size + 1) s.heap.objs.size (I.hok.fresh (Nat.le_succ _)) (I.hok.fresh (Nat.le_refl _)) (Nat.ne_of_lt (Nat.lt_succ_self _))
  have I2 := Inv.made (C := C) I
  have r2 : Vals (V.ref (s.heap.objs.size + 1) :: (vs ++ dvs)) (Value.ref (s.heap.objs.size + 1) :: (us ++ ds)) := .cons rfl (r.append hd)
  have hl : (Value.ref (s.heap.objs.size + 1) :: us ++ ds).length = ps.length := by
    have e := r2.length
    rw [F.len _ _ _ _ hq] at e
    exact e.symm
  refine wpAny_call (make_map (f := f) I.kIn M.makes M.init (beq_iff_eq.mp M.fn) (codeAny_mono (F.run _ X.stack _ _ ⟨Value.ref (s.heap.objs.size + 1) :: us, []⟩ (Value.ref (s.heap.objs.size + 1) :: (us ++ ds)) _ _ E (hr.make C us [])
    (I2.env0.make C us []) (hb _ (Value.ref (s.heap.objs.size + 1) :: us) I2.kIn hl) r2 hq) fun r s' hq' => ?_))
  cases r with
  | error e => exact hx pins σ _ _ e s' I2 hq'
  | ok fl =>
    cases fl with
    | ret u =>
      obtain ⟨v, H', I3, rv, ev, q3⟩ := I2.after hq'
      subst ev
      exact ⟨rv, ⟨V.ref (s.heap.objs.size + 1), H', I3, rfl, q3⟩⟩
    | next => exact False.elim hq'
    | brk => exact False.elim hq'
    | cont => exact False.elim hq'
theorem pe_make (M : Mk X.K C f) (F : FnOk X.prog X.w X.K X.mg X.base CX k f fd ps sp) (hr : Room (k + 1) X.A) (hg : Gl X x) (hm : X.mg x = some (.ref C)) (hb : Binds X.K fd ps ds) (hd : Vals dvs ds) (hx : Passes CX X E)
    (ha : PA X (e :: es) t) (hdb : (x == ("__debug__" : Str)) = false := by decide) (he : starEach (e :: es) X.env = (false, eval e X.env) :: starEach es X.env := by rfl) (hpl : (backTo pos (starEach es X.env)).any (·.1) = false := by rfl) :
    PE X (.Call (.Name x p) (e :: es) [] pos) (tMake C sp dvs E t) := by
  intro pins s σ H Q I h
  refine wpAny_Call_Name_kw (ld_glob I hg hm ?_ hdb)
  refine PySem.W.callWith_K (h₀ := X.base) I.ok.mod.kin M.kp (thn (ha pos pins s σ H _ I h) fun us s1 ⟨vs, H1, I1, r, q⟩ => ⟨I1.kIn, ?_⟩) he hpl
  exact run_make M F hr hb hd hx I1 r q
end

section
variable {X : Cx} {CX : CXT} {k : Nat} {f C : Addr} {fd : FuncData} {ps ks : List Str} {sp : Sp} {E : XK} {x m : Str} {p pos apos kpos : Pos} {e o : Expr} {es : List Expr} {kws : List Keyword} {te ta : TE} {t tk : TA} {nm : Option Str}
variable {g : List Value → List Value → List Value} {gV : List V → List V → List V}
end

structure FnScope (N P : List Str) (sc : Scope) : Prop where
  kind : sc.kind = .function
  co : sc.isCoroutine = false
  gen : sc.isGenerator = false
  nd : N.Nodup
  pre : N.take P.length = P
  par : ∀ x ∈ P, sc.names.lookup x = some .local ∨ sc.names.lookup x = some .cell
  nofree : ∀ y ∈ sc.names, y.2 ≠ .free

theorem bindL_out {kindOf : Str → Option NameKind} {x : Str} : ∀ {binds : List (Str × Value)} {m : Str → Option Value}, (∀ v, (x, v) ∉ binds) → bindL kindOf binds m x = m x
  | [], _, _ => rfl
  | (n, v) :: r, m, h => by
    unfold bindL
    rw [bindL_out fun w hw => h w (List.mem_cons_of_mem _ hw)]
    split
    · have : x ≠ n := by rintro rfl; exact h v List.mem_cons_self
      simp [this]
    · rfl
theorem bindC_out {kindOf : Str → Option NameKind} {x : Str} : ∀ {binds : List (Str × Value)} {m : Str → Option Value}, (∀ v, (x, v) ∉ binds) → bindC kindOf binds m x = m x
  | [], _, _ => rfl
  | (n, v) :: r, m, h => by
    unfold bindC
    rw [bindC_out fun w hw => h w (List.mem_cons_of_mem _ hw)]
    split
    · rfl
    · have : x ≠ n := by rintro rfl; exact h v List.mem_cons_self
      simp [this]
theorem bindL_get {kindOf : Str → Option NameKind} {x : Str} {v : Value} : ∀ {P : List Str} {vs : List Value} {i : Nat} {m : Str → Option Value}, P.Nodup → P[i]? = some x → vs[i]? = some v → kindOf x = some .local →
    bindL kindOf (P.zip vs) m x = some v
  | [], _, _, _, _, h, _, _ => by simp at h
  | _ :: _, [], _, _, _, _, h, _ => by simp at h
  | p :: P, w :: vs, 0, m, nd, h1, h2, hk => by
    simp at h1 h2; subst h1; subst h2
    show bindL kindOf ((p, w) :: P.zip vs) m p = _
    unfold bindL
    rw [bindL_out fun v hv => (List.nodup_cons.mp nd).1 (List.of_mem_zip hv).1, if_pos hk]
    simp
  | p :: P, w :: vs, i + 1, m, nd, h1, h2, hk => by
    show bindL kindOf ((p, w) :: P.zip vs) m x = _
    unfold bindL
    exact bindL_get (i := i) (List.nodup_cons.mp nd).2 (by simpa using h1) (by simpa using h2) hk
theorem bindC_get {kindOf : Str → Option NameKind} {x : Str} {v : Value} : ∀ {P : List Str} {vs : List Value} {i : Nat} {m : Str → Option Value}, P.Nodup → P[i]? = some x → vs[i]? = some v → kindOf x ≠ some .local →
    bindC kindOf (P.zip vs) m x = some v
  | [], _, _, _, _, h, _, _ => by simp at h
  | _ :: _, [], _, _, _, _, h, _ => by simp at h
  | p :: P, w :: vs, 0, m, nd, h1, h2, hk => by
    simp at h1 h2; subst h1; subst h2
    show bindC kindOf ((p, w) :: P.zip vs) m p = _
    unfold bindC
    rw [bindC_out fun v hv => (List.nodup_cons.mp nd).1 (List.of_mem_zip hv).1, if_neg hk]
    simp
  | p :: P, w :: vs, i + 1, m, nd, h1, h2, hk => by
    show bindC kindOf ((p, w) :: P.zip vs) m x = _
    unfold bindC
    exact bindC_get (i := i) (List.nodup_cons.mp nd).2 (by simpa using h1) (by simpa using h2) hk

def start (N : List Str) (vs : List V) : St := vs.map some ++ List.replicate (N.length - vs.length) none

def cxOf (CX : CXT) (P : Program) (w : World) (K : PySem.W.Frag) (mg : Str → Option Value) (base : Heap) (N : List Str) (qual : Str) (scope : Scope) (f : Addr) (cd : Value) (A : Around) (outer : List Env) (s : Shared) (H : Hp) (E : XK) : Cx where
  prog := P
  w := w
  K := K
  mg := mg
  base := base
  A := A.deeper (envOfC qual scope s.heap.objs.size f cd)
  N := N
  s₀ := s
  H₀ := H
  env := envOfC qual scope s.heap.objs.size f cd
  outer := outer
  stack := envOfC qual scope s.heap.objs.size f cd :: outer
  ex := []
  calm := true
  fn := fun _ => true
  pn := []
  xe := fun e s' => wpAny (model P w) (A.deeper (envOfC qual scope s.heap.objs.size f cd)) (leaving (envOfC qual scope s.heap.objs.size f cd) e) (fun _ s'' => CX outer H s E e s'') (fun e' s'' => CX outer H s E e' s'') s'

theorem cell_has {sc : Scope} {n : Nat} {x : Str} (h : sc.names.lookup x = some .cell) : ∃ c, (cellsFrom n sc.names []).lookup x = some c := by
  have q := PySem.W.cellsFrom_some sc.names n [] (.inl h)
  exact Option.isSome_iff_exists.mp q

theorem inv_start {CX : CXT} {P : Program} {w : World} {K : PySem.W.Frag} {mg : Str → Option Value} {base : Heap} {N ps : List Str} {qual : Str} {scope : Scope} {f : Addr} {cd : Value} {A : Around} {outer : List Env} {s s1 : Shared} {H : Hp} {E : XK} {us : List Value} {vs : List V}
    (S : FnScope N ps scope) (hd : A.handled = none) (e0 : Env0 P w K mg base A outer s H) (hl : vs.length = ps.length) (r : Vals vs us)
    (x : InCallC s s.heap.objs.size (bindL (envOfC qual scope s.heap.objs.size f cd).kindOf (ps.zip us) fun _ => none) (cellsFrom (s.heap.objs.size + 1) scope.names []) (bindC (envOfC qual scope s.heap.objs.size f cd).kindOf (ps.zip us) fun _ => none) s1) :
    Inv (cxOf CX P w K mg base N qual scope f cd A outer s H E) [] (start N vs) H s1 := by
  have hpl : ps.length ≤ N.length := by have := congrArg List.length S.pre; rw [List.length_take] at this; omega
  obtain ⟨h1, tk, rfl, hk⟩ := x.done
  have noA : ∀ b : Addr, b ∉ (cxOf CX P w K mg base N qual scope f cd A outer s H E).ex := fun b z => absurd (show b ∈ ([] : List Addr) from z) (by simp)
  refine ⟨⟨e0.mod, S.kind, rfl, rfl, Nat.le_refl _, fun y z c h1 h2 => ?_, fun y hy => ?_, fun y c _ h => ?_, fun _ => hd, Around.frames_deeper e0.frames, .inr ⟨rfl, rfl⟩, fun b z => absurd z (noA b), e0.bs, e0.bsz, fun b _ _ => noA b, fun b z => absurd z (noA b), e0.funs, e0.frf⟩,
    rfl, e0.bare, Un.kept hk, ⟨_, x.toInCall.ns, fun i y v h1 h2 h3 => ?_⟩, fun y c h => ⟨_, x.cell y c h⟩, e0.hok.fresh (Nat.le_refl _), fun y c h => ?_, fun p hp => absurd (show p ∈ ([] : List (Addr × Obj)) from hp) (by simp), e0.hok.kept hk, ?_⟩
  · exact name_of_addr x.apart (PySem.mem_of_lookup h1) (PySem.mem_of_lookup h2)
  · have hy : scope.names.lookup y = some .cell ∨ scope.names.lookup y = some .free := hy
    rcases hy with hy | hy
    · exact cell_has hy
    · exact absurd rfl (S.nofree _ (PySem.mem_of_lookup hy))
  · exact Nat.le_of_lt (x.above y c (PySem.mem_of_lookup h))
  · have hi : i < vs.length := by
      unfold start at h2
      by_cases hi : i < vs.length
      · exact hi
      · rw [List.getElem?_append_right (by simpa using hi)] at h2
        rw [List.getElem?_replicate] at h2
        split at h2 <;> cases h2
    have ha : vs[i]? = some v := by
      unfold start at h2
      rw [List.getElem?_append_left (by simpa using hi), List.getElem?_map] at h2
      cases e : vs[i]? with
      | none => rw [e] at h2; cases h2
      | some a => rw [e] at h2; cases h2; rfl
    obtain ⟨u, hu, rv⟩ := r.get ha
    have hp : ps[i]? = some y := by
      rw [← S.pre, List.getElem?_take_of_lt (by omega)]; exact h1
    have ndP : ps.Nodup := by rw [← S.pre]; exact S.nd.sublist (List.take_sublist _ _)
    refine ⟨u, rv, ?_⟩
    rcases S.par y (List.mem_of_getElem? hp) with k | k
    · exact .inl ⟨k, bindL_get ndP hp hu k⟩
    · obtain ⟨c, e⟩ := cell_has (n := s.heap.objs.size + 1) k
      refine .inr ⟨.inl k, c, e, ?_⟩
      have q := x.cell y c e
      rw [bindC_get ndP hp hu (by show scope.names.lookup y ≠ _; rw [k]; decide)] at q
      exact q
  · exact e0.hok.fresh (Nat.le_of_lt (x.above y c (PySem.mem_of_lookup h)))
  · unfold start
    show _ = N.length
    rw [List.length_append, List.length_map, List.length_replicate]
    omega

theorem fn_of {CX : CXT} {P : Program} {w : World} {K : PySem.W.Frag} {mg : Str → Option Value} {base : Heap} {k : Nat} {f : Addr} {name qual : Str} {params : Arguments} {body : List Stmt} {scope : Scope} {dV kV doc pm cdv ct oc : Value} {an od : Option Addr}
    {osl : Array (Option Value)} {N ps : List Str} {sp : Sp} (lk : K.lookup f = some ⟨oc, od, .func (PySem.W.fnOf name qual params body scope dV kV doc pm an cdv ct), osl⟩) (hcd : PySem.W.codeIn K cdv qual = true) (S : FnScope N ps scope)
    (len : ∀ vs H Q E, sp vs H Q E → vs.length = ps.length)
    (hbody : ∀ (A : Around) (outer : List Env) (s : Shared) (H : Hp) (vs : List V) (Q : VK) (E : XK), Room k (A.deeper (envOfC qual scope s.heap.objs.size f cdv)) → sp vs H Q E →
      ∃ t, PSs (cxOf CX P w K mg base N qual scope f cdv A outer s H E) body t ∧ t { nx := fun _ H' => Q .non H', rt := Q } (start N vs) H) :
    FnOk P w K mg base CX (k + 1) f (PySem.W.fnOf name qual params body scope dV kV doc pm an cdv ct) ps sp := by
  refine ⟨len, fun A outer s H args us vs Q E hr e0 hb r hsp => ?_⟩
  have hl := len _ _ _ _ hsp
  have KX : K.In s.heap := e0.mod.kin.keeps fun b o e => (e0.bs b o e).1
  have lim : s.heap.NoLimit := e0.mod.nolimit.keeps fun b o e => (e0.bs b o e).1
  have hkind : ∀ y ∈ ps.zip us, scope.names.lookup y.1 = some .local ∨ (scope.names.lookup y.1 = some .cell ∧ ((cellsFrom (s.heap.objs.size + 1) scope.names []).lookup y.1).isSome = true) := fun ⟨n, v⟩ hy => by
    rcases S.par n (List.of_mem_zip hy).1 with q | q
    · exact .inl q
    · exact .inr ⟨q, PySem.W.cellsFrom_some _ _ _ (.inl q)⟩
  refine codeAny_call_function hr.depth (KX _ _ lk) rfl S.co S.gen rfl (PySem.W.codeRec_of KX hcd) (hb _ _ _ _ ?_)
  refine wpAny_newFunctionEnv_cells S.kind hkind fun env he s1 x => ?_
  subst he
  refine ⟨lim.keeps x.toInCall.keep, codeAny_func ?_⟩
  obtain ⟨t, ht, hq⟩ := hbody A outer s H vs Q E (hr.deeper _) hsp
  have I : Inv (cxOf CX P w K mg base N qual scope f cdv A outer s H E) [] (start N vs) H s1 := inv_start S hr.hd e0 hl r x
  refine wpAny_mono (ht [] s1 (start N vs) H _ I hq) (fun fl s' hs => ?_) fun e s' hs => hs
  have fin : ∀ {σ' : St} {H' : Hp} {v : V} {u : Value}, Inv (cxOf CX P w K mg base N qual scope f cdv A outer s H E) [] σ' H' s' → RelV v u → Q v H' → CE outer P w H s Q u s' :=
    fun {σ' H' v u} J rv q => ⟨v, H', J.os, J.bare, J.base, J.hok, rv, q⟩
  cases fl with
  | ret u =>
    obtain ⟨v, σ', H', J, rv, q⟩ := hs
    exact fin J rv q
  | next =>
    obtain ⟨σ', H', J, q⟩ := hs
    exact fin (v := V.non) (u := Value.none) J rfl q
  | brk =>
    obtain ⟨_, _, _, q⟩ := hs
    exact False.elim q
  | cont =>
    obtain ⟨_, _, _, q⟩ := hs
    exact False.elim q
end L2

namespace L2
open PySem PySem.Spec PyProof.Rows
section
variable {X : Cx} {x : Str} {p pos : Pos} {e : Expr} {es : List Expr} {t : TA} {id T : String} {r : List V → Hp → VK → Prop}

def tCB (r : List V → Hp → VK → Prop) (t : TA) : TE := fun σ H Q => t σ H fun vs H1 => r vs H1 Q
theorem pe_callB (hc : CallR X (.builtin id) r) (hg : Gl X x) (hm : X.mg x = none) (hv : bootBuiltins x = some (.builtin id)) (ha : PA X (e :: es) t) (hn : x ≠ "__name__" := by decide) (hdb : (x == ("__debug__" : Str)) = false := by decide)
    (he : starEach (e :: es) X.env = (false, eval e X.env) :: starEach es X.env := by rfl) (hpl : (backTo pos (starEach es X.env)).any (·.1) = false := by rfl) : PE X (.Call (.Name x p) (e :: es) [] pos) (tCB r t) := by
  intro pins s σ H Q I h
  refine wpAny_Call_Name_kw (ld_blt I hg hm hv ?_ hn hdb)
  exact PyProof.Rows.callWith_builtin1 (thn (ha pos pins s σ H _ I h) fun us s1 ⟨vs, H1, I1, r1, q1⟩ => hc pins s1 σ H1 vs us Q I1 r1 q1) he hpl
theorem pe_callTy (hc : CallR X (.type T) r) (hg : Gl X x) (hm : X.mg x = none) (hv : bootBuiltins x = some (.type T)) (ha : PA X (e :: es) t) (hn : x ≠ "__name__" := by decide) (hdb : (x == ("__debug__" : Str)) = false := by decide)
    (he : starEach (e :: es) X.env = (false, eval e X.env) :: starEach es X.env := by rfl) (hpl : (backTo pos (starEach es X.env)).any (·.1) = false := by rfl) : PE X (.Call (.Name x p) (e :: es) [] pos) (tCB r t) := by
  intro pins s σ H Q I h
  refine wpAny_Call_Name_kw (ld_blt I hg hm hv ?_ hn hdb)
  exact PyProof.Rows.callWith_type1 (thn (ha pos pins s σ H _ I h) fun us s1 ⟨vs, H1, I1, r1, q1⟩ => hc pins s1 σ H1 vs us Q I1 r1 q1) he hpl
end
end L2

namespace HT
open PySem PyProof.Rows

section
open PySem.SeqAt
open PySem.AutoSeq1 (wpAny_loadPart')
open PySem.MeetsSeq PySem.MeetsSeq2 PySem.MeetsSeq3

end

section
variable {prog : Program} {w : World} {A : Around} {E : Value → Shared → Prop} {s : Shared}

def sIx (n d : Nat) : Option Int → Nat
  | none => d
  | some v => if v < 0 then (v + (n : Int)).toNat else min v.toNat n
end
end HT

namespace L2
open PySem PySem.Spec PyProof.Rows

abbrev TO := St → Hp → (Option Int → Hp → Prop) → Prop
section
variable {X : Cx} {e : Expr} {te : TE} {lo hi : Option Expr} {tl th : TO} {pos p2 : Pos}

def SlR (X : Cx) (r : V → Option Int → Option Int → Hp → VK → Prop) : Prop :=
  ∀ (pins : List (Addr × Obj)) (s : Shared) (σ : St) (H : Hp) (x : V) (v vl vu : Value) (lo hi : Option Int) (sl : Addr) (Q : VK), Inv X pins σ H s → RelV x v → s.heap.IsSliceOf sl vl vu .none → IsPart vl lo → IsPart vu hi → r x lo hi H Q →
    ∃ T id, typeLookup (.type T) "__getitem__" = pure (some (.builtin id)) ∧ s.TypeIs v T ∧ wpAny (model X.prog X.w) X.A (getItem v (.ref sl)) (EP X pins σ Q) X.xe s
theorem SlR.or {r r' : V → Option Int → Option Int → Hp → VK → Prop} (h : SlR X r) (h' : SlR X r') : SlR X (fun x lo hi H Q => r x lo hi H Q ∨ r' x lo hi H Q) := by
  intro pins s σ H x v vl vu lo hi sl Q I rx hs pl pu q
  rcases q with q | q
  · exact h pins s σ H x v vl vu lo hi sl Q I rx hs pl pu q
  · exact h' pins s σ H x v vl vu lo hi sl Q I rx hs pl pu q
def cutV (xs : List V) (lo hi : Option Int) : List V := (xs.drop (HT.sIx xs.length 0 lo)).take (HT.sIx xs.length xs.length hi - HT.sIx xs.length 0 lo)
theorem cutV_length (xs : List V) (lo hi : Option Int) : (cutV xs lo hi).length ≤ xs.length := by
  unfold cutV
  rw [List.length_take, List.length_drop]
  omega
end
end L2

namespace L2
open PySem PySem.Spec PyProof.Rows

def ixN (n : Nat) (i : Int) : Option Nat := if 0 ≤ i then (if i < n then some i.toNat else none) else if -(n : Int) ≤ i then some (i + n).toNat else none
def atI {α : Type} (xs : List α) (i : Int) : Option α := (ixN xs.length i).bind fun j => xs[j]?
theorem ixN_seq {n : Nat} {i : Int} {j : Nat} (h : ixN n i = some j) : seqIndex? i n = some j ∧ j < n ∧ -(n : Int) ≤ i ∧ i < n := by
  unfold ixN at h
  by_cases h0 : 0 ≤ i
  · rw [if_pos h0] at h
    by_cases h1 : i < n
    · rw [if_pos h1] at h
      have e : i.toNat = j := Option.some.inj h
      exact ⟨by rw [seqIndex_of h0 h1, e], by omega, by omega, h1⟩
    · rw [if_neg h1] at h; cases h
  · rw [if_neg h0] at h
    by_cases h1 : -(n : Int) ≤ i
    · rw [if_pos h1] at h
      have e : (i + n).toNat = j := Option.some.inj h
      exact ⟨by rw [seqIndex_neg (by omega) h1, e], by omega, h1, by omega⟩
    · rw [if_neg h1] at h; cases h
theorem atI_get {α : Type} {xs : List α} {i : Int} {v : α} (h : atI xs i = some v) : ∃ j, seqIndex? i xs.length = some j ∧ xs[j]? = some v ∧ j < xs.length ∧ -(xs.length : Int) ≤ i ∧ i < xs.length := by
  unfold atI at h
  cases e : ixN xs.length i with
  | none => rw [e] at h; cases h
  | some j =>
    rw [e] at h
    obtain ⟨h1, h2, h3, h4⟩ := ixN_seq e
    exact ⟨j, h1, h, h2, h3, h4⟩
theorem atI_nat {α : Type} {xs : List α} {j : Nat} {v : α} (h : xs[j]? = some v) : atI xs (j : Int) = some v := by
  have hj : j < xs.length := (List.getElem?_eq_some_iff.mp h).1
  have e : ixN xs.length (j : Int) = some j := by
    unfold ixN
    rw [if_pos (by omega), if_pos (by omega)]; simp
  unfold atI; rw [e]; exact h
def PlainIx (b : Expr) : Prop := ∀ o i, subscripted b false o i = operate [o, i] (getItem o i)
def IxR (X : Cx) (r : R2) : Prop :=
  ∀ (value slice : Expr) (pins : List (Addr × Obj)) (s : Shared) (σ : St) (H : Hp) (x y : V) (v u : Value) (Q : VK), Inv X pins σ H s → RelV x v → RelV y u → r x y H Q →
    subscripted slice false v u = operate [v, u] (getItem v u) → wpAny (model X.prog X.w) X.A (subscriptTail value slice v u) (EP X pins σ Q) X.xe s
def MtR (X : Cx) (id : String) (r : V → List V → Hp → VK → Prop) : Prop :=
  ∀ (pins : List (Addr × Obj)) (s : Shared) (σ : St) (H : Hp) (x : V) (xs : List V) (v : Value) (us : List Value) (Q : VK), Inv X pins σ H s → RelV x v → Vals xs us → r x xs H Q →
    wpAny (model X.prog X.w) X.A (call (.builtin id) (v :: us)) (EP X pins σ Q) X.xe s
section
variable {X : Cx} {a b : Expr} {ta tb : TE} {pos : Pos}
theorem IxR.or {r r' : R2} (h : IxR X r) (h' : IxR X r') : IxR X (fun x y H Q => r x y H Q ∨ r' x y H Q) := by
  intro value slice pins s σ H x y v u Q I rx ry q hs
  rcases q with q | q
  · exact h value slice pins s σ H x y v u Q I rx ry q hs
  · exact h' value slice pins s σ H x y v u Q I rx ry q hs
theorem MtR.or {id : String} {r r' : V → List V → Hp → VK → Prop} (h : MtR X id r) (h' : MtR X id r') : MtR X id (fun x xs H Q => r x xs H Q ∨ r' x xs H Q) := by
  intro pins s σ H x xs v us Q I rx rs q
  rcases q with q | q
  · exact h pins s σ H x xs v us Q I rx rs q
  · exact h' pins s σ H x xs v us Q I rx rs q
theorem pe_ix {r : R2} (hr : IxR X r) (ha : PE X a ta) (hb : PE X b tb) (hs : PlainIx b) : PE X (.Subscript a b pos) (tOp r ta tb) := by
  intro pins s σ H Q I h
  exact Subscript_ (binT ha hb I h fun v u s2 x y H2 I2 rx ry q => hr a b pins s2 σ H2 x y v u Q I2 rx ry q (hs _ _))

def rIxL (K : PySem.W.Frag) : R2 := fun x y H Q => ∃ p xs i v, x = .ref p ∧ y = .int i ∧ SqL K H p xs ∧ atI xs i = some v ∧ Q v H
def rIxT (K : PySem.W.Frag) : R2 := fun x y H Q => ∃ p xs i v, x = .ref p ∧ y = .int i ∧ SqT K H p xs ∧ atI xs i = some v ∧ Q v H
def rIxS : R2 := fun x y H Q => ∃ z i c, x = .str z ∧ y = .int i ∧ z.length ≤ sizeLine ∧ atI z.cps.toList i = some c ∧ Q (.str ⟨#[c]⟩) H
theorem ix_list : IxR X (rIxL X.K) := by
  intro value slice pins s σ H x y v u Q I rx ry h hs
  obtain ⟨p, xs, i, z, rfl, rfl, hq, he, q⟩ := h
  cases rx
  obtain ⟨t, rfl⟩ := ry
  obtain ⟨its, r, pl, hz⟩ := I.list hq
  obtain ⟨j, h1, h2, h3, h4, h5⟩ := atI_get he
  obtain ⟨w, ew, rw'⟩ := r.get h2
  have hl := r.length
  have hn := line63
  have fin : EP X pins σ Q w s := ⟨z, H, I, rw', q⟩
  by_cases h0 : 0 ≤ i
  · have hj : i.toNat = j := by
      rw [seqIndex_of h0 h5] at h1
      exact Option.some.inj h1
    exact item_listR pl.isList h0 (by omega) (by rw [hj]; simpa using ew) fin hs
  · have hj : (i + (its.toArray.size : Int)).toNat = j := by
      rw [seqIndex_neg (by omega) h4] at h1
      rw [List.size_toArray, ← hl]
      exact Option.some.inj h1
    exact subscriptTail_builtinR (x := w) pl.isList.typeIs slot_list_getitem.lookup
      (wpAny_getItem_list_neg (Q := fun r s' => r = w ∧ EP X pins σ Q r s') pl.isList (by omega) (by rw [List.size_toArray] <;> omega) (by omega) (by rw [hj]; simpa using ew) ⟨rfl, fin⟩) hs
theorem ix_tup : IxR X (rIxT X.K) := by
  intro value slice pins s σ H x y v u Q I rx ry h hs
  obtain ⟨p, xs, i, z, rfl, rfl, hq, he, q⟩ := h
  cases rx
  obtain ⟨t, rfl⟩ := ry
  obtain ⟨its, r, pl, hz⟩ := I.tuple hq
  obtain ⟨j, h1, h2, h3, h4, h5⟩ := atI_get he
  obtain ⟨w, ew, rw'⟩ := r.get h2
  have hl := r.length
  have hn := line63
  have fin : EP X pins σ Q w s := ⟨z, H, I, rw', q⟩
  exact subscriptTail_builtinR (x := w) pl.typeIs slot_tuple_getitem.lookup
    (getItem_tuple (j := j) (Q := fun r s' => r = w ∧ EP X pins σ Q r s') pl (by omega) (by omega) (by rw [List.size_toArray, ← hl]; exact h1) (by simpa using ew) ⟨rfl, fin⟩) hs
theorem ix_str : IxR X rIxS := by
  intro value slice pins s σ H x y v u Q I rx ry h hs
  obtain ⟨z, i, c, rfl, rfl, hz, he, q⟩ := h
  obtain ⟨t, rfl⟩ := rx
  obtain ⟨t', rfl⟩ := ry
  obtain ⟨j, h1, h2, h3, h4, h5⟩ := atI_get he
  have hl : z.cps.toList.length = z.length := by simp [Str.length]
  rw [hl] at h1 h4 h5
  have hn := line63
  exact tail_any (typeIs_str s z t) slot_str_getitem.lookup (getItem_str (c := c) (by
    have e1 : decide (i < -(2 ^ 63 : Int)) = false := decide_eq_false (by omega)
    have e2 : decide (i ≥ 2 ^ 63) = false := decide_eq_false (by omega)
    rw [e1, e2, Bool.or_false]) (by rw [h1]; simpa using h2) ⟨.str ⟨#[c]⟩, H, I.tok _, ⟨_, rfl⟩, q⟩) hs
def rIx (K : PySem.W.Frag) : R2 := fun x y H Q => rIxL K x y H Q ∨ rIxT K x y H Q ∨ rIxS x y H Q
theorem ix_seq : IxR X (rIx X.K) := ix_list.or (ix_tup.or ix_str)

theorem slice_bounds (lo hi : Option Int) (n : Nat) : (sliceBounds lo hi none n).1 = ((HT.sIx n 0 lo : Nat) : Int) ∧ (sliceBounds lo hi none n).2.1 = ((HT.sIx n n hi : Nat) : Int) ∧ (sliceBounds lo hi none n).2.2 = 1 := by
  refine ⟨?_, ?_, rfl⟩
  · cases lo with
    | none => simp [sliceBounds, HT.sIx]
    | some i =>
      simp only [sliceBounds, HT.sIx, Option.getD_none, show (1 : Int) > 0 by decide, if_true]
      by_cases h : i < 0
      · simp only [h, if_true] <;> omega
      · simp only [h, if_false] <;> omega
  · cases hi with
    | none => simp [sliceBounds, HT.sIx]
    | some i =>
      simp only [sliceBounds, HT.sIx, Option.getD_none, show (1 : Int) > 0 by decide, if_true]
      by_cases h : i < 0
      · simp only [h, if_true] <;> omega
      · simp only [h, if_false] <;> omega
theorem slicePick_cut (its : List Value) (lo hi : Option Int) : slicePick its.toArray lo hi none = ((its.drop (HT.sIx its.length 0 lo)).take (HT.sIx its.length its.length hi - HT.sIx its.length 0 lo)).toArray := by
  obtain ⟨h1, h2, h3⟩ := slice_bounds lo hi its.toArray.size
  unfold slicePick
  rw [h1, h2, h3]
  simp only [sliceRange_one, pick_run, List.size_toArray] <;> rfl
def rSlL (K : PySem.W.Frag) : V → Option Int → Option Int → Hp → VK → Prop := fun x lo hi H Q => ∃ a xs, x = .ref a ∧ SqL K H a xs ∧ ∀ p, H p = none → Q (.ref p) (upd H p (.lst (cutV xs lo hi)))
theorem sl_list : SlR X (rSlL X.K) := by
  intro pins s σ H x v vl vu lo hi sl Q I rx hs pl pu h
  obtain ⟨a, xs, rfl, hx, q⟩ := h
  cases rx
  obtain ⟨its, r, ht, hz⟩ := I.list hx
  have hlen := r.length
  refine ⟨"list", _, slot_list_getitem.lookup, ht.isList.typeIs, ?_⟩
  refine wpAny_getItem_list_slice ht.isList hs pl pu .none (by simp) ?_ (by rw [List.size_toArray] <;> omega)
  rw [slicePick_cut, ← hlen]
  refine ⟨.ref s.heap.objs.size, _, I.laid (t' := s.toks) (o := .lst (cutV xs lo hi)) (fun b ob q => Heap.get?_push_of_some _ q) (Nat.le_refl _) ?_, rfl, q _ (I.hok.fresh (Nat.le_refl _))⟩
  exact ⟨Nat.le_trans (cutV_length xs lo hi) hz, _, 0, (r.drop (HT.sIx xs.length 0 lo)).take (HT.sIx xs.length xs.length hi - HT.sIx xs.length 0 lo), Heap.get?_push_size _ rfl⟩

def flatV : V → Bool
  | .non => true
  | .bl _ => true
  | .int _ => true
  | .str _ => true
  | _ => false
def eqV : V → V → Bool
  | .non, .non => true
  | .bl a, .bl b => a == b
  | .bl a, .int b => (if a then 1 else 0) == b
  | .int a, .bl b => a == (if b then 1 else 0)
  | .int a, .int b => a == b
  | .str a, .str b => a == b
  | _, _ => false
theorem eqAt_V {A : Around} {s : Shared} {y x : V} {u v : Value} (ry : RelV y u) (rx : RelV x v) (fy : flatV y = true) (fx : flatV x = true) : SeqAt.EqAt A s u v (eqV y x) := by
  cases y with
  | non =>
    cases ry
    cases x with
    | non => cases rx; exact SeqAt.EqAt.same _
    | bl b => cases rx; exact SeqAt.EqAt.none_bool b
    | int b => obtain ⟨t, rfl⟩ := rx; exact SeqAt.EqAt.none_int b t
    | str b => obtain ⟨t, rfl⟩ := rx; exact SeqAt.EqAt.none_str b t
    | _ => exact absurd (show false = true from fx) Bool.false_ne_true
  | bl a =>
    cases ry
    cases x with
    | non => cases rx; exact SeqAt.EqAt.bool_none a
    | bl b => cases rx; exact SeqAt.EqAt.bool_bool a b
    | int b => obtain ⟨t, rfl⟩ := rx; exact SeqAt.EqAt.bool_int a b t
    | str b => obtain ⟨t, rfl⟩ := rx; exact SeqAt.EqAt.bool_str a b t
    | _ => exact absurd (show false = true from fx) Bool.false_ne_true
  | int a =>
    obtain ⟨t', rfl⟩ := ry
    cases x with
    | non => cases rx; exact SeqAt.EqAt.int_none a t'
    | bl b => cases rx; exact SeqAt.EqAt.int_bool a t' b
    | int b => obtain ⟨t, rfl⟩ := rx; exact SeqAt.EqAt.int_int a t' b t
    | str b => obtain ⟨t, rfl⟩ := rx; exact SeqAt.EqAt.int_str a t' b t
    | _ => exact absurd (show false = true from fx) Bool.false_ne_true
  | str a =>
    obtain ⟨t', rfl⟩ := ry
    cases x with
    | non => cases rx; exact SeqAt.EqAt.str_none a t'
    | bl b => cases rx; exact SeqAt.EqAt.str_bool a t' b
    | int b => obtain ⟨t, rfl⟩ := rx; exact SeqAt.EqAt.str_int a t' b t
    | str b => obtain ⟨t, rfl⟩ := rx; exact SeqAt.EqAt.str_str a t' b t
    | _ => exact absurd (show false = true from fx) Bool.false_ne_true
  | _ => exact absurd (show false = true from fy) Bool.false_ne_true
theorem call_len_seq : CallR X (.builtin "len") (fun xs H Q => ∃ p ys, xs = [.ref p] ∧ (SqL X.K H p ys ∨ SqT X.K H p ys) ∧ Q (.int ys.length) H) := by
  intro pins s σ H xs us Q I r h
  obtain ⟨p, ys, rfl, hq, q⟩ := h
  obtain ⟨u, rfl, rx⟩ := vals1 r
  cases rx
  have hn := line63
  rcases hq with hq | hq
  · obtain ⟨its, r', pl, hz⟩ := I.list hq
    have hlen := r'.length
    exact Calls.call_len_list pl.isList (by simp only [List.size_toArray] <;> omega) ⟨.int ys.length, H, I.tok _, ⟨s.toks + 1, by rw [List.size_toArray, hlen]⟩, q⟩
  · obtain ⟨its, r', pl, hz⟩ := I.tuple hq
    have hlen := r'.length
    exact len_tuple pl (by simp only [List.size_toArray] <;> omega) ⟨.int ys.length, H, I.tok _, ⟨s.toks + 1, by rw [List.size_toArray, hlen]⟩, q⟩
theorem CallR.or {f : Value} {r r' : List V → Hp → VK → Prop} (h : CallR X f r) (h' : CallR X f r') : CallR X f (fun xs H Q => r xs H Q ∨ r' xs H Q) := by
  intro pins s σ H xs us Q I rs q
  rcases q with q | q
  · exact h pins s σ H xs us Q I rs q
  · exact h' pins s σ H xs us Q I rs q
theorem call_list_of : CallR X (.type "list") (fun xs H Q => ∃ p ys, xs = [.ref p] ∧ (SqL X.K H p ys ∨ SqT X.K H p ys) ∧ ∀ l, H l = none → Q (.ref l) (upd H l (.lst ys))) := by
  intro pins s σ H xs us Q I r h
  obtain ⟨p, ys, rfl, hq, q⟩ := h
  obtain ⟨u, rfl, rx⟩ := vals1 r
  cases rx
  have fin : ∀ (its : List Value), Vals ys its → ys.length ≤ sizeLine → ∀ (h' : Heap) (c' : Nat), (∀ b o', s.heap.get? b = some o' → h'.get? b = some o') →
      h'.get? s.heap.objs.size = some { cls := .type "list", dict := none, data := .seq its.toArray c', slots := #[] } → EP X pins σ Q (.ref s.heap.objs.size) { s with heap := h' } := fun its r' hz h' c' kp e =>
    ⟨.ref s.heap.objs.size, _, I.laid (t' := s.toks) kp (Nat.le_refl _) (show ObjOk X.prog X.w _ h' _ (.lst ys) from ⟨hz, its, c', r', e⟩), rfl, q _ (I.hok.fresh (Nat.le_refl _))⟩
  rcases hq with hq | hq
  · obtain ⟨its, r', pl, hz⟩ := I.list hq
    have hlen := r'.length
    obtain ⟨o, ho, hc, n, hd⟩ := pl.isList
    exact call_list_seq p (.inl rfl) ho hc hd (fun h' c' kp e => fin its r' hz h' c' kp e) (by simp only [List.size_toArray] <;> omega)
  · obtain ⟨its, r', pl, hz⟩ := I.tuple hq
    have hlen := r'.length
    obtain ⟨o, ho, hc, n, hd⟩ := pl
    exact call_list_seq p (.inr rfl) ho hc hd (fun h' c' kp e => fin its r' hz h' c' kp e) (by simp only [List.size_toArray] <;> omega)
def tyV (K : PySem.W.Frag) (T : String) (x : V) (H : Hp) : Prop := match x with
  | .str _ => T = "str"
  | .int _ => T = "int"
  | .ref p => (T = "list" ∧ ∃ xs, SqL K H p xs) ∨ (T = "tuple" ∧ ∃ o, K.lookup p = some o ∧ o.cls = .type "tuple" ∧ o.dict = none) ∨
      (T = "dict" ∧ ((∃ kvs, H p = some (.dK kvs)) ∨ ∃ kvs, H p = some (.dT kvs))) ∨ (T = "set" ∧ ∃ S n, H p = some (.set S n))
  | _ => False
theorem tyV_is {pins : List (Addr × Obj)} {σ : St} {H : Hp} {s : Shared} {T : String} {x : V} {v : Value} (I : Inv X pins σ H s) (r : RelV x v) (ty : tyV X.K T x H) :
    s.TypeIs v T ∧ ∀ a, v = .ref a → ∃ ob, s.heap.get? a = some ob ∧ ob.dict = none := by
  cases x with
  | str z =>
    obtain ⟨t, rfl⟩ := r
    cases (show T = "str" from ty)
    exact ⟨typeIs_str s z t, fun _ e => nomatch e⟩
  | int i =>
    obtain ⟨t, rfl⟩ := r
    cases (show T = "int" from ty)
    exact ⟨typeIs_int s i t, fun _ e => nomatch e⟩
  | ref p =>
    cases r
    rcases ty with ⟨rfl, xs, hq⟩ | ⟨rfl, o, hk, hc, hd⟩ | ⟨rfl, hk⟩ | ⟨rfl, S, n, hk⟩
    · obtain ⟨its, _, pl, _⟩ := I.list hq
      refine ⟨pl.isList.typeIs, fun a e => ?_⟩
      cases e
      obtain ⟨o, n, e, c, hd, _⟩ := pl
      exact ⟨o, e, hd⟩
    · refine ⟨⟨o, I.kIn p o hk, hc⟩, fun a e => ?_⟩
      cases e
      exact ⟨o, I.kIn _ o hk, hd⟩
    · have z : ∃ o, s.heap.get? p = some o ∧ o.ExactDict := by
        rcases hk with ⟨kvs, hk⟩ | ⟨kvs, hk⟩
        · obtain ⟨_, _, _, _, o, _, _, e, ex, _⟩ := I.hok p _ hk
          exact ⟨o, e, ex⟩
        · obtain ⟨_, _, _, _, o, _, _, e, ex, _⟩ := I.hok p _ hk
          exact ⟨o, e, ex⟩
      obtain ⟨o, e, ex⟩ := z
      refine ⟨⟨o, e, ex.1⟩, fun a e2 => ?_⟩
      cases e2
      exact ⟨o, e, ex.2.1⟩
    · obtain ⟨o, _, _, _, e, ex, _⟩ := I.hok p _ hk
      refine ⟨⟨o, e, ex.1⟩, fun a e2 => ?_⟩
      cases e2
      exact ⟨o, e, ex.2.1⟩
  | _ => exact False.elim ty
def tBM (K : PySem.W.Frag) (T : String) (r : V → List V → Hp → VK → Prop) (to : TE) (t : TA) : TE := fun σ H Q => to σ H fun x H1 => tyV K T x H1 ∧ t σ H1 fun xs H2 => r x xs H2 Q
variable {o e : Expr} {es : List Expr} {to : TE} {t : TA} {name : Str} {apos cpos : Pos} {T id : String} {r : V → List V → Hp → VK → Prop}
theorem pe_bm (pa : PlainAttrs T) (slot : Slot T name id) (hty : typeOf (.builtin id) = pure (.type "method_descriptor")) (hm : MtR X id r) (ho : PE X o to) (ha : PA X (e :: es) t)
    (hbase : attributeBase o name X.env (eval o X.env) = eval o X.env := by rfl)
    (hfew : ((backTo cpos (starEach (e :: es) X.env)).all (fun x => !x.1) && (backToKw cpos (keywordEach [] X.env)).all (fun x => x.1.isSome)
      && decide ((e :: es).length + ([] : List Keyword).length + (if ([] : List Keyword).isEmpty then 0 else 1) < 30)) = true := by rfl)
    (hline : (apos.endLine == cpos.line) = true := by rfl) (hs : starEach (e :: es) X.env = (false, eval e X.env) :: starEach es X.env := by rfl) (hplain : (backTo cpos (starEach es X.env)).any (·.1) = false := by rfl) :
    PE X (.Call (.Attribute o name apos) (e :: es) [] cpos) (tBM X.K T r to t) := by
  intro pins s σ H Q I h
  refine wpAny_Call_method_late hbase hfew hline rfl (thn (ho pins s σ H _ I h) fun v s1 ⟨x, H1, I1, r1, ty, q1⟩ => ?_)
  obtain ⟨h1, h2⟩ := tyV_is I1 r1 ty
  refine ⟨T, id, pa, slot, hty, h1, h2, ?_⟩
  have hA := ha cpos pins s1 σ H1 _ I1 q1
  rw [hs] at hA ⊢
  refine Calls.callWith_builtin (by show (false || (backTo cpos (starEach es X.env)).any (·.1)) = false; rw [hplain] <;> rfl) (Calls.evalArgs_plain ?_)
  exact thn hA fun us s2 ⟨vs, H2, I2, r2, q2⟩ => hm pins s2 σ H2 x vs v us Q I2 r1 r2 q2
/- xs.append(e), list.index on a module's tuple .. are MtR facts of 06m -/
end
end L2

namespace L2
open PySem PySem.Spec PyProof.Rows

def MtM (X : Cx) (id : String) (r : V → List V → Hp → VK → Prop) : Prop :=
  ∀ (pins : List (Addr × Obj)) (s : Shared) (σ : St) (H : Hp) (x : V) (xs : List V) (v : Value) (us : List Value) (Q : VK), Inv X pins σ H s → RelV x v → Vals xs us → r x xs H Q →
    wpAny (model X.prog X.w) X.A (call (.builtin id) (v :: us)) (EP X pins σ Q) X.xe s

theorem Vals.one : ∀ {x : V} {us : List Value}, Vals [x] us → ∃ u, us = [u] ∧ RelV x u
  | _, _, .cons r .nil => ⟨_, rfl, r⟩
theorem Vals.two : ∀ {x y : V} {us : List Value}, Vals [x, y] us → ∃ u v, us = [u, v] ∧ RelV x u ∧ RelV y v
  | _, _, _, .cons r (.cons q .nil) => ⟨_, _, rfl, r, q⟩
theorem Vals.zero : ∀ {us : List Value}, Vals [] us → us = []
  | _, .nil => rfl
section
variable {X : Cx} {pins : List (Addr × Obj)} {σ : St} {H : Hp} {s : Shared} {l b : Addr} {xs ys zs : List V}

theorem Inv.lset {its its' : List Value} {n : Nat} {f : Array Value → Array Value} {t' : Nat} (I : Inv X pins σ H s) (hH : H l = some (.lst xs))
    (e : s.heap.get? l = some { cls := .type "list", data := .seq its.toArray n }) (hf : f its.toArray = its'.toArray) (hv : Vals ys its') (hz : ys.length ≤ sizeLine) :
    Inv X pins σ (upd H l (.lst ys)) { s with heap := s.heap.update l (Obj.mapSeq f), toks := t' } := by
  have q := PySem.IsL.update e f
  rw [hf] at q
  refine I.write (x := l) (e := l) (by rw [hH]; exact trivial) (.inl rfl) (fun b' u hb hu => (Heap.get?_update_other s.heap (Obj.mapSeq f) (Ne.symm hb)).trans hu) ⟨_, q⟩ ?_
  exact ⟨hz, its', _, hv, q⟩
theorem Inv.fresh (I : Inv X pins σ H s) : H s.heap.objs.size = none := I.hok.fresh (Nat.le_refl _)
theorem Inv.lstM (I : Inv X pins σ H s) (hH : H l = some (.lst xs)) : xs.length ≤ sizeLine ∧ ∃ (its : List Value) (n : Nat), Vals xs its ∧ xs.length = its.length ∧ s.heap.get? l = some { cls := .type "list", data := .seq its.toArray n } := by
  obtain ⟨z, its, n, r, e⟩ := I.hok l _ hH
  exact ⟨z, its, n, r, r.length, e⟩

end

section
variable {X : Cx}

def rAppend : V → List V → Hp → VK → Prop := fun x vs H Q => ∃ l xs y, x = .ref l ∧ vs = [y] ∧ H l = some (.lst xs) ∧ xs.length < sizeLine ∧ Q .non (upd H l (.lst (xs ++ [y])))
theorem mt_append : MtM X "list.append" rAppend := by
  intro pins s σ H x vs v us Q I rx rv h
  obtain ⟨l, xs, y, rfl, rfl, hH, hz, q⟩ := h
  cases rx
  obtain ⟨u, rfl, ru⟩ := rv.one
  obtain ⟨z, its, n, r, hl, e⟩ := I.lstM hH
  refine call_meets F.slot_list_append ⟨_, e, rfl⟩ F.entry_list_append (F.args_list_append_2 _ _) (PySem.list_append l its.toArray n u (by rw [List.size_toArray]; omega)) ⟨e, ?_⟩
  refine ⟨.non, _, I.lset (its' := its ++ [u]) hH e (by simp) (r.append (.cons ru .nil)) ?_, rfl, q⟩
  rw [List.length_append, List.length_singleton]
  omega

end

section
variable {prog : Program} {w : World} {A : Around} {E : Value → Shared → Prop} {s : Shared}
set_option maxRecDepth 100000 in
end

section
variable {X : Cx}
end
end L2

namespace Att
open PySem PySem.W PySem.Calls PyProof.Rows

theorem ints_of_wellAll {P : Params} {h : Heap} : ∀ (ns : List Int) (vs : List Value), WellAll P h vs (ns.map WData.int) → IntsAre vs ns := by
  intro ns
  induction ns with
  | nil =>
    intro vs w
    rw [List.map_nil] at w
    cases w
    exact .nil
  | cons n ns ih =>
    intro vs w
    rw [List.map_cons] at w
    cases w with
    | cons a b =>
      cases a
      exact .cons _ _ (ih _ b)

theorem script_of {l : OpenLaw} {n : Nat} (hn : l.most = some n) {P : Params} {h : Heap} {args : List WData} {vals : List Value}
    (hpre : l.row.toRowW.claim.pre args = true) (hwl : WellAll P h vals args) :
    ∃ a vs ns, vals = [Value.ref a] ∧ args = [WData.list (ns.map WData.int)] ∧ h.get? a = some { cls := .type "list", data := .seq vs.toArray } ∧ IntsAre vs ns ∧ ns.length ≤ n := by
  have hsh : WShape.hasAll [] args [.list .int] = true := (pre_splitW hpre).1
  have hc : l.pre.holds [] { args := args } = true := (pre_splitW hpre).2
  obtain ⟨d, r, rfl, h1, h2⟩ := hasAllW_cons hsh
  obtain rfl := hasAllW_nil h2
  obtain ⟨xs, rfl, h3⟩ := hasW_list h1
  obtain ⟨ns, rfl⟩ := items_int h3
  have hlen : ns.length ≤ n := by
    unfold OpenLaw.pre at hc
    have h4 : (WTm.not (.lt (.lit (.int (n : Int))) (.len (.arg 0)))).holds [] { args := [.list (ns.map .int)] } = true := by
      have h4 := (holds_andW hc).1
      rw [hn] at h4
      exact h4
    have h5 := condW_of h4 (w_not (w_lt w_lit (w_len_list (w_arg rfl))))
    rw [List.length_map] at h5
    refine Nat.le_of_not_lt fun q => ?_
    have q' : (n : Int) < ((ns.length : Nat) : Int) := by omega
    first
      | (rw [decide_eq_true q'] at h5; exact absurd h5 (by decide))
      | (simp at h5; omega)
  cases hwl with
  | cons w1 w2 =>
    cases w2
    cases w1 with
    | list ho hall => exact ⟨_, _, ns, rfl, rfl, ho, ints_of_wellAll ns _ hall, hlen⟩

theorem post_true (l : OpenLaw) (args : List WData) : l.row.toRowW.claim.post args (.bool true) args = true :=
  postW_of (r := l.row.toRowW) (X := (true == true))
    (show WShape.has [] (.bool true) .bool = true by first | rfl | decide | simp [WShape.has, WShape.arms, WShape.armsAll])
    (show (WTm.eq .res (.lit (.bool true))).value [] { args := args, res := some (.bool true), after := args } = some (.bool (true == true)) from w_eq_bool (w_res rfl) w_lit) rfl

theorem attach_call {l : OpenLaw} {n : Nat} {q : Program} {loose : List Str} {XP : (Str → Option Value) → Heap → Prop} {YP : World → Heap → Prop} {d : DefRec}
    (hn : l.most = some n) (hdf : d.params.defaults = [])
    (call : ∀ (w : World) (s₀ s₁ : Shared) (mg mb : Str → Option Value) (fa : Addr) (o : Obj) (pm cd doc : Value) (a : Addr) (vs : List Value) (ns : List Int),
      Ground q loose [] XP w s₀ mg mb s₁.heap → YP w s₁.heap →
      s₁.heap.get? fa = some o → o.data = .func (docDef d.name d.params d.body d.scope pm cd doc) → s₁.heap.CodeRec cd d.name → mg d.name = some (.ref fa) →
      s₁.heap.get? a = some { cls := .type "list", data := .seq vs.toArray } → IntsAre vs ns → ns.length ≤ n → s₁.gens = #[] →
      codeAny (model l.prog w) callerA (.call (.ref fa) ⟨[.ref a], []⟩) (fun r s' => r = .ok (.ret (.bool true)) ∧ OldK s₁.heap s'.heap ∧ s'.os = s₁.os ∧ AllBare s'.gens) s₁) :
    WalkO q loose XP YP l.row.toRowW d [] (fun f vs => PySem.call f vs) := by
  intro w s₀ s₁ mg mb G Y fa o pm cd doc dV kV ho hd hcd hD hmg hg args vals as hpre hlay hrd hwl hlo
  obtain rfl : dV = .none := Dflts.none hD hdf
  obtain rfl : kV = .none := Dflts.noKw hD
  obtain ⟨a, vs, ns, rfl, rfl, hobj, hints, hlen⟩ := script_of hn hpre hwl
  refine enter_call (codeAny_mono (call w s₀ s₁ mg mb fa o pm cd doc a vs ns G Y ho (fd_plain hd) hcd hmg hobj hints hlen hg) fun r s' hq => ?_)
  obtain ⟨rfl, h2, h3, h4⟩ := hq
  exact ⟨.inl ⟨.bool true, .bool true, [], rfl, fun _ => rfl, .bool true, post_true l _, fun _ => ⟨List.Pairwise.nil, fun _ hm => (nomatch hm)⟩⟩, h2, h3, h4⟩

section
variable {prog : Program} {w : World} {A : Around} {E : Value → Shared → Prop} {s : Shared} {K : Frag}

def ledger (h : Heap) (L d : Addr) : List (Addr × Obj) := (List.range h.objs.size).filterMap fun a => if a = L ∨ a = d then none else (h.get? a).map fun o => (a, o)
end
end Att

namespace L2
open PySem PySem.Spec PyProof.Rows

theorem vals_ints : ∀ {vs : List Value} {ns : List Int}, IntsAre vs ns → Vals (ns.map V.int) vs
  | _, _, .nil => .nil
  | _, _, .cons n t h => .cons ⟨t, rfl⟩ (vals_ints h)

def Only (H : Hp) : Prop := ∀ b, H b = none ∨ ∃ o xs, H b = some (.frz o (.lst xs))

theorem law_call {P : Program} {w : World} {K : PySem.W.Frag} {mg mb : Str → Option Value} {CX : CXT} {k : Nat} {fa a : Addr} {fd : FuncData} {x : Str} {sp : Sp} {s₁ : Shared} {vs : List Value} {ns : List Int}
    (KX : K.In s₁.heap) (hns : s₁.heap.Ns mainGlobals mg) (hb : s₁.heap.Ns builtinsNs mb) (hbb : ∀ x : Str, x ≠ "__name__" → mb x = bootBuiltins x) (hlim : s₁.heap.NoLimit) (hg : s₁.gens = #[])
    (ha : s₁.heap.get? a = some { cls := .type "list", data := .seq vs.toArray }) (hi : IntsAre vs ns) (hl : ns.length ≤ sizeLine) (hr : Room k callerA)
    (F : ∀ base : Heap, K.In base → base.Ns mainGlobals mg → FnOk P w K mg base CX k fa fd [x] sp) (hbind : ∀ (s : Shared) (u : Value), BindsTo s fd ⟨[u], []⟩ [(x, u)])
    (hsp : ∀ H : Hp, Only H → SqL K H a (ns.map V.int) → sp [.ref a] H (fun v _ => v = .bl true) fun _ _ _ => False)
    (hCX : ∀ H e s', CX [] H s₁ (fun _ _ _ => False) e s' → False) :
    codeAny (model P w) callerA (.call (.ref fa) ⟨[.ref a], []⟩) (fun r s' => r = .ok (.ret (.bool true)) ∧ OldK s₁.heap s'.heap ∧ s'.os = s₁.os ∧ AllBare s'.gens) s₁ := by
  have rv := vals_ints hi
  have lenV := hi.length
  -- from an abstract heap in which nothing but the script may be tracked
  have core : ∀ H : Hp, Only H → SqL K H a (ns.map V.int) → HOk P w H s₁.heap → (∀ b, H b ≠ none → b = a) → (H a ≠ none → K.lookup a = none) →
      codeAny (model P w) callerA (.call (.ref fa) ⟨[.ref a], []⟩) (fun r s' => r = .ok (.ret (.bool true)) ∧ OldK s₁.heap s'.heap ∧ s'.os = s₁.os ∧ AllBare s'.gens) s₁ := by
    intro H hO hS hok hA hK
    have base_of : ∀ {b : Addr} {o : Obj}, s₁.heap.get? b = some o → H b = none → (hidT s₁.heap H).get? b = some o := fun e n => hidT_get e n
    have noA : ∀ {b : Addr} {o : Obj} {es : Array DictEntry} {ep : Nat}, s₁.heap.get? b = some o → o.data = .dict es ep → H b = none := fun {b o es ep} e d => by
      cases q : H b with
      | none => rfl
      | some u =>
        have e' : b = a := hA b (by rw [q]; simp)
        subst e'
        rw [ha] at e; cases e
        have d' : Data.seq vs.toArray _ = Data.dict es ep := d
        cases d'
    have nsK : ∀ {b : Addr} {m : Str → Option Value}, s₁.heap.Ns b m → (hidT s₁.heap H).Ns b m := fun {b m} ⟨o, es, ep, e, d, r⟩ => ⟨o, es, ep, base_of e (noA e d), d, r⟩
    have hKb : K.In (hidT s₁.heap H) := fun b o e => base_of (KX b o e) (by
      cases q : H b with
      | none => rfl
      | some u =>
        have e' : b = a := hA b (by rw [q]; simp)
        subst e'
        rw [hK (by rw [q]; simp)] at e; cases e)
    have hM : Mod K mg (hidT s₁.heap H) := ⟨hKb, nsK hns, ⟨mb, nsK hb, hbb⟩, let ⟨mc, h1, h2⟩ := hlim; ⟨mc, nsK h1, h2⟩⟩
    have e0 : Env0 P w K mg (hidT s₁.heap H) callerA [] s₁ H := ⟨rfl, hM, fun b o e => of_hidT e, Nat.le_of_eq (hidT_size _ _), trivial, fun b hb => absurd (show b ∈ ([] : List Addr) from hb) (by simp), hok, .of_eq hg⟩
    refine codeAny_mono ((F _ hKb (nsK hns)).run callerA [] s₁ H ⟨[.ref a], []⟩ [.ref a] [.ref a] _ _ hr e0 (hbind s₁ (.ref a)) (.cons rfl .nil) (hsp H hO hS)) fun r s' h => ?_
    cases r with
    | error e => exact (hCX H e s' h).elim
    | ok fl =>
      cases fl with
      | next => exact False.elim h
      | brk => exact False.elim h
      | cont => exact False.elim h
      | ret u =>
        obtain ⟨v, H', os, bare, un, hok', r', q⟩ := h
        have q' : v = .bl true := q
        subst q'
        obtain rfl : u = Value.bool true := r'
        refine ⟨rfl, OldK.of_keep fun b o e => ?_, os, bare⟩
        cases q : H b with
        | none => exact un.keep b o e q (by intro z; exact absurd (show b ∈ ([] : List Addr) from z) (by simp)) (by simp)
        | some u =>
          rcases hO b with z | ⟨ob, xs, z⟩
          · rw [q] at z; cases z
          · have z2 := un.frzs b ob _ z
            obtain ⟨e1, _⟩ := hok b _ z
            obtain ⟨e2, _⟩ := hok' b _ z2
            rw [e] at e1; cases e1
            exact e2
  cases hk : K.lookup a with
  | some o =>
    -- the script is one of the module's own objects
    have e := KX a o hk
    rw [ha] at e
    cases e
    refine core (fun _ => none) (fun _ => .inl rfl) (.inr ⟨_, vs.toArray, _, hk, rfl, rfl, rfl, by rw [List.size_toArray, lenV]; exact hl, by simpa using rv⟩) (fun b u z => by have z' : (none : Option HO) = some u := z; cases z') (fun b z => absurd rfl z) fun z => absurd rfl z
  | none =>
    refine core (fun b => if b = a then some (.frz { cls := .type "list", data := .seq vs.toArray } (.lst (ns.map V.int))) else none) (fun b => ?_) (.inl (.inr ⟨{ cls := .type "list", data := .seq vs.toArray }, if_pos rfl⟩)) (fun b u z => ?_) (fun b z => ?_) fun _ => hk
    · by_cases hb : b = a
      · exact .inr ⟨_, _, if_pos hb⟩
      · exact .inl (if_neg hb)
    · by_cases hb : b = a
      · have z' := (if_pos hb).symm.trans z
        cases z'
        subst hb
        exact ⟨ha, by rw [List.length_map]; exact hl, vs, _, rv, ha⟩
      · have z' := (if_neg hb).symm.trans z
        cases z'
    · by_cases hb : b = a
      · exact hb
      · exact absurd (if_neg hb) z
end L2

namespace L2
open PySem PySem.Spec PyProof.Rows

abbrev KOf {K : PySem.W.Frag} {h : Heap} (_ : K.In h) : PySem.W.Frag := K

theorem walk_of {l : PySem.W.OpenLaw} {n k : Nat} {q : Program} {loose : List Str} {XP : (Str → Option Value) → Heap → Prop} {YP : World → Heap → Prop} {d : DefRec} {K : Params → PySem.W.Frag} {CX : World → CXT} {sp : World → Sp} {x : Str}
    (hn : l.most = some n) (hn2 : n ≤ sizeLine) (hdf : d.params.defaults = []) (hr : Room k callerA)
    (hY : ∀ (w : World) (h : Heap), YP w h → (K w.params).In h)
    (F : ∀ (w : World) (mg : Str → Option Value) (fa : Addr) (h : Heap), (K w.params).In h → h.Ns mainGlobals mg → mg d.name = some (.ref fa) →
      ∃ fd : FuncData, (∀ (s : Shared) (u : Value), BindsTo s fd ⟨[u], []⟩ [(x, u)]) ∧
        ∀ base : Heap, (K w.params).In base → base.Ns mainGlobals mg → FnOk l.prog w (K w.params) mg base (CX w) k fa fd [x] (sp w))
    (hsp : ∀ (w : World) (H : Hp) (a : Addr) (ns : List Int), ns.length ≤ n → Only H → SqL (K w.params) H a (ns.map V.int) → sp w [.ref a] H (fun v _ => v = .bl true) fun _ _ _ => False)
    (hCX : ∀ (w : World) (H : Hp) (s : Shared) (e : Value) (s' : Shared), CX w [] H s (fun _ _ _ => False) e s' → False) :
    PySem.W.WalkO q loose XP YP l.row.toRowW d [] (fun f vs => PySem.call f vs) := by
  refine Att.attach_call hn hdf fun w s₀ s₁ mg mb fa o pm cd doc a vs ns G Y ho hd hcd hmg hobj hints hlen hg => ?_
  have KX := hY w _ Y
  obtain ⟨fd, hb, hF⟩ := F w mg fa _ KX G.T.g hmg
  exact law_call KX G.T.g G.T.b G.T.builtins G.T.nolimit hg hobj hints (Nat.le_trans hlen hn2) hr hF hb (fun H hO hS => hsp w H a ns hlen hO hS) fun H e s' => hCX w H s₁ e s'
end L2


namespace L2
open PySem PySem.Spec PyProof.Rows

def inClass (s : Stmt) (j : Nat) : Stmt := match s with
  | .ClassDef _ _ _ body _ _ _ _ _ _ _ => body.getD j (.Pass ⟨0, 0, 0, 0⟩)
  | _ => .Pass ⟨0, 0, 0, 0⟩
def defArgs (s : Stmt) : Arguments := match s with
  | .FunctionDef _ a _ _ _ _ _ _ _ _ => a
  | _ => { posonlyargs := [], args := [], vararg := none, kwonlyargs := [], kw_defaults := [], kwarg := none, defaults := [] }
def defBody (s : Stmt) : List Stmt := match s with
  | .FunctionDef _ _ b _ _ _ _ _ _ _ => b
  | _ => []
def defScope (s : Stmt) : Scope := match s with
  | .FunctionDef _ _ _ _ _ _ sc _ _ _ => sc
  | _ => { kind := .function, names := [], isGenerator := false, isCoroutine := false }

abbrev CX0 : CXT := fun _ _ _ _ _ _ => False
abbrev E0 : XK := fun _ _ _ => False
theorem pass0 {X : Cx} : Passes CX0 X E0 := fun _ _ _ _ _ _ _ h => h.elim

structure Fun (K : PySem.W.Frag) (x qual : Str) (st : Stmt) (f : Addr) (fd : FuncData) : Prop where
  ex : ∃ (oc : Value) (od : Option Addr) (kV doc pm : Value) (an : Option Addr) (cdv ct : Value) (osl : Array (Option Value)),
    fd = PySem.W.fnOf x qual (defArgs st) (defBody st) (defScope st) .none kV doc pm an cdv ct ∧ K.lookup f = some ⟨oc, od, .func fd, osl⟩ ∧ PySem.W.codeIn K cdv qual = true
  kp : PySem.W.keepIn K (.ref f) = true
section
variable {P : Program} {w : World} {K : PySem.W.Frag} {mg : Str → Option Value} {base : Heap}
theorem Fun.ok {x qual : Str} {st : Stmt} {f : Addr} {fd : FuncData} {N ps : List Str} {k : Nat} {sp : Sp} (F : Fun K x qual st f fd) (S : FnScope N ps (defScope st)) (len : ∀ vs H Q E, sp vs H Q E → vs.length = ps.length)
    (hbody : ∀ (cdv : Value) (A : Around) (outer : List Env) (s : Shared) (H : Hp) (vs : List V) (Q : VK) (E : XK), Room k (A.deeper (envOfC qual (defScope st) s.heap.objs.size f cdv)) → sp vs H Q E →
      ∃ t, PSs (cxOf CX0 P w K mg base N qual (defScope st) f cdv A outer s H E).nox (defBody st) t ∧ t { nx := fun _ H' => Q .non H', rt := Q } (start N vs) H) : FnOk P w K mg base CX0 (k + 1) f fd ps sp := by
  obtain ⟨oc, od, kV, doc, pm, an, cdv, ct, osl, rfl, lk, hcd⟩ := F.ex
  refine fn_of lk hcd S len fun A outer s H vs Q E hr hsp => ?_
  obtain ⟨t, h, q⟩ := hbody cdv A outer s H vs Q E hr hsp
  exact ⟨t, h.nox, q⟩
theorem Fun.binds {x qual : Str} {st : Stmt} {f : Addr} {fd : FuncData} {ps : List Str} (F : Fun K x qual st f fd)
    (h : ∀ (kV doc pm : Value) (an : Option Addr) (cdv ct : Value) (us : List Value), us.length = ps.length → bindArgs (PySem.W.fnOf x qual (defArgs st) (defBody st) (defScope st) .none kV doc pm an cdv ct) ⟨us, []⟩ = pure (ps.zip us)) : Binds K fd ps [] := by
  obtain ⟨oc, od, kV, doc, pm, an, cdv, ct, osl, rfl, lk, hcd⟩ := F.ex
  exact .all (h kV doc pm an cdv ct)
theorem fun_mk {x qual : Str} {st : Stmt} {f : Addr} {oc : Value} {od an : Option Addr} {osl : Array (Option Value)} {kV doc pm cdv ct : Value} (l : K.lookup f = some ⟨oc, od, .func (PySem.W.fnOf x qual (defArgs st) (defBody st) (defScope st) .none kV doc pm an cdv ct), osl⟩)
    (c : PySem.W.codeIn K cdv qual = true) (k : PySem.W.keepIn K (.ref f) = true) : Fun K x qual st f (PySem.W.fnOf x qual (defArgs st) (defBody st) (defScope st) .none kV doc pm an cdv ct) := ⟨⟨oc, od, kV, doc, pm, an, cdv, ct, osl, rfl, l, c⟩, k⟩
end
section
variable {X : Cx}
theorem pv (i : Nat) {x : Str} {pos : Pos} (hN : X.N[i]? = some x := by rfl) (hv : Vis X.env.scope x := by first | exact Or.inl rfl | exact Or.inr (Or.inl rfl) | exact Or.inr (Or.inr rfl)) (hd : (x == ("__debug__" : Str)) = false := by decide)
    (hcd : (x == ("__classdict__" : Str)) = false := by decide) : PE X (.Name x pos) (tVar i) := pe_var hN hv hd hcd
end

theorem iteF {A B : Prop} (h : B) : if false = true then A else B := by
  rw [if_neg Bool.false_ne_true]
  exact h
theorem iteT {A B : Prop} (h : A) : if true = true then A else B := by
  rw [if_pos rfl]
  exact h
theorem ite2 {c A B : Prop} [Decidable c] (h1 : c → A) (h2 : ¬ c → B) : if c then A else B := by
  by_cases h : c
  · rw [if_pos h]
    exact h1 h
  · rw [if_neg h]
    exact h2 h
def Same (H H' : Hp) : Prop := ∀ b o, H b = some o → H' b = some o
theorem Same.refl (H : Hp) : Same H H := fun _ _ h => h
theorem Same.trans {H H1 H2 : Hp} (a : Same H H1) (b : Same H1 H2) : Same H H2 := fun c o h => b c o (a c o h)
theorem Same.free {H H' : Hp} (e : Same H H') {l : Addr} (h : H' l = Option.none) : H l = Option.none := by
  cases q : H l with
  | none => rfl
  | some o =>
    rw [e l o q] at h
    cases h
theorem Same.seq {K : PySem.W.Frag} {H H' : Hp} {a : Addr} {xs : List V} (e : Same H H') (h : SqL K H a xs) : SqL K H' a xs := by
  rcases h with (h | ⟨o, h⟩) | h
  · exact .inl (.inl (e _ _ h))
  · exact .inl (.inr ⟨o, e _ _ h⟩)
  · exact .inr h

end L2

set_option maxRecDepth 1000000
set_option maxHeartbeats 0
open PySem in
def My.top (i : Nat) : Stmt := PySem.Challenge.pw_oddbases_k46_machine_rows.main.body.getD i (.Pass ⟨0, 0, 0, 0⟩)
noncomputable section
open PySem My
namespace My
abbrev v_ : Option Value := some (.ref 6)
abbrev g_ : Array GenState := ⟨[]⟩
abbrev d_ := @Drawn.mk 0 0 0 0
abbrev P_ := @Pos.mk
abbrev N_ (o : Params → Obj) (a b : Params → W.BT) (x : Params) : W.BT := .node (o x) (a x) (b x)
abbrev Z_ (_ : Params) : W.BT := .nil
abbrev L_ (o : Params → Obj) := N_ o Z_ Z_
theorem sg_ {tb p w n₀ ann b} {n : Nat} {s s' : W.SharedT} {t : Thread} {f : Flow} {c : Code} {q : Pos} (h : W.segRunT tb p w n₀ ann b n s t = some (f, s', c, q)) : W.segRun tb p w n₀ ann b n s.abs t = some (f, s'.abs, c, q) := W.segRun_of h
abbrev p_ (a : String) (b : Nat) : Value := .str (.ofString a) b
abbrev j_ (a : Int) (b : Nat) : Value := .int a b
abbrev r_ (a : Nat) : Value := .ref a
abbrev e_ (x : Params) (a : String) (b : Nat) (v : Value) : DictEntry := ⟨PyData.keyHash x (.ofString a), .str (.ofString a) b, v⟩
abbrev t0 (a1 : String) (a3 : Nat) (a7 : String) (a8 a9 : Nat) (x : Params) : Obj := (@Obj.mk (.type "function") none (@Data.func (@FuncData.mk (.ofString a1) (.ofString a1) (L2.defArgs (My.top a3)) (@FuncBody.stmts (L2.defBody (My.top a3))) (L2.defScope (My.top a3)) 3 (@List.nil (@Prod @Str @Nat)) .none .none .none (p_ a7 a8) none (r_ a9) .none 0)) #[])
abbrev t1 (a1 : String) (a2 : Nat) (a3 : String) (a4 a6 : Nat) (a7 a9 : Int) (a17 a20 a21 a22 a23 : Nat) (a24 : Int) (a29 : Nat) (x : Params) : Obj := (@Obj.mk (.type "code") none (@Data.fields (List.toArray [(p_ a1 a2), (p_ a3 a4), (p_ "/claim/cut.py" a6), (j_ a7 0), (j_ a9 0), (j_ 0 0), (j_ 0 0), (j_ 3 0), (r_ a17), (.bool @Bool.true), (j_ 181 0), (r_ a20), .none, (r_ a21), (r_ a22), (r_ a23), (j_ a24 0), (j_ a7 0), (p_ "/claim/cut.py" a29)])) #[])
abbrev t2 (a0 : String) (a2 : Nat) (x : Params) : Obj := (@Obj.mk .none none (@Data.func (@FuncData.mk (.ofString a0) (.ofString a0) (L2.defArgs (My.top a2)) (@FuncBody.stmts (L2.defBody (My.top a2))) (L2.defScope (My.top a2)) 0 (@List.nil (@Prod @Str @Nat)) .none .none .none .none none .none .none 0)) #[])
abbrev t3 (x : Params) : Obj := (@Obj.mk (.type "tuple") none (@Data.seq #[] 0) #[])
abbrev t4 (x : Params) : Obj := (@Obj.mk .none none (@Data.fields #[]) #[])
abbrev t5 (a1 : String) (a2 : Nat) (a3 : String) (a4 : Nat) (a5 : String) (a6 : Nat) (a7 : String) (a8 : Nat) (a9 : String) (a10 : Nat) (a11 : String) (a12 : Nat) (a13 : String) (a14 : Nat) (a15 : String) (a16 : Nat) (a17 : String) (a18 : Nat) (a19 : String) (a20 : Nat) (x : Params) : Obj := (@Obj.mk (.type "tuple") none (@Data.seq (List.toArray [(p_ a1 a2), (p_ a3 a4), (p_ a5 a6), (p_ a7 a8), (p_ a9 a10), (p_ a11 a12), (p_ a13 a14), (p_ a15 a16), (p_ a17 a18), (p_ a19 a20)]) 0) #[])
abbrev t6 (a1 : String) (a2 : Nat) (a3 : String) (a4 : Nat) (a5 : String) (a6 : Nat) (a7 : String) (a8 : Nat) (a9 : String) (a10 : Nat) (x : Params) : Obj := (@Obj.mk (.type "tuple") none (@Data.seq (List.toArray [(p_ a1 a2), (p_ a3 a4), (p_ a5 a6), (p_ a7 a8), (p_ a9 a10)]) 0) #[])
abbrev t7 (a1 : String) (a2 : Nat) (a3 : String) (a4 : Nat) (a5 : String) (a6 : Nat) (a7 : String) (a8 : Nat) (x : Params) : Obj := (@Obj.mk (.type "tuple") none (@Data.seq (List.toArray [(p_ a1 a2), (p_ a3 a4), (p_ a5 a6), (p_ a7 a8)]) 0) #[])
abbrev t8 (a1 : String) (a2 : Nat) (a3 : String) (a4 : Nat) (a5 : String) (a6 : Nat) (x : Params) : Obj := (@Obj.mk (.type "tuple") none (@Data.seq (List.toArray [(p_ a1 a2), (p_ a3 a4), (p_ a5 a6)]) 0) #[])
abbrev t9 (a1 : String) (a2 : Nat) (a3 : String) (a4 : Nat) (x : Params) : Obj := (@Obj.mk (.type "tuple") none (@Data.seq (List.toArray [(p_ a1 a2), (p_ a3 a4)]) 0) #[])
abbrev t10 (a1 : String) (a2 : Nat) (x : Params) : Obj := (@Obj.mk (.type "tuple") none (@Data.seq (List.toArray [(p_ a1 a2)]) 0) #[])
abbrev t11 (a2 : Nat) (x : Params) : Obj := (@Obj.mk (.type "builtin_function_or_method") none (@Data.fields (List.toArray [(.builtin "object.__init_subclass__"), (r_ a2)])) #[])
abbrev t12 (a1 : Nat) (x : Params) : Obj := (@Obj.mk (.type "super") none (@Data.fields (List.toArray [(r_ a1), (r_ a1), (r_ a1)])) #[])
abbrev t13 (a2 a3 : Nat) (x : Params) : Obj := (@Obj.mk (.type "getset_descriptor") none (@Data.fields (List.toArray [(p_ "__weakref__" a2), (r_ a3), (.builtin "ExceptionGroup.__weakref__"), .none])) #[])
abbrev t14 (a2 a3 : Nat) (x : Params) : Obj := (@Obj.mk (.type "getset_descriptor") none (@Data.fields (List.toArray [(p_ "__dict__" a2), (r_ a3), (.builtin "function.__dict__"), (.builtin "function.__dict__#set")])) #[])
abbrev t15 (a3 : Nat) (a4 : String) (a5 a8 : Nat) (a9 : Int) (a10 a13 a14 : Nat) (a15 : String) (a17 a18 : Nat) (a19 : String) (a21 a22 : Nat) (a23 : String) (a25 a26 : Nat) (a27 : String) (a29 a30 : Nat) (a31 : String) (a33 a34 : Nat) (a35 : String) (a37 a38 a41 a42 : Nat) (x : Params) : Obj := (@Obj.mk (.type "dict") none (@Data.dict (List.toArray [(e_ x "__module__" a3 (p_ a4 a5)), (e_ x "__firstlineno__" a8 (j_ a9 a10)), (e_ x "__init__" a13 (r_ a14)), (e_ x a15 a17 (r_ a18)), (e_ x a19 a21 (r_ a22)), (e_ x a23 a25 (r_ a26)), (e_ x a27 a29 (r_ a30)), (e_ x a31 a33 (r_ a34)), (e_ x a35 a37 (r_ a38)), (e_ x "__doc__" a41 .none)]) a42) #[])
abbrev t16 (a1 a2 : String) (a3 a4 : Nat) (a10 : String) (a11 a12 : Nat) (x : Params) : Obj := (@Obj.mk (.type "function") none (@Data.func (@FuncData.mk (.ofString a1) (.ofString a2) (L2.defArgs (L2.inClass (My.top a3) a4)) (@FuncBody.stmts (L2.defBody (L2.inClass (My.top a3) a4))) (L2.defScope (L2.inClass (My.top a3) a4)) 3 (@List.nil (@Prod @Str @Nat)) .none .none .none (p_ a10 a11) none (r_ a12) .none 0)) #[])
abbrev t17 (a0 a1 : String) (a2 a3 : Nat) (x : Params) : Obj := (@Obj.mk .none none (@Data.func (@FuncData.mk (.ofString a0) (.ofString a1) (L2.defArgs (L2.inClass (My.top a2) a3)) (@FuncBody.stmts (L2.defBody (L2.inClass (My.top a2) a3))) (L2.defScope (L2.inClass (My.top a2) a3)) 0 (@List.nil (@Prod @Str @Nat)) .none .none .none .none none .none .none 0)) #[])
abbrev t18 (a2 : Nat) (a3 : String) (a4 : Nat) (a5 : String) (a6 : Nat) (a7 : String) (a8 : Nat) (a9 : String) (a10 : Nat) (a11 : String) (a12 : Nat) (x : Params) : Obj := (@Obj.mk (.type "tuple") none (@Data.seq (List.toArray [(p_ "self" a2), (p_ a3 a4), (p_ a5 a6), (p_ a7 a8), (p_ a9 a10), (p_ a11 a12)]) 0) #[])
abbrev t19 (a1 a3 : Nat) (a4 : String) (a5 : Nat) (x : Params) : Obj := (@Obj.mk (.type "frame") none @Data.plain (@List.toArray (@Option @Value) [(some (r_ a1)), (some (r_ 3)), (some (r_ a3)), none, (some (p_ a4 a5)), none, (some (r_ 0))]))
abbrev t20 (a1 : String) (a2 a4 a6 : Nat) (a7 : Int) (a17 a20 : Nat) (a21 : Int) (a26 : Nat) (x : Params) : Obj := (@Obj.mk (.type "code") none (@Data.fields (List.toArray [(p_ a1 a2), (p_ a1 a4), (p_ "/claim/cut.py" a6), (j_ a7 0), (j_ 0 0), (j_ 0 0), (j_ 0 0), (j_ 0 0), (r_ a17), (.bool @Bool.false), (j_ 181 0), (r_ a20), .none, .none, .none, .none, (j_ a21 0), (j_ a7 0), (p_ "/claim/cut.py" a26)])) #[])
abbrev t21 (a0 : Int) (a4 : Nat) (a5 : Int) (a9 : Nat) (a10 : Int) (a14 : Nat) (a15 : Int) (a19 : Nat) (x : Params) : Obj := (@Obj.mk .none none (@Data.fields (List.toArray [(j_ a0 0), (j_ 4 0), (r_ a4), (j_ a5 0), (j_ 4 0), (r_ a9), (j_ a10 0), (j_ 4 0), (r_ a14), (j_ a15 0), (j_ 4 0), (r_ a19)])) #[])
abbrev t22 (a3 : Nat) (a4 : String) (a5 a8 : Nat) (a9 : String) (a10 a13 : Nat) (a14 : Int) (a15 a18 a19 : Nat) (a20 : String) (a22 a23 : Nat) (a24 : String) (a26 a27 : Nat) (a28 : String) (a30 a31 a34 a35 : Nat) (x : Params) : Obj := (@Obj.mk (.type "dict") none (@Data.dict (List.toArray [(e_ x "__module__" a3 (p_ a4 a5)), (e_ x "__qualname__" a8 (p_ a9 a10)), (e_ x "__firstlineno__" a13 (j_ a14 a15)), (e_ x "__init__" a18 (r_ a19)), (e_ x a20 a22 (r_ a23)), (e_ x a24 a26 (r_ a27)), (e_ x a28 a30 (r_ a31)), (e_ x "__static_attributes__" a34 (r_ a35))]) 8) #[])
abbrev t23 (x : Params) : Obj := (@Obj.mk (.type "builtin_function_or_method") none (@Data.fields (List.toArray [(.builtin "type.__prepare__"), (.type "type")])) #[])
abbrev t24 (a1 : String) (a3 a6 a8 a10 a12 : Nat) (x : Params) : Obj := (@Obj.mk (.type "type") none (@Data.cls (@ClassData.mk (.ofString a1) [(r_ 176)] [(r_ a3), (r_ 176), (.type "object")] a6 (.ofString a1) @Bool.true [] [] @Bool.false (@Option.none @Bool) @Bool.false)) (@List.toArray (@Option @Value) [(some (r_ a8)), none, (some (p_ a1 a10)), (some (p_ a1 a12)), (some (.builtin "object.__new__")), (some (.bool @Bool.true))]))
abbrev t25 (a0 : Int) (a4 : Nat) (a5 : Int) (a9 : Nat) (a10 : Int) (a14 : Nat) (a15 : Int) (a19 : Nat) (a20 : Int) (a24 : Nat) (a25 : Int) (a29 : Nat) (x : Params) : Obj := (@Obj.mk .none none (@Data.fields (List.toArray [(j_ a0 0), (j_ 4 0), (r_ a4), (j_ a5 0), (j_ 4 0), (r_ a9), (j_ a10 0), (j_ 4 0), (r_ a14), (j_ a15 0), (j_ 4 0), (r_ a19), (j_ a20 0), (j_ 4 0), (r_ a24), (j_ a25 0), (j_ 4 0), (r_ a29)])) #[])
abbrev t26 (a3 a8 : Nat) (a9 : String) (a10 a13 : Nat) (a14 : Int) (a15 : Nat) (a16 : String) (a18 a19 : Nat) (a20 : String) (a22 a23 : Nat) (a24 : String) (a26 a27 : Nat) (a28 : String) (a30 a31 a34 a35 a38 a39 a42 a43 : Nat) (x : Params) : Obj := (@Obj.mk (.type "dict") none (@Data.dict (List.toArray [(e_ x "__module__" a3 (p_ "oddbases.ways" 321)), (e_ x "__qualname__" a8 (p_ a9 a10)), (e_ x "__firstlineno__" a13 (j_ a14 a15)), (e_ x a16 a18 (r_ a19)), (e_ x a20 a22 (r_ a23)), (e_ x a24 a26 (r_ a27)), (e_ x a28 a30 (r_ a31)), (e_ x "split" a34 (r_ a35)), (e_ x "has" a38 (r_ a39)), (e_ x "__static_attributes__" a42 (r_ a43))]) 10) #[])
abbrev t27 (a1 : Nat) (x : Params) : Obj := (@Obj.mk (.type "tuple") none (@Data.seq (List.toArray [(r_ a1)]) 0) #[])
abbrev t28 (a3 a8 : Nat) (a9 : Int) (a10 a13 a14 : Nat) (a15 : String) (a17 a18 : Nat) (a19 : String) (a21 a22 a25 a26 : Nat) (a27 : String) (a29 a30 a33 a34 a37 : Nat) (x : Params) : Obj := (@Obj.mk (.type "dict") none (@Data.dict (List.toArray [(e_ x "__module__" a3 (p_ "oddbases.ways" 321)), (e_ x "__firstlineno__" a8 (j_ a9 a10)), (e_ x "__init__" a13 (r_ a14)), (e_ x a15 a17 (r_ a18)), (e_ x a19 a21 (r_ a22)), (e_ x "ratio" a25 (r_ a26)), (e_ x a27 a29 (r_ a30)), (e_ x "__static_attributes__" a33 (r_ a34)), (e_ x "__doc__" a37 .none)]) 2) #[])
abbrev t29 (a0 : Int) (a4 : Nat) (a5 : Int) (a9 : Nat) (a10 : Int) (a14 : Nat) (a15 : Int) (a19 : Nat) (a20 : Int) (a24 : Nat) (x : Params) : Obj := (@Obj.mk .none none (@Data.fields (List.toArray [(j_ a0 0), (j_ 4 0), (r_ a4), (j_ a5 0), (j_ 4 0), (r_ a9), (j_ a10 0), (j_ 4 0), (r_ a14), (j_ a15 0), (j_ 4 0), (r_ a19), (j_ a20 0), (j_ 4 0), (r_ a24)])) #[])
abbrev t30 (a3 a8 : Nat) (a9 : String) (a10 a13 : Nat) (a14 : Int) (a15 a18 a19 : Nat) (a20 : String) (a22 a23 : Nat) (a24 : String) (a26 a27 a30 a31 : Nat) (a32 : String) (a34 a35 a38 a39 : Nat) (x : Params) : Obj := (@Obj.mk (.type "dict") none (@Data.dict (List.toArray [(e_ x "__module__" a3 (p_ "oddbases.ways" 321)), (e_ x "__qualname__" a8 (p_ a9 a10)), (e_ x "__firstlineno__" a13 (j_ a14 a15)), (e_ x "__init__" a18 (r_ a19)), (e_ x a20 a22 (r_ a23)), (e_ x a24 a26 (r_ a27)), (e_ x "ratio" a30 (r_ a31)), (e_ x a32 a34 (r_ a35)), (e_ x "__static_attributes__" a38 (r_ a39))]) 9) #[])
abbrev t31 (a3 a8 : Nat) (a9 : Int) (a10 a13 a14 a17 a18 a21 a22 a25 a26 a29 : Nat) (x : Params) : Obj := (@Obj.mk (.type "dict") none (@Data.dict (List.toArray [(e_ x "__module__" a3 (p_ "oddbases.ways" 321)), (e_ x "__firstlineno__" a8 (j_ a9 a10)), (e_ x "__init__" a13 (r_ a14)), (e_ x "high" a17 (r_ a18)), (e_ x "ratio" a21 (r_ a22)), (e_ x "__static_attributes__" a25 (r_ a26)), (e_ x "__doc__" a29 .none)]) 2) #[])
abbrev t32 (a0 : Int) (a4 : Nat) (a5 : Int) (a9 : Nat) (a10 : Int) (a14 : Nat) (x : Params) : Obj := (@Obj.mk .none none (@Data.fields (List.toArray [(j_ a0 0), (j_ 4 0), (r_ a4), (j_ a5 0), (j_ 4 0), (r_ a9), (j_ a10 0), (j_ 4 0), (r_ a14)])) #[])
abbrev t33 (a3 a8 : Nat) (a9 : String) (a10 a13 : Nat) (a14 : Int) (a15 a18 a19 a22 a23 a26 a27 a30 a31 : Nat) (x : Params) : Obj := (@Obj.mk (.type "dict") none (@Data.dict (List.toArray [(e_ x "__module__" a3 (p_ "oddbases.ways" 321)), (e_ x "__qualname__" a8 (p_ a9 a10)), (e_ x "__firstlineno__" a13 (j_ a14 a15)), (e_ x "__init__" a18 (r_ a19)), (e_ x "high" a22 (r_ a23)), (e_ x "ratio" a26 (r_ a27)), (e_ x "__static_attributes__" a30 (r_ a31))]) 7) #[])
abbrev t34 (a1 : String) (a3 a9 a11 a13 a15 : Nat) (x : Params) : Obj := (@Obj.mk (.type "type") none (@Data.cls (@ClassData.mk (.ofString a1) [(r_ 31)] [(r_ a3), (r_ 31), (.type "ValueError"), (.type "Exception"), (.type "BaseException"), (.type "object")] a9 (.ofString a1) @Bool.true [] [] @Bool.false (@Option.none @Bool) @Bool.false)) (@List.toArray (@Option @Value) [(some (r_ a11)), none, (some (p_ a1 a13)), (some (p_ a1 a15)), (some (.builtin "ValueError.__new__")), (some (.bool @Bool.true))]))
abbrev t35 (a3 a8 : Nat) (a9 : Int) (a10 a13 a14 a17 : Nat) (x : Params) : Obj := (@Obj.mk (.type "dict") none (@Data.dict (List.toArray [(e_ x "__module__" a3 (p_ "oddbases.errors" 194)), (e_ x "__firstlineno__" a8 (j_ a9 a10)), (e_ x "__static_attributes__" a13 (r_ a14)), (e_ x "__doc__" a17 .none)]) 2) #[])
abbrev t36 (a3 a8 : Nat) (a9 : String) (a10 a13 : Nat) (a14 : Int) (a15 a18 a19 : Nat) (x : Params) : Obj := (@Obj.mk (.type "dict") none (@Data.dict (List.toArray [(e_ x "__module__" a3 (p_ "oddbases.errors" 194)), (e_ x "__qualname__" a8 (p_ a9 a10)), (e_ x "__firstlineno__" a13 (j_ a14 a15)), (e_ x "__static_attributes__" a18 (r_ a19))]) 4) #[])
abbrev U2 (x : Params) : DictEntry := (e_ x "__annotations__" 170 (r_ 6))
abbrev U1 (x : Params) : DictEntry := (e_ x "__file__" 173 (p_ "/claim/cut.py" 172))
abbrev U0 (x : Params) : DictEntry := (e_ x "__loader__" 168 (.builtin "__main__.__loader__#opaque"))
def o678 := t0 "law" 42 "law_oddbases_k46_machine_rows" 829 601
def o677 := t1 "law" 945 "law" 946 947 293 1 596 597 598 599 600 956 957
def o676 := t2 "law" 42
def o675 := t3
def o674 (x : Params) : Obj := (@Obj.mk (.type "tuple") none (@Data.seq (List.toArray [(p_ "_law_script" 948), (p_ "_law_name" 949), (p_ "_law_number" 950), (p_ "_law_low" 951), (p_ "_law_high" 952), (p_ "_law_machine" 953), (p_ "_law_known" 954), (p_ "_law_rows" 955)]) 0) #[])
def o673 := t4
def o671 := t0 "_law_walked" 41 "law_oddbases_k46_machine_rows" 829 594
def o670 := t1 "_law_walked" 929 "_law_walked" 930 931 281 5 589 590 591 592 593 942 943
def o669 := t2 "_law_walked" 41
def o667 := t5 "_law_name" 932 "_law_number" 933 "_law_machine" 934 "_law_low" 935 "_law_high" 936 "_law_known" 937 "_law_rows" 938 "_law_at" 939 "_law_carry" 940 "_law_total" 941
def o664 := t0 "_law_found" 40 "law_oddbases_k46_machine_rows" 829 587
def o663 := t1 "_law_found" 918 "_law_found" 919 920 273 2 582 583 584 585 586 926 927
def o662 := t2 "_law_found" 40
def o660 := t6 "_law_name" 921 "_law_rows" 922 "_law_found_here" 923 "_law_seen" 924 "_law_row_here" 925
def o657 := t0 "_law_row" 39 "law_oddbases_k46_machine_rows" 829 580
def o656 := t1 "_law_row" 907 "_law_row" 908 909 265 5 575 576 577 578 579 915 916
def o655 := t2 "_law_row" 39
def o653 := t6 "_law_name" 910 "_law_number" 911 "_law_row_here" 912 "_law_carry" 913 "_law_total" 914
def o650 := t0 "_law_span" 38 "law_oddbases_k46_machine_rows" 829 573
def o649 := t1 "_law_span" 897 "_law_span" 898 899 260 3 568 569 570 571 572 904 905
def o648 := t2 "_law_span" 38
def o646 := t7 "_law_name" 900 "_law_number" 901 "_law_cell" 902 "_law_most" 903
def o643 := t0 "_law_chosen" 37 "law_oddbases_k46_machine_rows" 829 566
def o642 := t1 "_law_chosen" 888 "_law_chosen" 889 890 252 1 561 562 563 564 565 894 895
def o641 := t2 "_law_chosen" 37
def o639 := t8 "_law_cell" 891 "_law_name" 892 "_law_part" 893
def o636 := t0 "_law_way" 36 "law_oddbases_k46_machine_rows" 829 559
def o635 := t1 "_law_way" 880 "_law_way" 881 882 244 2 554 555 556 557 558 885 886
def o634 := t2 "_law_way" 36
def o632 := t9 "_law_name" 883 "_law_number" 884
def o629 := t0 "_law_is_number" 35 "law_oddbases_k46_machine_rows" 829 552
def o628 := t1 "_law_is_number" 872 "_law_is_number" 873 874 238 2 547 548 549 550 551 877 878
def o627 := t2 "_law_is_number" 35
def o625 := t9 "_law_name" 875 "_law_thing" 876
def o622 := t0 "_law_nought" 34 "law_oddbases_k46_machine_rows" 829 545
def o621 := t1 "_law_nought" 865 "_law_nought" 866 867 234 1 540 541 542 543 544 869 870
def o620 := t2 "_law_nought" 34
def o618 := t10 "_law_name" 868
def o615 := t0 "_law_is_figure" 33 "law_oddbases_k46_machine_rows" 829 538
def o614 := t1 "_law_is_figure" 856 "_law_is_figure" 857 858 226 3 533 534 535 536 537 862 863
def o613 := t2 "_law_is_figure" 33
def o611 := t8 "_law_name" 859 "_law_number" 860 "_law_figure" 861
def o608 := t0 "_law_times" 32 "law_oddbases_k46_machine_rows" 829 531
def o607 := t1 "_law_times" 847 "_law_times" 848 849 218 3 526 527 528 529 530 853 854
def o606 := t2 "_law_times" 32
def o604 := t8 "_law_name" 850 "_law_number" 851 "_law_carry" 852
def o599 := t0 "_law_added" 31 "law_oddbases_k46_machine_rows" 829 524
def o598 := t1 "_law_added" 839 "_law_added" 840 841 214 2 519 520 521 522 523 844 845
def o597 := t2 "_law_added" 31
def o595 := t9 "_law_one" 842 "_law_other" 843
def o592 := t0 "_law_cell_at" 30 "law_oddbases_k46_machine_rows" 829 517
def o591 := t1 "_law_cell_at" 831 "_law_cell_at" 832 833 210 2 512 513 514 515 516 836 837
def o590 := t2 "_law_cell_at" 30
def o588 := t9 "_law_script" 834 "_law_k" 835
def o585 := t11 507
def o584 := t12 507
def o583 := t13 824 507
def o582 := t14 822 507
def o581 (x : Params) : Obj := (@Obj.mk (.type "type") none (@Data.cls (@ClassData.mk (.ofString "Machine") [(.type "object")] [(r_ 507), (.type "object")] 506 (.ofString "Machine") @Bool.true [] [] @Bool.false (@Option.none @Bool) @Bool.false)) (@List.toArray (@Option @Value) [none, none, (some (p_ "Machine" 769)), (some (p_ "Machine" 777)), (some (.builtin "object.__new__")), (some (.bool @Bool.true))]))
def o580 := t15 776 "oddbases.machines" 718 780 183 779 791 483 "carries" 798 490 "rows" 805 497 "read" 817 504 "__static_attributes__" 821 505 "__dict__" 823 508 "__weakref__" 825 509 826 4
def o579 := t8 "found" 818 "leads" 819 "made" 820
def o578 := t16 "read" "Machine.read" 28 3 "oddbases.machines" 718 503
def o577 := t1 "read" 806 "Machine.read" 807 808 199 2 498 499 500 501 502 815 816
def o576 := t17 "read" "Machine.read" 28 3
def o574 := t18 809 "totals" 810 "figures" 811 "carry" 812 "total" 813 "lead" 814
def o571 := t16 "rows" "Machine.rows" 28 2 "oddbases.machines" 718 496
def o570 := t1 "rows" 799 "Machine.rows" 800 801 196 1 491 492 493 494 495 803 804
def o569 := t17 "rows" "Machine.rows" 28 2
def o567 := t10 "self" 802
def o564 := t16 "carries" "Machine.carries" 28 1 "oddbases.machines" 718 489
def o563 := t1 "carries" 792 "Machine.carries" 793 794 193 1 484 485 486 487 488 796 797
def o562 := t17 "carries" "Machine.carries" 28 1
def o560 := t10 "self" 795
def o557 := t16 "__init__" "Machine.__init__" 28 0 "oddbases.machines" 718 482
def o556 := t1 "__init__" 781 "Machine.__init__" 782 783 185 4 477 478 479 480 481 789 790
def o555 := t17 "__init__" "Machine.__init__" 28 0
def o553 := t6 "self" 784 "way" 785 "low" 786 "high" 787 "made" 788
def o550 := t19 475 472 "oddbases.machines" 718
def o549 := t20 "Machine" 771 772 773 183 473 474 774 775
def o548 := t21 185 482 193 489 196 496 199 503
def o546 := t22 776 "oddbases.machines" 718 778 "Machine" 777 780 183 779 791 483 "carries" 798 490 "rows" 805 497 "read" 817 504 821 505
def o545 := t23
def o541 := t0 "leads_of" 27 "oddbases.machines" 718 468
def o540 := t1 "leads_of" 760 "leads_of" 761 762 178 1 463 464 465 466 467 766 767
def o539 := t2 "leads_of" 27
def o537 := t8 "rows" 763 "leads" 764 "row" 765
def o534 := t0 "carries_and_rows" 26 "oddbases.machines" 718 461
def o533 := t1 "carries_and_rows" 744 "carries_and_rows" 745 746 163 3 456 457 458 459 460 757 758
def o532 := t2 "carries_and_rows" 26
def o530 := t5 "way" 747 "low" 748 "high" 749 "carries" 750 "known" 751 "rows" 752 "at" 753 "carry" 754 "total" 755 "parts" 756
def o527 := t0 "held_to_be_a_span" 25 "oddbases.machines" 718 454
def o526 := t1 "held_to_be_a_span" 734 "held_to_be_a_span" 735 736 159 3 449 450 451 452 453 741 742
def o525 := t2 "held_to_be_a_span" 25
def o523 := t7 "way" 737 "low" 738 "high" 739 "farthest" 740
def o520 := t0 "held_to_have_one_ratio" 24 "oddbases.machines" 718 447
def o519 := t1 "held_to_have_one_ratio" 727 "held_to_have_one_ratio" 728 729 156 1 442 443 444 445 446 731 732
def o518 := t2 "held_to_have_one_ratio" 24
def o516 := t10 "way" 730
def o513 := t0 "farthest_total" 23 "oddbases.machines" 718 440
def o512 := t1 "farthest_total" 720 "farthest_total" 721 722 152 1 435 436 437 438 439 724 725
def o511 := t2 "farthest_total" 23
def o509 := t10 "way" 723
def o504 := t11 432
def o503 := t12 432
def o502 := t24 "Pairs" 432 431 381 649 657
def o501 := t15 656 "oddbases.ways" 321 660 128 659 668 394 "nought" 675 401 "high" 683 408 "ratio" 691 415 "split" 704 422 "has" 712 429 "__static_attributes__" 714 430 715 2
def o500 := t10 "most" 713
def o499 := t16 "has" "Pairs.has" 21 5 "oddbases.ways" 321 428
def o498 := t1 "has" 705 "Pairs.has" 706 707 149 2 423 424 425 426 427 710 711
def o497 := t17 "has" "Pairs.has" 21 5
def o495 := t9 "self" 708 "number" 709
def o492 := t16 "split" "Pairs.split" 21 4 "oddbases.ways" 321 421
def o491 := t1 "split" 692 "Pairs.split" 693 694 142 3 416 417 418 419 420 702 703
def o490 := t17 "split" "Pairs.split" 21 4
def o488 (x : Params) : Obj := (@Obj.mk (.type "tuple") none (@Data.seq (List.toArray [(p_ "self" 695), (p_ "total" 696), (p_ "place" 697), (p_ "pair" 698), (p_ "figures" 699), (p_ "figure" 700), (p_ "turned" 701)]) 0) #[])
def o485 := t16 "ratio" "Pairs.ratio" 21 3 "oddbases.ways" 321 414
def o484 := t1 "ratio" 684 "Pairs.ratio" 685 686 139 2 409 410 411 412 413 689 690
def o483 := t17 "ratio" "Pairs.ratio" 21 3
def o481 := t9 "self" 687 "place" 688
def o478 := t16 "high" "Pairs.high" 21 2 "oddbases.ways" 321 407
def o477 := t1 "high" 676 "Pairs.high" 677 678 136 2 402 403 404 405 406 681 682
def o476 := t17 "high" "Pairs.high" 21 2
def o474 := t9 "self" 679 "place" 680
def o471 := t16 "nought" "Pairs.nought" 21 1 "oddbases.ways" 321 400
def o470 := t1 "nought" 669 "Pairs.nought" 670 671 133 1 395 396 397 398 399 673 674
def o469 := t17 "nought" "Pairs.nought" 21 1
def o467 := t10 "self" 672
def o464 := t16 "__init__" "Pairs.__init__" 21 0 "oddbases.ways" 321 393
def o463 := t1 "__init__" 661 "Pairs.__init__" 662 663 130 2 388 389 390 391 392 666 667
def o462 := t17 "__init__" "Pairs.__init__" 21 0
def o460 := t9 "self" 664 "most" 665
def o457 := t19 386 383 "oddbases.ways" 321
def o456 := t20 "Pairs" 651 652 653 128 384 385 654 655
def o455 := t25 130 393 133 400 136 407 139 414 142 421 149 428
def o453 := t26 656 658 "Pairs" 657 660 128 659 "__init__" 668 394 "nought" 675 401 "high" 683 408 "ratio" 691 415 704 422 712 429 714 430
def o451 := t27 176
def o447 := t11 378
def o446 := t12 378
def o445 := t24 "Falling" 378 377 334 591 599
def o444 := t28 598 602 112 601 610 347 "high" 618 354 "weights" 626 361 634 368 "split" 643 375 645 376 646
def o443 := t10 "most" 644
def o442 := t16 "split" "Falling.split" 20 4 "oddbases.ways" 321 374
def o441 := t1 "split" 635 "Falling.split" 636 637 126 3 369 370 371 372 373 641 642
def o440 := t17 "split" "Falling.split" 20 4
def o438 := t8 "self" 638 "total" 639 "place" 640
def o435 := t16 "ratio" "Falling.ratio" 20 3 "oddbases.ways" 321 367
def o434 := t1 "ratio" 627 "Falling.ratio" 628 629 123 2 362 363 364 365 366 632 633
def o433 := t17 "ratio" "Falling.ratio" 20 3
def o431 := t9 "self" 630 "place" 631
def o428 := t16 "weights" "Falling.weights" 20 2 "oddbases.ways" 321 360
def o427 := t1 "weights" 619 "Falling.weights" 620 621 120 2 355 356 357 358 359 624 625
def o426 := t17 "weights" "Falling.weights" 20 2
def o424 := t9 "self" 622 "many" 623
def o421 := t16 "high" "Falling.high" 20 1 "oddbases.ways" 321 353
def o420 := t1 "high" 611 "Falling.high" 612 613 117 2 348 349 350 351 352 616 617
def o419 := t17 "high" "Falling.high" 20 1
def o417 := t9 "self" 614 "place" 615
def o414 := t16 "__init__" "Falling.__init__" 20 0 "oddbases.ways" 321 346
def o413 := t1 "__init__" 603 "Falling.__init__" 604 605 114 2 341 342 343 344 345 608 609
def o412 := t17 "__init__" "Falling.__init__" 20 0
def o410 := t9 "self" 606 "most" 607
def o407 := t19 339 336 "oddbases.ways" 321
def o406 := t20 "Falling" 593 594 595 112 337 338 596 597
def o405 := t29 114 346 117 353 120 360 123 367 126 374
def o403 := t30 598 600 "Falling" 599 602 112 601 610 347 "high" 618 354 "weights" 626 361 634 368 "split" 643 375 645 376
def o397 := t11 331
def o396 := t12 331
def o395 := t24 "Growing" 331 330 301 550 558
def o394 := t31 557 561 102 560 569 314 577 321 585 328 587 329 588
def o393 := t10 "first" 586
def o392 := t16 "ratio" "Growing.ratio" 19 2 "oddbases.ways" 321 327
def o391 := t1 "ratio" 578 "Growing.ratio" 579 580 110 2 322 323 324 325 326 583 584
def o390 := t17 "ratio" "Growing.ratio" 19 2
def o388 := t9 "self" 581 "place" 582
def o385 := t16 "high" "Growing.high" 19 1 "oddbases.ways" 321 320
def o384 := t1 "high" 570 "Growing.high" 571 572 107 2 315 316 317 318 319 575 576
def o383 := t17 "high" "Growing.high" 19 1
def o381 := t9 "self" 573 "place" 574
def o378 := t16 "__init__" "Growing.__init__" 19 0 "oddbases.ways" 321 313
def o377 := t1 "__init__" 562 "Growing.__init__" 563 564 104 2 308 309 310 311 312 567 568
def o376 := t17 "__init__" "Growing.__init__" 19 0
def o374 := t9 "self" 565 "first" 566
def o371 := t19 306 303 "oddbases.ways" 321
def o370 := t20 "Growing" 552 553 554 102 304 305 555 556
def o369 := t32 104 313 107 320 110 327
def o367 := t33 557 559 "Growing" 558 561 102 560 569 314 577 321 585 328 587 329
def o361 := t11 298
def o360 := t12 298
def o359 := t24 "Balanced" 298 297 254 493 501
def o358 := t28 500 504 86 503 512 267 "low" 520 274 "high" 528 281 536 288 "has" 544 295 546 296 547
def o357 := t10 "half" 545
def o356 := t16 "has" "Balanced.has" 18 4 "oddbases.ways" 321 294
def o355 := t1 "has" 537 "Balanced.has" 538 539 100 2 289 290 291 292 293 542 543
def o354 := t17 "has" "Balanced.has" 18 4
def o352 := t9 "self" 540 "number" 541
def o349 := t16 "ratio" "Balanced.ratio" 18 3 "oddbases.ways" 321 287
def o348 := t1 "ratio" 529 "Balanced.ratio" 530 531 97 2 282 283 284 285 286 534 535
def o347 := t17 "ratio" "Balanced.ratio" 18 3
def o345 := t9 "self" 532 "place" 533
def o342 := t16 "high" "Balanced.high" 18 2 "oddbases.ways" 321 280
def o341 := t1 "high" 521 "Balanced.high" 522 523 94 2 275 276 277 278 279 526 527
def o340 := t17 "high" "Balanced.high" 18 2
def o338 := t9 "self" 524 "place" 525
def o335 := t16 "low" "Balanced.low" 18 1 "oddbases.ways" 321 273
def o334 := t1 "low" 513 "Balanced.low" 514 515 91 2 268 269 270 271 272 518 519
def o333 := t17 "low" "Balanced.low" 18 1
def o331 := t9 "self" 516 "place" 517
def o328 := t16 "__init__" "Balanced.__init__" 18 0 "oddbases.ways" 321 266
def o327 := t1 "__init__" 505 "Balanced.__init__" 506 507 88 2 261 262 263 264 265 510 511
def o326 := t17 "__init__" "Balanced.__init__" 18 0
def o324 := t9 "self" 508 "half" 509
def o321 := t19 259 256 "oddbases.ways" 321
def o320 := t20 "Balanced" 495 496 497 86 257 258 498 499
def o319 := t29 88 266 91 273 94 280 97 287 100 294
def o317 := t30 500 502 "Balanced" 501 504 86 503 512 267 "low" 520 274 "high" 528 281 536 288 "has" 544 295 546 296
def o311 := t11 251
def o310 := t12 251
def o309 := t24 "Below" 251 250 214 444 452
def o308 (x : Params) : Obj := (@Obj.mk (.type "dict") none (@Data.dict (List.toArray [(e_ x "__module__" 451 (p_ "oddbases.ways" 321)), (e_ x "__firstlineno__" 455 (j_ 73 454)), (e_ x "__init__" 463 (r_ 227)), (e_ x "high" 471 (r_ 234)), (e_ x "ratio" 479 (r_ 241)), (e_ x "has" 487 (r_ 248)), (e_ x "__static_attributes__" 489 (r_ 249)), (e_ x "__doc__" 490 .none)]) 2) #[])
def o307 := t10 "base" 488
def o306 := t16 "has" "Below.has" 17 3 "oddbases.ways" 321 247
def o305 := t1 "has" 480 "Below.has" 481 482 84 2 242 243 244 245 246 485 486
def o304 := t17 "has" "Below.has" 17 3
def o302 := t9 "self" 483 "number" 484
def o299 := t16 "ratio" "Below.ratio" 17 2 "oddbases.ways" 321 240
def o298 := t1 "ratio" 472 "Below.ratio" 473 474 81 2 235 236 237 238 239 477 478
def o297 := t17 "ratio" "Below.ratio" 17 2
def o295 := t9 "self" 475 "place" 476
def o292 := t16 "high" "Below.high" 17 1 "oddbases.ways" 321 233
def o291 := t1 "high" 464 "Below.high" 465 466 78 2 228 229 230 231 232 469 470
def o290 := t17 "high" "Below.high" 17 1
def o288 := t9 "self" 467 "place" 468
def o285 := t16 "__init__" "Below.__init__" 17 0 "oddbases.ways" 321 226
def o284 := t1 "__init__" 456 "Below.__init__" 457 458 75 2 221 222 223 224 225 461 462
def o283 := t17 "__init__" "Below.__init__" 17 0
def o281 := t9 "self" 459 "base" 460
def o278 := t19 219 216 "oddbases.ways" 321
def o277 := t20 "Below" 446 447 448 73 217 218 449 450
def o276 := t21 75 226 78 233 81 240 84 247
def o274 := t22 451 "oddbases.ways" 321 453 "Below" 452 455 73 454 463 227 "high" 471 234 "ratio" 479 241 "has" 487 248 489 249
def o268 := t11 211
def o267 := t12 211
def o266 := t24 "Plain" 211 210 181 403 411
def o265 := t31 410 414 63 413 422 194 430 201 438 208 440 209 441
def o264 := t10 "base" 439
def o263 := t16 "ratio" "Plain.ratio" 16 2 "oddbases.ways" 321 207
def o262 := t1 "ratio" 431 "Plain.ratio" 432 433 71 2 202 203 204 205 206 436 437
def o261 := t17 "ratio" "Plain.ratio" 16 2
def o259 := t9 "self" 434 "place" 435
def o256 := t16 "high" "Plain.high" 16 1 "oddbases.ways" 321 200
def o255 := t1 "high" 423 "Plain.high" 424 425 68 2 195 196 197 198 199 428 429
def o254 := t17 "high" "Plain.high" 16 1
def o252 := t9 "self" 426 "place" 427
def o249 := t16 "__init__" "Plain.__init__" 16 0 "oddbases.ways" 321 193
def o248 := t1 "__init__" 415 "Plain.__init__" 416 417 65 2 188 189 190 191 192 420 421
def o247 := t17 "__init__" "Plain.__init__" 16 0
def o245 := t9 "self" 418 "base" 419
def o242 := t19 186 183 "oddbases.ways" 321
def o241 := t20 "Plain" 405 406 407 63 184 185 408 409
def o240 := t32 65 193 68 200 71 207
def o238 := t33 410 412 "Plain" 411 414 63 413 422 194 430 201 438 208 440 209
def o232 := t11 176
def o231 := t12 176
def o230 := t13 398 176
def o229 := t14 396 176
def o450 (x : Params) : Obj := (@Obj.mk (.type "type") none (@Data.cls (@ClassData.mk (.ofString "Way") [(.type "object")] [(r_ 176), (.type "object")] 175 (.ofString "Way") @Bool.true [] [(r_ 211), (r_ 251), (r_ 298), (r_ 331), (r_ 378), (r_ 432)] @Bool.false (@Option.none @Bool) @Bool.false)) (@List.toArray (@Option @Value) [none, none, (some (p_ "Way" 332)), (some (p_ "Way" 340)), (some (.builtin "object.__new__")), (some (.bool @Bool.true))]))
def o227 (x : Params) : Obj := (@Obj.mk (.type "dict") none (@Data.dict (List.toArray [(e_ x "__module__" 339 (p_ "oddbases.ways" 321)), (e_ x "__firstlineno__" 343 (j_ 41 342)), (e_ x "nought" 350 (r_ 138)), (e_ x "low" 358 (r_ 145)), (e_ x "weights" 366 (r_ 152)), (e_ x "weight" 374 (r_ 159)), (e_ x "split" 386 (r_ 166)), (e_ x "has" 394 (r_ 173)), (e_ x "__static_attributes__" 395 (r_ 174)), (e_ x "__dict__" 397 (r_ 177)), (e_ x "__weakref__" 399 (r_ 178)), (e_ x "__doc__" 400 .none)]) 4) #[])
def o225 := t16 "has" "Way.has" 15 5 "oddbases.ways" 321 172
def o224 := t1 "has" 387 "Way.has" 388 389 61 2 167 168 169 170 171 392 393
def o223 := t17 "has" "Way.has" 15 5
def o221 := t9 "self" 390 "number" 391
def o218 := t16 "split" "Way.split" 15 4 "oddbases.ways" 321 165
def o217 := t1 "split" 375 "Way.split" 376 377 55 3 160 161 162 163 164 384 385
def o216 := t17 "split" "Way.split" 15 4
def o214 := t18 378 "total" 379 "place" 380 "low" 381 "figures" 382 "figure" 383
def o211 := t16 "weight" "Way.weight" 15 3 "oddbases.ways" 321 158
def o210 := t1 "weight" 367 "Way.weight" 368 369 52 2 153 154 155 156 157 372 373
def o209 := t17 "weight" "Way.weight" 15 3
def o207 := t9 "self" 370 "place" 371
def o204 := t16 "weights" "Way.weights" 15 2 "oddbases.ways" 321 151
def o203 := t1 "weights" 359 "Way.weights" 360 361 49 2 146 147 148 149 150 364 365
def o202 := t17 "weights" "Way.weights" 15 2
def o200 := t9 "self" 362 "many" 363
def o197 := t16 "low" "Way.low" 15 1 "oddbases.ways" 321 144
def o196 := t1 "low" 351 "Way.low" 352 353 46 2 139 140 141 142 143 356 357
def o195 := t17 "low" "Way.low" 15 1
def o193 := t9 "self" 354 "place" 355
def o190 := t16 "nought" "Way.nought" 15 0 "oddbases.ways" 321 137
def o189 := t1 "nought" 344 "Way.nought" 345 346 43 1 132 133 134 135 136 348 349
def o188 := t17 "nought" "Way.nought" 15 0
def o186 := t10 "self" 347
def o183 := t19 130 127 "oddbases.ways" 321
def o182 := t20 "Way" 334 335 336 41 128 129 337 338
def o181 := t25 43 137 46 144 49 151 52 158 55 165 61 172
def o179 := t26 339 341 "Way" 340 343 41 342 "nought" 350 138 "low" 358 145 "weights" 366 152 "weight" 374 159 386 166 394 173 395 174
def o174 := t0 "bounded" 14 "oddbases.ways" 321 123
def o173 := t1 "bounded" 323 "bounded" 324 325 37 3 118 119 120 121 122 329 330
def o172 := t2 "bounded" 14
def o170 := t8 "number" 326 "least" 327 "most" 328
def o165 := t0 "multiplied" 12 "oddbases.pairs" 278 116
def o164 := t1 "multiplied" 311 "multiplied" 312 313 30 2 111 112 113 114 115 318 319
def o163 := t2 "multiplied" 12
def o161 := t7 "one" 314 "other" 315 "left" 316 "right" 317
def o158 := t0 "added" 11 "oddbases.pairs" 278 109
def o157 := t1 "added" 301 "added" 302 303 24 2 104 105 106 107 108 308 309
def o156 := t2 "added" 11
def o154 := t7 "one" 304 "other" 305 "left" 306 "right" 307
def o151 := t0 "as_pair" 10 "oddbases.pairs" 278 102
def o150 := t1 "as_pair" 294 "as_pair" 295 296 20 1 97 98 99 100 101 298 299
def o149 := t2 "as_pair" 10
def o147 := t10 "number" 297
def o144 := t0 "is_pair" 9 "oddbases.pairs" 278 95
def o143 := t1 "is_pair" 287 "is_pair" 288 289 18 1 90 91 92 93 94 291 292
def o142 := t2 "is_pair" 9
def o140 := t10 "value" 290
def o137 := t0 "is_whole" 8 "oddbases.pairs" 278 88
def o136 := t1 "is_whole" 280 "is_whole" 281 282 16 1 83 84 85 86 87 284 285
def o135 := t2 "is_whole" 8
def o133 := t10 "value" 283
def o130 := t11 80
def o129 := t12 80
def o128 := t34 "NoTotal" 80 79 71 262 270
def o127 := t35 269 273 13 272 274 78 275
def o125 := t19 76 73 "oddbases.errors" 194
def o124 := t20 "NoTotal" 264 265 266 13 74 75 267 268
def o121 := t36 269 271 "NoTotal" 270 273 13 272 274 78
def o119 := t27 31
def o115 := t11 68
def o114 := t12 68
def o113 := t34 "NoSpan" 68 67 59 246 254
def o112 := t35 253 257 11 256 258 66 259
def o110 := t19 64 61 "oddbases.errors" 194
def o109 := t20 "NoSpan" 248 249 250 11 62 63 251 252
def o106 := t36 253 255 "NoSpan" 254 257 11 256 258 66
def o100 := t11 56
def o99 := t12 56
def o98 := t34 "NoRatio" 56 55 47 230 238
def o97 := t35 237 241 9 240 242 54 243
def o95 := t19 52 49 "oddbases.errors" 194
def o94 := t20 "NoRatio" 232 233 234 9 50 51 235 236
def o91 := t36 237 239 "NoRatio" 238 241 9 240 242 54
def o85 := t11 44
def o84 := t12 44
def o83 := t34 "NoWay" 44 43 35 214 222
def o82 := t35 221 225 7 224 226 42 227
def o80 := t19 40 37 "oddbases.errors" 194
def o79 := t20 "NoWay" 216 217 218 7 38 39 219 220
def o76 := t36 221 223 "NoWay" 222 225 7 224 226 42
def o70 := t11 31
def o69 := t12 31
def o68 := t13 209 31
def o118 (x : Params) : Obj := (@Obj.mk (.type "type") none (@Data.cls (@ClassData.mk (.ofString "OddError") [(.type "ValueError")] [(r_ 31), (.type "ValueError"), (.type "Exception"), (.type "BaseException"), (.type "object")] 30 (.ofString "OddError") @Bool.true [] [(r_ 44), (r_ 56), (r_ 68), (r_ 80)] @Bool.false (@Option.none @Bool) @Bool.false)) (@List.toArray (@Option @Value) [(some (r_ 22)), none, (some (p_ "OddError" 196)), (some (p_ "OddError" 204)), (some (.builtin "ValueError.__new__")), (some (.bool @Bool.true))]))
def o66 (x : Params) : Obj := (@Obj.mk (.type "dict") none (@Data.dict (List.toArray [(e_ x "__module__" 203 (p_ "oddbases.errors" 194)), (e_ x "__firstlineno__" 207 (j_ 5 206)), (e_ x "__static_attributes__" 208 (r_ 29)), (e_ x "__weakref__" 210 (r_ 32)), (e_ x "__doc__" 211 .none)]) 3) #[])
def o64 := t19 27 24 "oddbases.errors" 194
def o63 := t20 "OddError" 198 199 200 5 25 26 201 202
def o60 := t36 203 205 "OddError" 204 207 5 206 208 29
def o58 (x : Params) : Obj := (@Obj.mk (.type "tuple") none (@Data.seq (List.toArray [(.type "ValueError")]) 0) #[])
def o57 := t0 "_wall" 0 "__main__" 164 20
def o56 := t1 "_wall" 187 "_wall" 188 189 1 1 15 16 17 18 19 191 192
def o55 := t2 "_wall" 0
def o53 := t10 "k" 190
def o46 := t19 13 3 "__main__" 164
def o45 := t20 "<module>" 182 183 184 1 11 12 185 186
def o601 (x : Params) : Obj := (@Obj.mk .none none (@Data.fields (List.toArray ((j_ 1 0) :: (j_ 0 0) :: (r_ 20) :: (j_ 5 0) :: (j_ 0 0) :: (r_ 27) :: (j_ 7 0) :: (j_ 0 0) :: (r_ 40) :: (j_ 9 0) :: (j_ 0 0) :: (r_ 52) :: (j_ 11 0) :: (j_ 0 0) :: (r_ 64) :: (j_ 13 0) :: (j_ 0 0) :: (r_ 76) :: (j_ 16 0) :: (j_ 0 0) :: (r_ 88) :: (j_ 18 0) :: (j_ 0 0) :: (r_ 95) :: (j_ 20 0) :: (j_ 0 0) :: (r_ 102) :: (j_ 24 0) :: (j_ 0 0) :: (r_ 109) :: (j_ 30 0) :: (j_ 0 0) :: (r_ 116) :: (j_ 37 0) :: (j_ 0 0) :: (r_ 123) :: (j_ 41 0) :: (j_ 0 0) :: (r_ 130) :: (j_ 63 0) :: (j_ 0 0) :: (r_ 186) :: (j_ 73 0) :: (j_ 0 0) :: (r_ 219) :: (j_ 86 0) :: (j_ 0 0) :: (r_ 259) :: (j_ 102 0) :: (j_ 0 0) :: (r_ 306) :: (j_ 112 0) :: (j_ 0 0) :: (r_ 339) :: (j_ 128 0) :: (j_ 0 0) :: (r_ 386) :: (j_ 152 0) :: (j_ 0 0) :: (r_ 440) :: (j_ 156 0) :: (j_ 0 0) :: (r_ 447) :: (j_ 159 0) :: (j_ 0 0) :: (r_ 454) :: (j_ 163 0) :: (j_ 0 0) :: (r_ 461) :: (j_ 178 0) :: (j_ 0 0) :: (r_ 468) :: (j_ 183 0) :: (j_ 0 0) :: (r_ 475) :: (j_ 210 0) :: (j_ 0 0) :: (r_ 517) :: (j_ 214 0) :: (j_ 0 0) :: (r_ 524) :: (j_ 218 0) :: (j_ 0 0) :: (r_ 531) :: (j_ 226 0) :: (j_ 0 0) :: (r_ 538) :: (j_ 234 0) :: (j_ 0 0) :: (r_ 545) :: (j_ 238 0) :: (j_ 0 0) :: (r_ 552) :: (j_ 244 0) :: (j_ 0 0) :: (r_ 559) :: (j_ 252 0) :: (j_ 0 0) :: (r_ 566) :: (j_ 260 0) :: (j_ 0 0) :: (r_ 573) :: (j_ 265 0) :: (j_ 0 0) :: (r_ 580) :: (j_ 273 0) :: (j_ 0 0) :: (r_ 587) :: (j_ 281 0) :: (j_ 0 0) :: (r_ 594) :: (j_ 293 0) :: (j_ 0 0) :: (r_ 601) :: []))) #[])
def o600 (x : Params) : Obj := (@Obj.mk (.type "dict") none (@Data.dict (List.toArray [(e_ x "__name__" 165 (p_ "law_oddbases_k46_machine_rows" 829)), (e_ x "__doc__" 166 .none), (e_ x "__package__" 167 .none), (U0 x), (e_ x "__spec__" 169 .none), (U2 x), (e_ x "__builtins__" 171 (r_ 4)), (U1 x), (e_ x "__cached__" 174 .none), (e_ x "_wall" 193 (r_ 21)), (e_ x "OddError" 213 (r_ 31)), (e_ x "NoWay" 229 (r_ 44)), (e_ x "NoRatio" 245 (r_ 56)), (e_ x "NoSpan" 261 (r_ 68)), (e_ x "NoTotal" 277 (r_ 80)), (e_ x "is_whole" 286 (r_ 89)), (e_ x "is_pair" 293 (r_ 96)), (e_ x "as_pair" 300 (r_ 103)), (e_ x "added" 310 (r_ 110)), (e_ x "multiplied" 320 (r_ 117)), (e_ x "bounded" 331 (r_ 124)), (e_ x "Way" 402 (r_ 176)), (e_ x "Plain" 443 (r_ 211)), (e_ x "Below" 492 (r_ 251)), (e_ x "Balanced" 549 (r_ 298)), (e_ x "Growing" 590 (r_ 331)), (e_ x "Falling" 648 (r_ 378)), (e_ x "Pairs" 717 (r_ 432)), (e_ x "farthest_total" 726 (r_ 441)), (e_ x "held_to_have_one_ratio" 733 (r_ 448)), (e_ x "held_to_be_a_span" 743 (r_ 455)), (e_ x "carries_and_rows" 759 (r_ 462)), (e_ x "leads_of" 768 (r_ 469)), (e_ x "Machine" 828 (r_ 507)), (e_ x "_law_cell_at" 838 (r_ 518)), (e_ x "_law_added" 846 (r_ 525)), (e_ x "_law_times" 855 (r_ 532)), (e_ x "_law_is_figure" 864 (r_ 539)), (e_ x "_law_nought" 871 (r_ 546)), (e_ x "_law_is_number" 879 (r_ 553)), (e_ x "_law_way" 887 (r_ 560)), (e_ x "_law_chosen" 896 (r_ 567)), (e_ x "_law_span" 906 (r_ 574)), (e_ x "_law_row" 917 (r_ 581)), (e_ x "_law_found" 928 (r_ 588)), (e_ x "_law_walked" 944 (r_ 595)), (e_ x "law" 958 (r_ 602))]) 47) #[])
def o506 (x : Params) : Obj := (@Obj.mk .none none (@Data.fields (List.toArray ((j_ 1 0) :: (j_ 0 0) :: (r_ 20) :: (j_ 5 0) :: (j_ 0 0) :: (r_ 27) :: (j_ 7 0) :: (j_ 0 0) :: (r_ 40) :: (j_ 9 0) :: (j_ 0 0) :: (r_ 52) :: (j_ 11 0) :: (j_ 0 0) :: (r_ 64) :: (j_ 13 0) :: (j_ 0 0) :: (r_ 76) :: (j_ 16 0) :: (j_ 0 0) :: (r_ 88) :: (j_ 18 0) :: (j_ 0 0) :: (r_ 95) :: (j_ 20 0) :: (j_ 0 0) :: (r_ 102) :: (j_ 24 0) :: (j_ 0 0) :: (r_ 109) :: (j_ 30 0) :: (j_ 0 0) :: (r_ 116) :: (j_ 37 0) :: (j_ 0 0) :: (r_ 123) :: (j_ 41 0) :: (j_ 0 0) :: (r_ 130) :: (j_ 63 0) :: (j_ 0 0) :: (r_ 186) :: (j_ 73 0) :: (j_ 0 0) :: (r_ 219) :: (j_ 86 0) :: (j_ 0 0) :: (r_ 259) :: (j_ 102 0) :: (j_ 0 0) :: (r_ 306) :: (j_ 112 0) :: (j_ 0 0) :: (r_ 339) :: (j_ 128 0) :: (j_ 0 0) :: (r_ 386) :: (j_ 152 0) :: (j_ 0 0) :: (r_ 440) :: (j_ 156 0) :: (j_ 0 0) :: (r_ 447) :: (j_ 159 0) :: (j_ 0 0) :: (r_ 454) :: (j_ 163 0) :: (j_ 0 0) :: (r_ 461) :: (j_ 178 0) :: (j_ 0 0) :: (r_ 468) :: []))) #[])
def o505 (x : Params) : Obj := (@Obj.mk (.type "dict") none (@Data.dict (List.toArray [(e_ x "__name__" 165 (p_ "oddbases.machines" 718)), (e_ x "__doc__" 166 .none), (e_ x "__package__" 167 .none), (U0 x), (e_ x "__spec__" 169 .none), (U2 x), (e_ x "__builtins__" 171 (r_ 4)), (U1 x), (e_ x "__cached__" 174 .none), (e_ x "_wall" 193 (r_ 21)), (e_ x "OddError" 213 (r_ 31)), (e_ x "NoWay" 229 (r_ 44)), (e_ x "NoRatio" 245 (r_ 56)), (e_ x "NoSpan" 261 (r_ 68)), (e_ x "NoTotal" 277 (r_ 80)), (e_ x "is_whole" 286 (r_ 89)), (e_ x "is_pair" 293 (r_ 96)), (e_ x "as_pair" 300 (r_ 103)), (e_ x "added" 310 (r_ 110)), (e_ x "multiplied" 320 (r_ 117)), (e_ x "bounded" 331 (r_ 124)), (e_ x "Way" 402 (r_ 176)), (e_ x "Plain" 443 (r_ 211)), (e_ x "Below" 492 (r_ 251)), (e_ x "Balanced" 549 (r_ 298)), (e_ x "Growing" 590 (r_ 331)), (e_ x "Falling" 648 (r_ 378)), (e_ x "Pairs" 717 (r_ 432)), (e_ x "farthest_total" 726 (r_ 441)), (e_ x "held_to_have_one_ratio" 733 (r_ 448)), (e_ x "held_to_be_a_span" 743 (r_ 455)), (e_ x "carries_and_rows" 759 (r_ 462)), (e_ x "leads_of" 768 (r_ 469))]) 33) #[])
def o234 (x : Params) : Obj := (@Obj.mk .none none (@Data.fields (List.toArray [(j_ 1 0), (j_ 0 0), (r_ 20), (j_ 5 0), (j_ 0 0), (r_ 27), (j_ 7 0), (j_ 0 0), (r_ 40), (j_ 9 0), (j_ 0 0), (r_ 52), (j_ 11 0), (j_ 0 0), (r_ 64), (j_ 13 0), (j_ 0 0), (r_ 76), (j_ 16 0), (j_ 0 0), (r_ 88), (j_ 18 0), (j_ 0 0), (r_ 95), (j_ 20 0), (j_ 0 0), (r_ 102), (j_ 24 0), (j_ 0 0), (r_ 109), (j_ 30 0), (j_ 0 0), (r_ 116), (j_ 37 0), (j_ 0 0), (r_ 123), (j_ 41 0), (j_ 0 0), (r_ 130), (j_ 63 0), (j_ 0 0), (r_ 186)])) #[])
def o235 (x : Params) : Obj := (@Obj.mk (.type "type") none (@Data.cls (@ClassData.mk (.ofString "Way") [(.type "object")] [(r_ 176), (.type "object")] 175 (.ofString "Way") @Bool.true [] [(r_ 211)] @Bool.false (@Option.none @Bool) @Bool.false)) (@List.toArray (@Option @Value) [none, none, (some (p_ "Way" 332)), (some (p_ "Way" 340)), (some (.builtin "object.__new__")), (some (.bool @Bool.true))]))
def o233 (x : Params) : Obj := (@Obj.mk (.type "dict") none (@Data.dict (List.toArray [(e_ x "__name__" 165 (p_ "oddbases.ways" 321)), (e_ x "__doc__" 166 .none), (e_ x "__package__" 167 .none), (U0 x), (e_ x "__spec__" 169 .none), (U2 x), (e_ x "__builtins__" 171 (r_ 4)), (U1 x), (e_ x "__cached__" 174 .none), (e_ x "_wall" 193 (r_ 21)), (e_ x "OddError" 213 (r_ 31)), (e_ x "NoWay" 229 (r_ 44)), (e_ x "NoRatio" 245 (r_ 56)), (e_ x "NoSpan" 261 (r_ 68)), (e_ x "NoTotal" 277 (r_ 80)), (e_ x "is_whole" 286 (r_ 89)), (e_ x "is_pair" 293 (r_ 96)), (e_ x "as_pair" 300 (r_ 103)), (e_ x "added" 310 (r_ 110)), (e_ x "multiplied" 320 (r_ 117)), (e_ x "bounded" 331 (r_ 124)), (e_ x "Way" 402 (r_ 176)), (e_ x "Plain" 443 (r_ 211))]) 23) #[])
abbrev Y2 := N_ o675 (L_ o673) Z_
abbrev Y1 := N_ o673 (L_ o675) (L_ o673)
abbrev Y0 := N_ o675 (L_ o673) (L_ o675)
def myAs : List Nat := ((nat_lit 2) :: (nat_lit 3) :: (nat_lit 15) :: (nat_lit 17) :: (nat_lit 18) :: (nat_lit 20) :: (nat_lit 21) :: (nat_lit 22) :: (nat_lit 29) :: (nat_lit 30) :: (nat_lit 31) :: (nat_lit 32) :: (nat_lit 35) :: (nat_lit 42) :: (nat_lit 43) :: (nat_lit 44) :: (nat_lit 47) :: (nat_lit 54) :: (nat_lit 55) :: (nat_lit 56) :: (nat_lit 59) :: (nat_lit 66) :: (nat_lit 67) :: (nat_lit 68) :: (nat_lit 71) :: (nat_lit 78) :: (nat_lit 79) :: (nat_lit 80) :: (nat_lit 83) :: (nat_lit 85) :: (nat_lit 86) :: (nat_lit 88) :: (nat_lit 89) :: (nat_lit 90) :: (nat_lit 92) :: (nat_lit 93) :: (nat_lit 95) :: (nat_lit 96) :: (nat_lit 97) :: (nat_lit 99) :: (nat_lit 100) :: (nat_lit 102) :: (nat_lit 103) :: (nat_lit 104) :: (nat_lit 106) :: (nat_lit 107) :: (nat_lit 109) :: (nat_lit 110) :: (nat_lit 111) :: (nat_lit 113) :: (nat_lit 114) :: (nat_lit 116) :: (nat_lit 117) :: (nat_lit 118) :: (nat_lit 120) :: (nat_lit 121) :: (nat_lit 123) :: (nat_lit 124) :: (nat_lit 132) :: (nat_lit 134) :: (nat_lit 135) :: (nat_lit 137) :: (nat_lit 138) :: (nat_lit 139) :: (nat_lit 141) :: (nat_lit 142) :: (nat_lit 144) :: (nat_lit 145) :: (nat_lit 146) :: (nat_lit 148) :: (nat_lit 149) :: (nat_lit 151) :: (nat_lit 152) :: (nat_lit 153) :: (nat_lit 155) :: (nat_lit 156) :: (nat_lit 158) :: (nat_lit 159) :: (nat_lit 160) :: (nat_lit 162) :: (nat_lit 163) :: (nat_lit 165) :: (nat_lit 166) :: (nat_lit 167) :: (nat_lit 169) :: (nat_lit 170) :: (nat_lit 172) :: (nat_lit 173) :: (nat_lit 174) :: (nat_lit 175) :: (nat_lit 176) :: (nat_lit 177) :: (nat_lit 178) :: (nat_lit 181) :: (nat_lit 188) :: (nat_lit 190) :: (nat_lit 191) :: (nat_lit 193) :: (nat_lit 194) :: (nat_lit 195) :: (nat_lit 197) :: (nat_lit 198) :: (nat_lit 200) :: (nat_lit 201) :: (nat_lit 202) :: (nat_lit 204) :: (nat_lit 205) :: (nat_lit 207) :: (nat_lit 208) :: (nat_lit 209) :: (nat_lit 210) :: (nat_lit 211) :: (nat_lit 214) :: (nat_lit 221) :: (nat_lit 223) :: (nat_lit 224) :: (nat_lit 226) :: (nat_lit 227) :: (nat_lit 228) :: (nat_lit 230) :: (nat_lit 231) :: (nat_lit 233) :: (nat_lit 234) :: (nat_lit 235) :: (nat_lit 237) :: (nat_lit 238) :: (nat_lit 240) :: (nat_lit 241) :: (nat_lit 242) :: (nat_lit 244) :: (nat_lit 245) :: (nat_lit 247) :: (nat_lit 248) :: (nat_lit 249) :: (nat_lit 250) :: (nat_lit 251) :: (nat_lit 254) :: (nat_lit 261) :: (nat_lit 263) :: (nat_lit 264) :: (nat_lit 266) :: (nat_lit 267) :: (nat_lit 268) :: (nat_lit 270) :: (nat_lit 271) :: (nat_lit 273) :: (nat_lit 274) :: (nat_lit 275) :: (nat_lit 277) :: (nat_lit 278) :: (nat_lit 280) :: (nat_lit 281) :: (nat_lit 282) :: (nat_lit 284) :: (nat_lit 285) :: (nat_lit 287) :: (nat_lit 288) :: (nat_lit 289) :: (nat_lit 291) :: (nat_lit 292) :: (nat_lit 294) :: (nat_lit 295) :: (nat_lit 296) :: (nat_lit 297) :: (nat_lit 298) :: (nat_lit 301) :: (nat_lit 308) :: (nat_lit 310) :: (nat_lit 311) :: (nat_lit 313) :: (nat_lit 314) :: (nat_lit 315) :: (nat_lit 317) :: (nat_lit 318) :: (nat_lit 320) :: (nat_lit 321) :: (nat_lit 322) :: (nat_lit 324) :: (nat_lit 325) :: (nat_lit 327) :: (nat_lit 328) :: (nat_lit 329) :: (nat_lit 330) :: (nat_lit 331) :: (nat_lit 334) :: (nat_lit 341) :: (nat_lit 343) :: (nat_lit 344) :: (nat_lit 346) :: (nat_lit 347) :: (nat_lit 348) :: (nat_lit 350) :: (nat_lit 351) :: (nat_lit 353) :: (nat_lit 354) :: (nat_lit 355) :: (nat_lit 357) :: (nat_lit 358) :: (nat_lit 360) :: (nat_lit 361) :: (nat_lit 362) :: (nat_lit 364) :: (nat_lit 365) :: (nat_lit 367) :: (nat_lit 368) :: (nat_lit 369) :: (nat_lit 371) :: (nat_lit 372) :: (nat_lit 374) :: (nat_lit 375) :: (nat_lit 376) :: (nat_lit 377) :: (nat_lit 378) :: (nat_lit 381) :: (nat_lit 388) :: (nat_lit 390) :: (nat_lit 391) :: (nat_lit 393) :: (nat_lit 394) :: (nat_lit 395) :: (nat_lit 397) :: (nat_lit 398) :: (nat_lit 400) :: (nat_lit 401) :: (nat_lit 402) :: (nat_lit 404) :: (nat_lit 405) :: (nat_lit 407) :: (nat_lit 408) :: (nat_lit 409) :: (nat_lit 411) :: (nat_lit 412) :: (nat_lit 414) :: (nat_lit 415) :: (nat_lit 416) :: (nat_lit 418) :: (nat_lit 419) :: (nat_lit 421) :: (nat_lit 422) :: (nat_lit 423) :: (nat_lit 425) :: (nat_lit 426) :: (nat_lit 428) :: (nat_lit 429) :: (nat_lit 430) :: (nat_lit 431) :: (nat_lit 432) :: (nat_lit 435) :: (nat_lit 437) :: (nat_lit 438) :: (nat_lit 440) :: (nat_lit 441) :: (nat_lit 442) :: (nat_lit 444) :: (nat_lit 445) :: (nat_lit 447) :: (nat_lit 448) :: (nat_lit 449) :: (nat_lit 451) :: (nat_lit 452) :: (nat_lit 454) :: (nat_lit 455) :: (nat_lit 456) :: (nat_lit 458) :: (nat_lit 459) :: (nat_lit 461) :: (nat_lit 462) :: (nat_lit 463) :: (nat_lit 465) :: (nat_lit 466) :: (nat_lit 468) :: (nat_lit 469) :: (nat_lit 477) :: (nat_lit 479) :: (nat_lit 480) :: (nat_lit 482) :: (nat_lit 483) :: (nat_lit 484) :: (nat_lit 486) :: (nat_lit 487) :: (nat_lit 489) :: (nat_lit 490) :: (nat_lit 491) :: (nat_lit 493) :: (nat_lit 494) :: (nat_lit 496) :: (nat_lit 497) :: (nat_lit 498) :: (nat_lit 500) :: (nat_lit 501) :: (nat_lit 503) :: (nat_lit 504) :: (nat_lit 505) :: (nat_lit 506) :: (nat_lit 507) :: (nat_lit 508) :: (nat_lit 509) :: (nat_lit 512) :: (nat_lit 514) :: (nat_lit 515) :: (nat_lit 517) :: (nat_lit 518) :: (nat_lit 519) :: (nat_lit 521) :: (nat_lit 522) :: (nat_lit 524) :: (nat_lit 525) :: (nat_lit 526) :: (nat_lit 528) :: (nat_lit 529) :: (nat_lit 531) :: (nat_lit 532) :: (nat_lit 533) :: (nat_lit 535) :: (nat_lit 536) :: (nat_lit 538) :: (nat_lit 539) :: (nat_lit 540) :: (nat_lit 542) :: (nat_lit 543) :: (nat_lit 545) :: (nat_lit 546) :: (nat_lit 547) :: (nat_lit 549) :: (nat_lit 550) :: (nat_lit 552) :: (nat_lit 553) :: (nat_lit 554) :: (nat_lit 556) :: (nat_lit 557) :: (nat_lit 559) :: (nat_lit 560) :: (nat_lit 561) :: (nat_lit 563) :: (nat_lit 564) :: (nat_lit 566) :: (nat_lit 567) :: (nat_lit 568) :: (nat_lit 570) :: (nat_lit 571) :: (nat_lit 573) :: (nat_lit 574) :: (nat_lit 575) :: (nat_lit 577) :: (nat_lit 578) :: (nat_lit 580) :: (nat_lit 581) :: (nat_lit 582) :: (nat_lit 584) :: (nat_lit 585) :: (nat_lit 587) :: (nat_lit 588) :: (nat_lit 589) :: (nat_lit 591) :: (nat_lit 592) :: (nat_lit 594) :: (nat_lit 595) :: (nat_lit 596) :: (nat_lit 598) :: (nat_lit 599) :: (nat_lit 601) :: (nat_lit 602) :: [])
def h_heap_39 : PySem.Params → PySem.W.Frag := fun x =>
(nat_lit 2, (@W.boot_o_2 x)) ::
(nat_lit 3, (o600 x)) ::
(nat_lit 15, (o675 x)) ::
(nat_lit 17, (o53 x)) ::
(nat_lit 18, (o675 x)) ::
(nat_lit 20, (o56 x)) ::
(nat_lit 21, (o57 x)) ::
(nat_lit 22, (o58 x)) ::
(nat_lit 29, (o675 x)) ::
(nat_lit 30, (o66 x)) ::
(nat_lit 31, (o118 x)) ::
(nat_lit 32, (o68 x)) ::
(nat_lit 35, (o119 x)) ::
(nat_lit 42, (o675 x)) ::
(nat_lit 43, (o82 x)) ::
(nat_lit 44, (o83 x)) ::
(nat_lit 47, (o119 x)) ::
(nat_lit 54, (o675 x)) ::
(nat_lit 55, (o97 x)) ::
(nat_lit 56, (o98 x)) ::
(nat_lit 59, (o119 x)) ::
(nat_lit 66, (o675 x)) ::
(nat_lit 67, (o112 x)) ::
(nat_lit 68, (o113 x)) ::
(nat_lit 71, (o119 x)) ::
(nat_lit 78, (o675 x)) ::
(nat_lit 79, (o127 x)) ::
(nat_lit 80, (o128 x)) ::
(nat_lit 83, (o675 x)) ::
(nat_lit 85, (o133 x)) ::
(nat_lit 86, (o675 x)) ::
(nat_lit 88, (o136 x)) ::
(nat_lit 89, (o137 x)) ::
(nat_lit 90, (o675 x)) ::
(nat_lit 92, (o140 x)) ::
(nat_lit 93, (o675 x)) ::
(nat_lit 95, (o143 x)) ::
(nat_lit 96, (o144 x)) ::
(nat_lit 97, (o675 x)) ::
(nat_lit 99, (o147 x)) ::
(nat_lit 100, (o675 x)) ::
(nat_lit 102, (o150 x)) ::
(nat_lit 103, (o151 x)) ::
(nat_lit 104, (o675 x)) ::
(nat_lit 106, (o154 x)) ::
(nat_lit 107, (o675 x)) ::
(nat_lit 109, (o157 x)) ::
(nat_lit 110, (o158 x)) ::
(nat_lit 111, (o675 x)) ::
(nat_lit 113, (o161 x)) ::
(nat_lit 114, (o675 x)) ::
(nat_lit 116, (o164 x)) ::
(nat_lit 117, (o165 x)) ::
(nat_lit 118, (o675 x)) ::
(nat_lit 120, (o170 x)) ::
(nat_lit 121, (o675 x)) ::
(nat_lit 123, (o173 x)) ::
(nat_lit 124, (o174 x)) ::
(nat_lit 132, (o675 x)) ::
(nat_lit 134, (o186 x)) ::
(nat_lit 135, (o675 x)) ::
(nat_lit 137, (o189 x)) ::
(nat_lit 138, (o190 x)) ::
(nat_lit 139, (o675 x)) ::
(nat_lit 141, (o193 x)) ::
(nat_lit 142, (o675 x)) ::
(nat_lit 144, (o196 x)) ::
(nat_lit 145, (o197 x)) ::
(nat_lit 146, (o675 x)) ::
(nat_lit 148, (o200 x)) ::
(nat_lit 149, (o675 x)) ::
(nat_lit 151, (o203 x)) ::
(nat_lit 152, (o204 x)) ::
(nat_lit 153, (o675 x)) ::
(nat_lit 155, (o207 x)) ::
(nat_lit 156, (o675 x)) ::
(nat_lit 158, (o210 x)) ::
(nat_lit 159, (o211 x)) ::
(nat_lit 160, (o675 x)) ::
(nat_lit 162, (o214 x)) ::
(nat_lit 163, (o675 x)) ::
(nat_lit 165, (o217 x)) ::
(nat_lit 166, (o218 x)) ::
(nat_lit 167, (o675 x)) ::
(nat_lit 169, (o221 x)) ::
(nat_lit 170, (o675 x)) ::
(nat_lit 172, (o224 x)) ::
(nat_lit 173, (o225 x)) ::
(nat_lit 174, (o675 x)) ::
(nat_lit 175, (o227 x)) ::
(nat_lit 176, (o450 x)) ::
(nat_lit 177, (o229 x)) ::
(nat_lit 178, (o230 x)) ::
(nat_lit 181, (o451 x)) ::
(nat_lit 188, (o675 x)) ::
(nat_lit 190, (o245 x)) ::
(nat_lit 191, (o675 x)) ::
(nat_lit 193, (o248 x)) ::
(nat_lit 194, (o249 x)) ::
(nat_lit 195, (o675 x)) ::
(nat_lit 197, (o252 x)) ::
(nat_lit 198, (o675 x)) ::
(nat_lit 200, (o255 x)) ::
(nat_lit 201, (o256 x)) ::
(nat_lit 202, (o675 x)) ::
(nat_lit 204, (o259 x)) ::
(nat_lit 205, (o675 x)) ::
(nat_lit 207, (o262 x)) ::
(nat_lit 208, (o263 x)) ::
(nat_lit 209, (o264 x)) ::
(nat_lit 210, (o265 x)) ::
(nat_lit 211, (o266 x)) ::
(nat_lit 214, (o451 x)) ::
(nat_lit 221, (o675 x)) ::
(nat_lit 223, (o281 x)) ::
(nat_lit 224, (o675 x)) ::
(nat_lit 226, (o284 x)) ::
(nat_lit 227, (o285 x)) ::
(nat_lit 228, (o675 x)) ::
(nat_lit 230, (o288 x)) ::
(nat_lit 231, (o675 x)) ::
(nat_lit 233, (o291 x)) ::
(nat_lit 234, (o292 x)) ::
(nat_lit 235, (o675 x)) ::
(nat_lit 237, (o295 x)) ::
(nat_lit 238, (o675 x)) ::
(nat_lit 240, (o298 x)) ::
(nat_lit 241, (o299 x)) ::
(nat_lit 242, (o675 x)) ::
(nat_lit 244, (o302 x)) ::
(nat_lit 245, (o675 x)) ::
(nat_lit 247, (o305 x)) ::
(nat_lit 248, (o306 x)) ::
(nat_lit 249, (o307 x)) ::
(nat_lit 250, (o308 x)) ::
(nat_lit 251, (o309 x)) ::
(nat_lit 254, (o451 x)) ::
(nat_lit 261, (o675 x)) ::
(nat_lit 263, (o324 x)) ::
(nat_lit 264, (o675 x)) ::
(nat_lit 266, (o327 x)) ::
(nat_lit 267, (o328 x)) ::
(nat_lit 268, (o675 x)) ::
(nat_lit 270, (o331 x)) ::
(nat_lit 271, (o675 x)) ::
(nat_lit 273, (o334 x)) ::
(nat_lit 274, (o335 x)) ::
(nat_lit 275, (o675 x)) ::
(nat_lit 277, (o338 x)) ::
(nat_lit 278, (o675 x)) ::
(nat_lit 280, (o341 x)) ::
(nat_lit 281, (o342 x)) ::
(nat_lit 282, (o675 x)) ::
(nat_lit 284, (o345 x)) ::
(nat_lit 285, (o675 x)) ::
(nat_lit 287, (o348 x)) ::
(nat_lit 288, (o349 x)) ::
(nat_lit 289, (o675 x)) ::
(nat_lit 291, (o352 x)) ::
(nat_lit 292, (o675 x)) ::
(nat_lit 294, (o355 x)) ::
(nat_lit 295, (o356 x)) ::
(nat_lit 296, (o357 x)) ::
(nat_lit 297, (o358 x)) ::
(nat_lit 298, (o359 x)) ::
(nat_lit 301, (o451 x)) ::
(nat_lit 308, (o675 x)) ::
(nat_lit 310, (o374 x)) ::
(nat_lit 311, (o675 x)) ::
(nat_lit 313, (o377 x)) ::
(nat_lit 314, (o378 x)) ::
(nat_lit 315, (o675 x)) ::
(nat_lit 317, (o381 x)) ::
(nat_lit 318, (o675 x)) ::
(nat_lit 320, (o384 x)) ::
(nat_lit 321, (o385 x)) ::
(nat_lit 322, (o675 x)) ::
(nat_lit 324, (o388 x)) ::
(nat_lit 325, (o675 x)) ::
(nat_lit 327, (o391 x)) ::
(nat_lit 328, (o392 x)) ::
(nat_lit 329, (o393 x)) ::
(nat_lit 330, (o394 x)) ::
(nat_lit 331, (o395 x)) ::
(nat_lit 334, (o451 x)) ::
(nat_lit 341, (o675 x)) ::
(nat_lit 343, (o410 x)) ::
(nat_lit 344, (o675 x)) ::
(nat_lit 346, (o413 x)) ::
(nat_lit 347, (o414 x)) ::
(nat_lit 348, (o675 x)) ::
(nat_lit 350, (o417 x)) ::
(nat_lit 351, (o675 x)) ::
(nat_lit 353, (o420 x)) ::
(nat_lit 354, (o421 x)) ::
(nat_lit 355, (o675 x)) ::
(nat_lit 357, (o424 x)) ::
(nat_lit 358, (o675 x)) ::
(nat_lit 360, (o427 x)) ::
(nat_lit 361, (o428 x)) ::
(nat_lit 362, (o675 x)) ::
(nat_lit 364, (o431 x)) ::
(nat_lit 365, (o675 x)) ::
(nat_lit 367, (o434 x)) ::
(nat_lit 368, (o435 x)) ::
(nat_lit 369, (o675 x)) ::
(nat_lit 371, (o438 x)) ::
(nat_lit 372, (o675 x)) ::
(nat_lit 374, (o441 x)) ::
(nat_lit 375, (o442 x)) ::
(nat_lit 376, (o443 x)) ::
(nat_lit 377, (o444 x)) ::
(nat_lit 378, (o445 x)) ::
(nat_lit 381, (o451 x)) ::
(nat_lit 388, (o675 x)) ::
(nat_lit 390, (o460 x)) ::
(nat_lit 391, (o675 x)) ::
(nat_lit 393, (o463 x)) ::
(nat_lit 394, (o464 x)) ::
(nat_lit 395, (o675 x)) ::
(nat_lit 397, (o467 x)) ::
(nat_lit 398, (o675 x)) ::
(nat_lit 400, (o470 x)) ::
(nat_lit 401, (o471 x)) ::
(nat_lit 402, (o675 x)) ::
(nat_lit 404, (o474 x)) ::
(nat_lit 405, (o675 x)) ::
(nat_lit 407, (o477 x)) ::
(nat_lit 408, (o478 x)) ::
(nat_lit 409, (o675 x)) ::
(nat_lit 411, (o481 x)) ::
(nat_lit 412, (o675 x)) ::
(nat_lit 414, (o484 x)) ::
(nat_lit 415, (o485 x)) ::
(nat_lit 416, (o675 x)) ::
(nat_lit 418, (o488 x)) ::
(nat_lit 419, (o675 x)) ::
(nat_lit 421, (o491 x)) ::
(nat_lit 422, (o492 x)) ::
(nat_lit 423, (o675 x)) ::
(nat_lit 425, (o495 x)) ::
(nat_lit 426, (o675 x)) ::
(nat_lit 428, (o498 x)) ::
(nat_lit 429, (o499 x)) ::
(nat_lit 430, (o500 x)) ::
(nat_lit 431, (o501 x)) ::
(nat_lit 432, (o502 x)) ::
(nat_lit 435, (o675 x)) ::
(nat_lit 437, (o509 x)) ::
(nat_lit 438, (o675 x)) ::
(nat_lit 440, (o512 x)) ::
(nat_lit 441, (o513 x)) ::
(nat_lit 442, (o675 x)) ::
(nat_lit 444, (o516 x)) ::
(nat_lit 445, (o675 x)) ::
(nat_lit 447, (o519 x)) ::
(nat_lit 448, (o520 x)) ::
(nat_lit 449, (o675 x)) ::
(nat_lit 451, (o523 x)) ::
(nat_lit 452, (o675 x)) ::
(nat_lit 454, (o526 x)) ::
(nat_lit 455, (o527 x)) ::
(nat_lit 456, (o675 x)) ::
(nat_lit 458, (o530 x)) ::
(nat_lit 459, (o675 x)) ::
(nat_lit 461, (o533 x)) ::
(nat_lit 462, (o534 x)) ::
(nat_lit 463, (o675 x)) ::
(nat_lit 465, (o537 x)) ::
(nat_lit 466, (o675 x)) ::
(nat_lit 468, (o540 x)) ::
(nat_lit 469, (o541 x)) ::
(nat_lit 477, (o675 x)) ::
(nat_lit 479, (o553 x)) ::
(nat_lit 480, (o675 x)) ::
(nat_lit 482, (o556 x)) ::
(nat_lit 483, (o557 x)) ::
(nat_lit 484, (o675 x)) ::
(nat_lit 486, (o560 x)) ::
(nat_lit 487, (o675 x)) ::
(nat_lit 489, (o563 x)) ::
(nat_lit 490, (o564 x)) ::
(nat_lit 491, (o675 x)) ::
(nat_lit 493, (o567 x)) ::
(nat_lit 494, (o675 x)) ::
(nat_lit 496, (o570 x)) ::
(nat_lit 497, (o571 x)) ::
(nat_lit 498, (o675 x)) ::
(nat_lit 500, (o574 x)) ::
(nat_lit 501, (o675 x)) ::
(nat_lit 503, (o577 x)) ::
(nat_lit 504, (o578 x)) ::
(nat_lit 505, (o579 x)) ::
(nat_lit 506, (o580 x)) ::
(nat_lit 507, (o581 x)) ::
(nat_lit 508, (o582 x)) ::
(nat_lit 509, (o583 x)) ::
(nat_lit 512, (o675 x)) ::
(nat_lit 514, (o588 x)) ::
(nat_lit 515, (o675 x)) ::
(nat_lit 517, (o591 x)) ::
(nat_lit 518, (o592 x)) ::
(nat_lit 519, (o675 x)) ::
(nat_lit 521, (o595 x)) ::
(nat_lit 522, (o675 x)) ::
(nat_lit 524, (o598 x)) ::
(nat_lit 525, (o599 x)) ::
(nat_lit 526, (o675 x)) ::
(nat_lit 528, (o604 x)) ::
(nat_lit 529, (o675 x)) ::
(nat_lit 531, (o607 x)) ::
(nat_lit 532, (o608 x)) ::
(nat_lit 533, (o675 x)) ::
(nat_lit 535, (o611 x)) ::
(nat_lit 536, (o675 x)) ::
(nat_lit 538, (o614 x)) ::
(nat_lit 539, (o615 x)) ::
(nat_lit 540, (o675 x)) ::
(nat_lit 542, (o618 x)) ::
(nat_lit 543, (o675 x)) ::
(nat_lit 545, (o621 x)) ::
(nat_lit 546, (o622 x)) ::
(nat_lit 547, (o675 x)) ::
(nat_lit 549, (o625 x)) ::
(nat_lit 550, (o675 x)) ::
(nat_lit 552, (o628 x)) ::
(nat_lit 553, (o629 x)) ::
(nat_lit 554, (o675 x)) ::
(nat_lit 556, (o632 x)) ::
(nat_lit 557, (o675 x)) ::
(nat_lit 559, (o635 x)) ::
(nat_lit 560, (o636 x)) ::
(nat_lit 561, (o675 x)) ::
(nat_lit 563, (o639 x)) ::
(nat_lit 564, (o675 x)) ::
(nat_lit 566, (o642 x)) ::
(nat_lit 567, (o643 x)) ::
(nat_lit 568, (o675 x)) ::
(nat_lit 570, (o646 x)) ::
(nat_lit 571, (o675 x)) ::
(nat_lit 573, (o649 x)) ::
(nat_lit 574, (o650 x)) ::
(nat_lit 575, (o675 x)) ::
(nat_lit 577, (o653 x)) ::
(nat_lit 578, (o675 x)) ::
(nat_lit 580, (o656 x)) ::
(nat_lit 581, (o657 x)) ::
(nat_lit 582, (o675 x)) ::
(nat_lit 584, (o660 x)) ::
(nat_lit 585, (o675 x)) ::
(nat_lit 587, (o663 x)) ::
(nat_lit 588, (o664 x)) ::
(nat_lit 589, (o675 x)) ::
(nat_lit 591, (o667 x)) ::
(nat_lit 592, (o675 x)) ::
(nat_lit 594, (o670 x)) ::
(nat_lit 595, (o671 x)) ::
(nat_lit 596, (o675 x)) ::
(nat_lit 598, (o674 x)) ::
(nat_lit 599, (o675 x)) ::
(nat_lit 601, (o677 x)) ::
(nat_lit 602, (o678 x)) :: []
def h_view_39 : PySem.Program := { PySem.Challenge.pw_oddbases_k46_machine_rows with main := { PySem.Challenge.pw_oddbases_k46_machine_rows.main with body := [My.top 0, My.top 2, My.top 3, My.top 4, My.top 5, My.top 6, My.top 8, My.top 9, My.top 10, My.top 11, My.top 12, My.top 14, My.top 15, My.top 16, My.top 17, My.top 18, My.top 19, My.top 20, My.top 21, My.top 23, My.top 24, My.top 25, My.top 26, My.top 27, My.top 28, My.top 30, My.top 31, My.top 32, My.top 33, My.top 34, My.top 35, My.top 36, My.top 37, My.top 38, My.top 39, My.top 40, My.top 41, My.top 42] } }
def h_heap_679 : ((x : @Params) → @Heap) := (fun x => (@Heap.mk (@Array.mk @Obj ((@W.boot_o_0 x) :: (@W.boot_o_1 x) :: (@W.boot_o_2 x) :: (o600 x) :: (@W.boot_o_4 x) :: (@W.boot_o_5 x) :: (@W.boot_o_6 x) :: (@W.boot_o_7 x) :: (@W.boot_o_8 x) :: (@W.boot_o_9 x) :: (@W.boot_o_10 x) :: (o675 x) :: (o601 x) :: (o45 x) :: (o46 x) :: (o675 x) :: (o673 x) :: (o53 x) :: (o675 x) :: (o55 x) :: (o56 x) :: (o57 x) :: (o58 x) :: (o545 x) :: (o60 x) :: (o675 x) :: (o673 x) :: (o63 x) :: (o64 x) :: (o675 x) :: (o66 x) :: (o118 x) :: (o68 x) :: (o69 x) :: (o70 x) :: (o119 x) :: (o545 x) :: (o76 x) :: (o675 x) :: (o673 x) :: (o79 x) :: (o80 x) :: (o675 x) :: (o82 x) :: (o83 x) :: (o84 x) :: (o85 x) :: (o119 x) :: (o545 x) :: (o91 x) :: (o675 x) :: (o673 x) :: (o94 x) :: (o95 x) :: (o675 x) :: (o97 x) :: (o98 x) :: (o99 x) :: (o100 x) :: (o119 x) :: (o545 x) :: (o106 x) :: (o675 x) :: (o673 x) :: (o109 x) :: (o110 x) :: (o675 x) :: (o112 x) :: (o113 x) :: (o114 x) :: (o115 x) :: (o119 x) :: (o545 x) :: (o121 x) :: (o675 x) :: (o673 x) :: (o124 x) :: (o125 x) :: (o675 x) :: (o127 x) :: (o128 x) :: (o129 x) :: (o130 x) :: (o675 x) :: (o673 x) :: (o133 x) :: (o675 x) :: (o135 x) :: (o136 x) :: (o137 x) :: (o675 x) :: (o673 x) :: (o140 x) :: (o675 x) :: (o142 x) :: (o143 x) :: (o144 x) :: (o675 x) :: (o673 x) :: (o147 x) :: (o675 x) :: (o149 x) :: (o150 x) :: (o151 x) :: (o675 x) :: (o673 x) :: (o154 x) :: (o675 x) :: (o156 x) :: (o157 x) :: (o158 x) :: (o675 x) :: (o673 x) :: (o161 x) :: (o675 x) :: (o163 x) :: (o164 x) :: (o165 x) :: (o675 x) :: (o673 x) :: (o170 x) :: (o675 x) :: (o172 x) :: (o173 x) :: (o174 x) :: (o675 x) :: (o545 x) :: (o179 x) :: (o675 x) :: (o181 x) :: (o182 x) :: (o183 x) :: (o675 x) :: (o673 x) :: (o186 x) :: (o675 x) :: (o188 x) :: (o189 x) :: (o190 x) :: (o675 x) :: (o673 x) :: (o193 x) :: (o675 x) :: (o195 x) :: (o196 x) :: (o197 x) :: (o675 x) :: (o673 x) :: (o200 x) :: (o675 x) :: (o202 x) :: (o203 x) :: (o204 x) :: (o675 x) :: (o673 x) :: (o207 x) :: (o675 x) :: (o209 x) :: (o210 x) :: (o211 x) :: (o675 x) :: (o673 x) :: (o214 x) :: (o675 x) :: (o216 x) :: (o217 x) :: (o218 x) :: (o675 x) :: (o673 x) :: (o221 x) :: (o675 x) :: (o223 x) :: (o224 x) :: (o225 x) :: (o675 x) :: (o227 x) :: (o450 x) :: (o229 x) :: (o230 x) :: (o231 x) :: (o232 x) :: (o451 x) :: (o545 x) :: (o238 x) :: (o675 x) :: (o240 x) :: (o241 x) :: (o242 x) :: (o675 x) :: (o673 x) :: (o245 x) :: (o675 x) :: (o247 x) :: (o248 x) :: (o249 x) :: (o675 x) :: (o673 x) :: (o252 x) :: (o675 x) :: (o254 x) :: (o255 x) :: (o256 x) :: (o675 x) :: (o673 x) :: (o259 x) :: (o675 x) :: (o261 x) :: (o262 x) :: (o263 x) :: (o264 x) :: (o265 x) :: (o266 x) :: (o267 x) :: (o268 x) :: (o451 x) :: (o545 x) :: (o274 x) :: (o675 x) :: (o276 x) :: (o277 x) :: (o278 x) :: (o675 x) :: (o673 x) :: (o281 x) :: (o675 x) :: (o283 x) :: (o284 x) :: (o285 x) :: (o675 x) :: (o673 x) :: (o288 x) :: (o675 x) :: (o290 x) :: (o291 x) :: (o292 x) :: (o675 x) :: (o673 x) :: (o295 x) :: (o675 x) :: (o297 x) :: (o298 x) :: (o299 x) :: (o675 x) :: (o673 x) :: (o302 x) :: (o675 x) :: (o304 x) :: (o305 x) :: (o306 x) :: (o307 x) :: (o308 x) :: (o309 x) :: (o310 x) :: (o311 x) :: (o451 x) :: (o545 x) :: (o317 x) :: (o675 x) :: (o319 x) :: (o320 x) :: (o321 x) :: (o675 x) :: (o673 x) :: (o324 x) :: (o675 x) :: (o326 x) :: (o327 x) :: (o328 x) :: (o675 x) :: (o673 x) :: (o331 x) :: (o675 x) :: (o333 x) :: (o334 x) :: (o335 x) :: (o675 x) :: (o673 x) :: (o338 x) :: (o675 x) :: (o340 x) :: (o341 x) :: (o342 x) :: (o675 x) :: (o673 x) :: (o345 x) :: (o675 x) :: (o347 x) :: (o348 x) :: (o349 x) :: (o675 x) :: (o673 x) :: (o352 x) :: (o675 x) :: (o354 x) :: (o355 x) :: (o356 x) :: (o357 x) :: (o358 x) :: (o359 x) :: (o360 x) :: (o361 x) :: (o451 x) :: (o545 x) :: (o367 x) :: (o675 x) :: (o369 x) :: (o370 x) :: (o371 x) :: (o675 x) :: (o673 x) :: (o374 x) :: (o675 x) :: (o376 x) :: (o377 x) :: (o378 x) :: (o675 x) :: (o673 x) :: (o381 x) :: (o675 x) :: (o383 x) :: (o384 x) :: (o385 x) :: (o675 x) :: (o673 x) :: (o388 x) :: (o675 x) :: (o390 x) :: (o391 x) :: (o392 x) :: (o393 x) :: (o394 x) :: (o395 x) :: (o396 x) :: (o397 x) :: (o451 x) :: (o545 x) :: (o403 x) :: (o675 x) :: (o405 x) :: (o406 x) :: (o407 x) :: (o675 x) :: (o673 x) :: (o410 x) :: (o675 x) :: (o412 x) :: (o413 x) :: (o414 x) :: (o675 x) :: (o673 x) :: (o417 x) :: (o675 x) :: (o419 x) :: (o420 x) :: (o421 x) :: (o675 x) :: (o673 x) :: (o424 x) :: (o675 x) :: (o426 x) :: (o427 x) :: (o428 x) :: (o675 x) :: (o673 x) :: (o431 x) :: (o675 x) :: (o433 x) :: (o434 x) :: (o435 x) :: (o675 x) :: (o673 x) :: (o438 x) :: (o675 x) :: (o440 x) :: (o441 x) :: (o442 x) :: (o443 x) :: (o444 x) :: (o445 x) :: (o446 x) :: (o447 x) :: (o451 x) :: (o545 x) :: (o453 x) :: (o675 x) :: (o455 x) :: (o456 x) :: (o457 x) :: (o675 x) :: (o673 x) :: (o460 x) :: (o675 x) :: (o462 x) :: (o463 x) :: (o464 x) :: (o675 x) :: (o673 x) :: (o467 x) :: (o675 x) :: (o469 x) :: (o470 x) :: (o471 x) :: (o675 x) :: (o673 x) :: (o474 x) :: (o675 x) :: (o476 x) :: (o477 x) :: (o478 x) :: (o675 x) :: (o673 x) :: (o481 x) :: (o675 x) :: (o483 x) :: (o484 x) :: (o485 x) :: (o675 x) :: (o673 x) :: (o488 x) :: (o675 x) :: (o490 x) :: (o491 x) :: (o492 x) :: (o675 x) :: (o673 x) :: (o495 x) :: (o675 x) :: (o497 x) :: (o498 x) :: (o499 x) :: (o500 x) :: (o501 x) :: (o502 x) :: (o503 x) :: (o504 x) :: (o675 x) :: (o673 x) :: (o509 x) :: (o675 x) :: (o511 x) :: (o512 x) :: (o513 x) :: (o675 x) :: (o673 x) :: (o516 x) :: (o675 x) :: (o518 x) :: (o519 x) :: (o520 x) :: (o675 x) :: (o673 x) :: (o523 x) :: (o675 x) :: (o525 x) :: (o526 x) :: (o527 x) :: (o675 x) :: (o673 x) :: (o530 x) :: (o675 x) :: (o532 x) :: (o533 x) :: (o534 x) :: (o675 x) :: (o673 x) :: (o537 x) :: (o675 x) :: (o539 x) :: (o540 x) :: (o541 x) :: (o675 x) :: (o545 x) :: (o546 x) :: (o675 x) :: (o548 x) :: (o549 x) :: (o550 x) :: (o675 x) :: (o673 x) :: (o553 x) :: (o675 x) :: (o555 x) :: (o556 x) :: (o557 x) :: (o675 x) :: (o673 x) :: (o560 x) :: (o675 x) :: (o562 x) :: (o563 x) :: (o564 x) :: (o675 x) :: (o673 x) :: (o567 x) :: (o675 x) :: (o569 x) :: (o570 x) :: (o571 x) :: (o675 x) :: (o673 x) :: (o574 x) :: (o675 x) :: (o576 x) :: (o577 x) :: (o578 x) :: (o579 x) :: (o580 x) :: (o581 x) :: (o582 x) :: (o583 x) :: (o584 x) :: (o585 x) :: (o675 x) :: (o673 x) :: (o588 x) :: (o675 x) :: (o590 x) :: (o591 x) :: (o592 x) :: (o675 x) :: (o673 x) :: (o595 x) :: (o675 x) :: (o597 x) :: (o598 x) :: (o599 x) :: (o675 x) :: (o673 x) :: (o604 x) :: (o675 x) :: (o606 x) :: (o607 x) :: (o608 x) :: (o675 x) :: (o673 x) :: (o611 x) :: (o675 x) :: (o613 x) :: (o614 x) :: (o615 x) :: (o675 x) :: (o673 x) :: (o618 x) :: (o675 x) :: (o620 x) :: (o621 x) :: (o622 x) :: (o675 x) :: (o673 x) :: (o625 x) :: (o675 x) :: (o627 x) :: (o628 x) :: (o629 x) :: (o675 x) :: (o673 x) :: (o632 x) :: (o675 x) :: (o634 x) :: (o635 x) :: (o636 x) :: (o675 x) :: (o673 x) :: (o639 x) :: (o675 x) :: (o641 x) :: (o642 x) :: (o643 x) :: (o675 x) :: (o673 x) :: (o646 x) :: (o675 x) :: (o648 x) :: (o649 x) :: (o650 x) :: (o675 x) :: (o673 x) :: (o653 x) :: (o675 x) :: (o655 x) :: (o656 x) :: (o657 x) :: (o675 x) :: (o673 x) :: (o660 x) :: (o675 x) :: (o662 x) :: (o663 x) :: (o664 x) :: (o675 x) :: (o673 x) :: (o667 x) :: (o675 x) :: (o669 x) :: (o670 x) :: (o671 x) :: (o675 x) :: (o673 x) :: (o674 x) :: (o675 x) :: (o676 x) :: (o677 x) :: (o678 x) :: [])) (@Life.mk [] [] [] 0 (@List.nil (@Prod @Nat @Nat)) [] @Bool.false #[] [] 0 @Bool.false @Bool.false @Bool.false (0 : Int) [(2000 : Int), (10 : Int), (10 : Int)] @Bool.false 0 @Bool.true [] [] 0 @Bool.false)))
def h_env_41 : @Env := (@Env.mk (@Module.scope (@Program.main ((@W.OpenRow.toRowW (@W.OpenLaw.row @Challenge.rw_oddbases_k46_machine_rows))).1)) @mainNs @mainNs (@List.nil (@Prod @Str @Addr)) @Str.empty (@Option.none @Addr) (r_ 13) (@some @Addr (@OfNat.ofNat @Addr 14 (@instOfNatNat 14))) (@OfNat.ofNat @Addr 0 (@instOfNatNat 0)))
def h_tree_678 := N_ W.boot_o_0 (N_ W.boot_o_1 (N_ o600 (N_ W.boot_o_7 (N_ o675 (N_ o118 (N_ o673 (N_ o179 (N_ o545 (L_ o585) Z_) (L_ o453)) (N_ o675 (N_ o383 (L_ o675) Z_) (L_ o519))) (N_ o143 (N_ o211 (N_ o348 (L_ o675) Z_) (L_ o485)) (N_ o281 (L_ o675) (L_ o553)))) (N_ o119 (N_ o127 (N_ o195 Y2 (L_ o469)) (N_ o262 (N_ o545 (L_ o667) Z_) (L_ o675))) (N_ o675 (N_ o227 (N_ o367 (L_ o635) Z_) (L_ o501)) (N_ o297 (L_ o434) (L_ o569))))) (N_ o545 (N_ o673 (N_ o119 (N_ o675 (N_ o324 (L_ o675) Z_) (L_ o675)) (N_ o254 (N_ o391 (L_ o673) Z_) (L_ o527))) (N_ o151 (N_ o675 (N_ o356 (L_ o627) Z_) (L_ o675)) (N_ o675 (L_ o426) (L_ o675)))) (N_ o97 (N_ o135 (N_ o203 (N_ o340 (L_ o611) Z_) (L_ o477)) (N_ o545 (N_ o410 (L_ o675) Z_) (L_ o545))) (N_ o673 (N_ o238 (N_ o675 (L_ o643) Z_) (L_ o511)) (N_ o305 (L_ o442) (L_ o577)))))) (N_ o675 (N_ o55 (N_ o119 (N_ o112 (N_ o183 (N_ o320 (L_ o675) Z_) (L_ o457)) (N_ o675 (N_ o673 (L_ o655) Z_) (L_ o523))) (N_ o147 (N_ o675 (N_ o352 (L_ o675) Z_) (L_ o675)) (N_ o285 (L_ o675) (L_ o557)))) (N_ o673 (N_ o675 (N_ o673 (N_ o675 (L_ o607) Z_) (L_ o673)) (N_ o266 (N_ o406 (L_ o671) Z_) (L_ o539))) (N_ o163 (N_ o231 (N_ o371 (L_ o639) Z_) (L_ o675)) (N_ o673 (L_ o438) (L_ o673))))) (N_ o63 (N_ o82 (N_ o673 (N_ o675 (N_ o328 (L_ o597) Z_) (L_ o675)) (N_ o673 (N_ o395 (L_ o663) Z_) (L_ o675))) (N_ o675 (N_ o223 (N_ o360 (L_ o673) Z_) (L_ o497)) Y0)) (N_ o119 (N_ o673 (N_ o207 (N_ o673 (L_ o615) Z_) (L_ o481)) (N_ o277 (L_ o414) (L_ o549))) (N_ o173 (N_ o242 (N_ o675 (L_ o675) Z_) (L_ o673)) (N_ o309 (L_ o446) (L_ o581))))))) (N_ W.boot_o_5 (N_ W.boot_o_9 (N_ o53 (N_ o69 (N_ o110 (N_ o181 Y2 (L_ o455)) (N_ o248 (N_ o385 (L_ o653) Z_) (L_ o675))) (N_ o675 (N_ o673 (N_ o675 (L_ o621) Z_) (L_ o673)) (N_ o283 (L_ o420) (L_ o555)))) (N_ o91 (N_ o129 (N_ o197 (N_ o334 (L_ o675) Z_) (L_ o471)) (N_ o264 (N_ o675 (L_ o669) Z_) (L_ o537))) (N_ o161 (N_ o229 (N_ o369 (L_ o675) Z_) (L_ o503)) (N_ o299 (L_ o675) (L_ o571))))) (N_ o675 (N_ o80 (N_ o121 (N_ o189 (N_ o326 (L_ o595) Z_) (L_ o463)) (N_ o256 (N_ o393 (L_ o675) Z_) (L_ o673))) (N_ o673 (N_ o221 (N_ o358 (L_ o629) Z_) (L_ o495)) (N_ o291 (L_ o428) (L_ o563)))) (N_ o99 (N_ o137 (N_ o675 (N_ o342 (L_ o613) Z_) (L_ o675)) (N_ o675 (N_ o412 (L_ o677) Z_) (L_ o675))) (N_ o675 (N_ o240 (N_ o377 (L_ o673) Z_) (L_ o513)) (N_ o307 (L_ o444) (L_ o579)))))) (N_ o45 (N_ o57 (N_ o76 (N_ o114 (N_ o673 (N_ o675 (L_ o591) Z_) (L_ o673)) (N_ o252 (N_ o675 (L_ o657) Z_) (L_ o525))) (N_ o149 (N_ o217 (N_ o354 (L_ o625) Z_) (L_ o491)) (N_ o673 (L_ o424) (L_ o673)))) (N_ o95 (N_ o133 (N_ o675 (N_ o338 (L_ o675) Z_) (L_ o675)) (N_ o268 Y2 (L_ o541))) (N_ o165 (N_ o451 (N_ o673 (L_ o641) Z_) (L_ o509)) (N_ o675 (L_ o440) (L_ o675))))) (N_ o675 (N_ o84 (N_ o125 (N_ o193 (N_ o673 (L_ o599) Z_) (L_ o467)) (N_ o675 (N_ o397 (L_ o675) Z_) (L_ o533))) (N_ o157 (N_ o225 (N_ o451 (L_ o675) Z_) (L_ o499)) (N_ o295 (L_ o675) (L_ o567)))) (N_ o106 (N_ o675 (N_ o209 Y2 (L_ o483)) Y0) (N_ o675 (N_ o673 (N_ o381 (L_ o649) Z_) (L_ o675)) (N_ o311 (L_ o451) (L_ o583)))))))) (N_ W.boot_o_2 (N_ W.boot_o_4 (N_ W.boot_o_8 (N_ o673 (N_ o68 (N_ o109 (N_ o675 (N_ o317 (L_ o675) Z_) (L_ o675)) (N_ o247 (N_ o384 (L_ o673) Z_) (L_ o520))) (N_ o144 (N_ o675 (N_ o349 (L_ o620) Z_) (L_ o675)) (N_ o675 (L_ o419) (L_ o675)))) (N_ o545 (N_ o128 (N_ o196 (N_ o333 (L_ o604) Z_) (L_ o470)) (N_ o263 (N_ o403 (L_ o675) Z_) (L_ o673))) (N_ o673 (N_ o450 (N_ o675 (L_ o636) Z_) (L_ o502)) (N_ o298 (L_ o435) (L_ o570))))) (N_ o60 (N_ o79 (N_ o545 (N_ o188 Y2 (L_ o462)) (N_ o255 (N_ o392 (L_ o660) Z_) (L_ o675))) (N_ o675 (N_ o673 (N_ o357 (L_ o628) Z_) (L_ o673)) (N_ o290 (L_ o427) (L_ o562)))) (N_ o98 (N_ o136 (N_ o204 (N_ o341 (L_ o675) Z_) (L_ o478)) (N_ o274 (N_ o675 (L_ o676) Z_) (L_ o546))) (N_ o170 (N_ o675 (N_ o376 (L_ o675) Z_) (L_ o512)) (N_ o306 (L_ o443) (L_ o578)))))) (N_ o601 (N_ o56 (N_ o545 (N_ o113 (N_ o675 (N_ o321 (L_ o590) Z_) (L_ o675)) (N_ o673 (N_ o388 (L_ o656) Z_) (L_ o675))) (N_ o675 (N_ o216 Y2 (L_ o490)) Y0)) (N_ o94 (N_ o673 (N_ o200 (N_ o673 (L_ o608) Z_) (L_ o474)) (N_ o267 (N_ o407 (L_ o675) Z_) (L_ o540))) (N_ o164 (N_ o232 (N_ o675 (L_ o675) Z_) (L_ o673)) (N_ o302 (L_ o675) (L_ o574))))) (N_ o64 (N_ o83 (N_ o124 (N_ o673 (N_ o675 (L_ o598) Z_) (L_ o673)) (N_ o259 (N_ o396 (L_ o664) Z_) (L_ o532))) (N_ o156 (N_ o224 (N_ o361 (L_ o632) Z_) (L_ o498)) (N_ o673 (L_ o431) (L_ o673)))) (N_ o545 (N_ o140 (N_ o675 (N_ o345 (L_ o675) Z_) (L_ o675)) (N_ o278 (L_ o675) (L_ o550))) (N_ o174 (N_ o675 (N_ o673 (L_ o648) Z_) (L_ o516)) (N_ o310 (L_ o447) (L_ o582))))))) (N_ W.boot_o_6 (N_ W.boot_o_10 (N_ o675 (N_ o70 (N_ o675 (N_ o182 (N_ o319 (L_ o588) Z_) (L_ o456)) (N_ o249 (N_ o675 (L_ o675) Z_) (L_ o673))) (N_ o673 (N_ o214 (N_ o673 (L_ o622) Z_) (L_ o488)) (N_ o284 (L_ o421) (L_ o556)))) (N_ o675 (N_ o130 (N_ o675 (N_ o335 (L_ o606) Z_) (L_ o675)) (N_ o265 (N_ o405 (L_ o670) Z_) (L_ o675))) (N_ o675 (N_ o230 (N_ o370 (L_ o673) Z_) (L_ o504)) Y0))) (N_ o673 (N_ o675 (N_ o675 (N_ o190 (N_ o327 (L_ o675) Z_) (L_ o464)) (N_ o675 (N_ o394 (L_ o662) Z_) (L_ o530))) (N_ o154 (N_ o675 (N_ o359 (L_ o675) Z_) (L_ o675)) (N_ o292 (L_ o675) (L_ o564)))) (N_ o100 (N_ o675 (N_ o673 (N_ o675 (L_ o614) Z_) (L_ o673)) (N_ o276 (N_ o413 (L_ o678) Z_) (L_ o548))) (N_ o172 (N_ o241 (N_ o378 (L_ o646) Z_) (L_ o675)) (N_ o308 (L_ o445) (L_ o580)))))) (N_ o46 (N_ o58 (N_ o675 (N_ o115 (N_ o186 (N_ o673 (L_ o592) Z_) (L_ o460)) (N_ o675 (N_ o390 (L_ o675) Z_) (L_ o526))) (N_ o150 (N_ o218 (N_ o355 (L_ o675) Z_) (L_ o492)) (N_ o288 (L_ o675) (L_ o560)))) (N_ o675 (N_ o675 (N_ o202 Y2 (L_ o476)) (N_ o451 (N_ o673 (L_ o674) Z_) (L_ o675))) (N_ o675 (N_ o545 (N_ o374 (L_ o642) Z_) (L_ o675)) (N_ o304 (L_ o441) (L_ o576))))) (N_ o66 (N_ o85 (N_ o675 (N_ o675 (N_ o331 (L_ o675) Z_) (L_ o675)) (N_ o261 (N_ o451 (L_ o673) Z_) (L_ o534))) (N_ o158 (N_ o675 (N_ o545 (L_ o634) Z_) (L_ o500)) (N_ o675 (L_ o433) (L_ o675)))) (N_ o675 (N_ o142 (N_ o210 (N_ o347 (L_ o618) Z_) (L_ o484)) (N_ o673 (L_ o417) (L_ o673))) (N_ o545 (N_ o245 (N_ o675 (L_ o650) Z_) (L_ o518)) (N_ o451 (L_ o545) (L_ o584))))))))
def h_sts_542 : (@List @Stmt) := [My.top 28, My.top 29, My.top 30, My.top 31, My.top 32, My.top 33, My.top 34, My.top 35, My.top 36, My.top 37, My.top 38, My.top 39, My.top 40, My.top 41, My.top 42]
def h_tree_541 := N_ W.boot_o_0 (N_ W.boot_o_1 (N_ o505 (N_ W.boot_o_7 (N_ o675 (N_ o118 (N_ o673 (N_ o179 (L_ o545) (L_ o453)) (N_ o675 (L_ o383) (L_ o519))) (N_ o143 (N_ o211 (L_ o348) (L_ o485)) (N_ o281 (L_ o675) Z_))) (N_ o119 (N_ o127 (N_ o195 (L_ o675) (L_ o469)) (N_ o262 (L_ o545) (L_ o675))) (N_ o675 (N_ o227 (L_ o367) (L_ o501)) (N_ o297 (L_ o434) Z_)))) (N_ o545 (N_ o673 (N_ o119 (N_ o675 (L_ o324) (L_ o675)) (N_ o254 (L_ o391) (L_ o527))) (N_ o151 (N_ o675 (L_ o356) (L_ o675)) (N_ o675 (L_ o426) Z_))) (N_ o97 (N_ o135 (N_ o203 (L_ o340) (L_ o477)) (N_ o545 (L_ o410) Z_)) (N_ o673 (N_ o238 (L_ o675) (L_ o511)) (N_ o305 (L_ o442) Z_))))) (N_ o675 (N_ o55 (N_ o119 (N_ o112 (N_ o183 (L_ o320) (L_ o457)) (N_ o675 (L_ o673) (L_ o523))) (N_ o147 (N_ o675 (L_ o352) (L_ o675)) (N_ o285 (L_ o675) Z_))) (N_ o673 (N_ o675 Y1 (N_ o266 (L_ o406) (L_ o539))) (N_ o163 (N_ o231 (L_ o371) (L_ o675)) (N_ o673 (L_ o438) Z_)))) (N_ o63 (N_ o82 (N_ o673 (N_ o675 (L_ o328) (L_ o675)) (N_ o673 (L_ o395) (L_ o675))) (N_ o675 (N_ o223 (L_ o360) (L_ o497)) Y2)) (N_ o119 (N_ o673 (N_ o207 (L_ o673) (L_ o481)) (N_ o277 (L_ o414) Z_)) (N_ o173 (N_ o242 (L_ o675) (L_ o673)) (N_ o309 (L_ o446) Z_)))))) (N_ W.boot_o_5 (N_ W.boot_o_9 (N_ o53 (N_ o69 (N_ o110 (N_ o181 (L_ o675) (L_ o455)) (N_ o248 (L_ o385) (L_ o675))) (N_ o675 Y1 (N_ o283 (L_ o420) Z_))) (N_ o91 (N_ o129 (N_ o197 (L_ o334) (L_ o471)) (N_ o264 (L_ o675) (L_ o537))) (N_ o161 (N_ o229 (L_ o369) (L_ o503)) (N_ o299 (L_ o675) Z_)))) (N_ o675 (N_ o80 (N_ o121 (N_ o189 (L_ o326) (L_ o463)) (N_ o256 (L_ o393) (L_ o673))) (N_ o673 (N_ o221 (L_ o358) (L_ o495)) (N_ o291 (L_ o428) Z_))) (N_ o99 (N_ o137 (N_ o675 (L_ o342) (L_ o675)) (N_ o675 (L_ o412) Z_)) (N_ o675 (N_ o240 (L_ o377) (L_ o513)) (N_ o307 (L_ o444) Z_))))) (N_ o45 (N_ o57 (N_ o76 (N_ o114 Y1 (N_ o252 (L_ o675) (L_ o525))) (N_ o149 (N_ o217 (L_ o354) (L_ o491)) (N_ o673 (L_ o424) Z_))) (N_ o95 (N_ o133 (N_ o675 (L_ o338) (L_ o675)) (N_ o268 (L_ o675) (L_ o541))) (N_ o165 (N_ o451 (L_ o673) (L_ o509)) (N_ o675 (L_ o440) Z_)))) (N_ o675 (N_ o84 (N_ o125 (N_ o193 (L_ o673) (L_ o467)) (N_ o675 (L_ o397) (L_ o533))) (N_ o157 (N_ o225 (L_ o451) (L_ o499)) (N_ o295 (L_ o675) Z_))) (N_ o106 (N_ o675 (N_ o209 (L_ o675) (L_ o483)) Y2) (N_ o675 (N_ o673 (L_ o381) (L_ o675)) (N_ o311 (L_ o451) Z_))))))) (N_ W.boot_o_2 (N_ W.boot_o_4 (N_ W.boot_o_8 (N_ o673 (N_ o68 (N_ o109 (N_ o675 (L_ o317) (L_ o675)) (N_ o247 (L_ o384) (L_ o520))) (N_ o144 (N_ o675 (L_ o349) (L_ o675)) (N_ o675 (L_ o419) Z_))) (N_ o545 (N_ o128 (N_ o196 (L_ o333) (L_ o470)) (N_ o263 (L_ o403) (L_ o673))) (N_ o673 (N_ o450 (L_ o675) (L_ o502)) (N_ o298 (L_ o435) Z_)))) (N_ o60 (N_ o79 (N_ o545 (N_ o188 (L_ o675) (L_ o462)) (N_ o255 (L_ o392) (L_ o675))) (N_ o675 (N_ o673 (L_ o357) (L_ o673)) (N_ o290 (L_ o427) Z_))) (N_ o98 (N_ o136 (N_ o204 (L_ o341) (L_ o478)) (N_ o274 (L_ o675) Z_)) (N_ o170 (N_ o675 (L_ o376) (L_ o512)) (N_ o306 (L_ o443) Z_))))) (N_ o506 (N_ o56 (N_ o545 (N_ o113 (N_ o675 (L_ o321) (L_ o675)) (N_ o673 (L_ o388) (L_ o675))) (N_ o675 (N_ o216 (L_ o675) (L_ o490)) Y2)) (N_ o94 (N_ o673 (N_ o200 (L_ o673) (L_ o474)) (N_ o267 (L_ o407) (L_ o540))) (N_ o164 (N_ o232 (L_ o675) (L_ o673)) (N_ o302 (L_ o675) Z_)))) (N_ o64 (N_ o83 (N_ o124 Y1 (N_ o259 (L_ o396) (L_ o532))) (N_ o156 (N_ o224 (L_ o361) (L_ o498)) (N_ o673 (L_ o431) Z_))) (N_ o545 (N_ o140 (N_ o675 (L_ o345) (L_ o675)) (N_ o278 (L_ o675) Z_)) (N_ o174 (N_ o675 (L_ o673) (L_ o516)) (N_ o310 (L_ o447) Z_)))))) (N_ W.boot_o_6 (N_ W.boot_o_10 (N_ o675 (N_ o70 (N_ o675 (N_ o182 (L_ o319) (L_ o456)) (N_ o249 (L_ o675) (L_ o673))) (N_ o673 (N_ o214 (L_ o673) (L_ o488)) (N_ o284 (L_ o421) Z_))) (N_ o675 (N_ o130 (N_ o675 (L_ o335) (L_ o675)) (N_ o265 (L_ o405) (L_ o675))) (N_ o675 (N_ o230 (L_ o370) (L_ o504)) Y2))) (N_ o673 (N_ o675 (N_ o675 (N_ o190 (L_ o327) (L_ o464)) (N_ o675 (L_ o394) (L_ o530))) (N_ o154 (N_ o675 (L_ o359) (L_ o675)) (N_ o292 (L_ o675) Z_))) (N_ o100 (N_ o675 Y1 (N_ o276 (L_ o413) Z_)) (N_ o172 (N_ o241 (L_ o378) (L_ o675)) (N_ o308 (L_ o445) Z_))))) (N_ o46 (N_ o58 (N_ o675 (N_ o115 (N_ o186 (L_ o673) (L_ o460)) (N_ o675 (L_ o390) (L_ o526))) (N_ o150 (N_ o218 (L_ o355) (L_ o492)) (N_ o288 (L_ o675) Z_))) (N_ o675 (N_ o675 (N_ o202 (L_ o675) (L_ o476)) (N_ o451 (L_ o673) Z_)) (N_ o675 (N_ o545 (L_ o374) (L_ o675)) (N_ o304 (L_ o441) Z_)))) (N_ o66 (N_ o85 (N_ o675 (N_ o675 (L_ o331) (L_ o675)) (N_ o261 (L_ o451) (L_ o534))) (N_ o158 (N_ o675 (L_ o545) (L_ o500)) (N_ o675 (L_ o433) Z_))) (N_ o675 (N_ o142 (N_ o210 (L_ o347) (L_ o484)) (N_ o673 (L_ o417) Z_)) (N_ o545 (N_ o245 (L_ o675) (L_ o518)) (N_ o451 (L_ o545) Z_)))))))
def h_sts_269 : (@List @Stmt) := [My.top 17, My.top 18, My.top 19, My.top 20, My.top 21, My.top 22, My.top 23, My.top 24, My.top 25, My.top 26, My.top 27]
def h_tree_268 := N_ W.boot_o_0 (N_ W.boot_o_1 (N_ o233 (N_ W.boot_o_7 (N_ o675 (N_ o118 (N_ o673 (L_ o179) (L_ o675)) (N_ o143 (L_ o211) Z_)) (N_ o119 (N_ o127 (L_ o195) (L_ o262)) (N_ o675 (L_ o227) Z_))) (N_ o545 (N_ o673 (N_ o119 (L_ o675) (L_ o254)) (N_ o151 (L_ o675) Z_)) (N_ o97 (N_ o135 (L_ o203) Z_) (N_ o673 (L_ o238) Z_)))) (N_ o675 (N_ o55 (N_ o119 (N_ o112 (L_ o183) (L_ o675)) (N_ o147 (L_ o675) Z_)) (N_ o673 (N_ o675 (L_ o673) (L_ o266)) (N_ o163 (L_ o231) Z_))) (N_ o63 (N_ o82 Y1 (N_ o675 (L_ o223) Z_)) (N_ o119 (N_ o673 (L_ o207) Z_) (N_ o173 (L_ o242) Z_))))) (N_ W.boot_o_5 (N_ W.boot_o_9 (N_ o53 (N_ o69 (N_ o110 (L_ o181) (L_ o248)) Y2) (N_ o91 (N_ o129 (L_ o197) (L_ o264)) (N_ o161 (L_ o229) Z_))) (N_ o675 (N_ o80 (N_ o121 (L_ o189) (L_ o256)) (N_ o673 (L_ o221) Z_)) (N_ o99 (N_ o137 (L_ o675) Z_) (N_ o675 (L_ o240) Z_)))) (N_ o45 (N_ o57 (N_ o76 (N_ o114 (L_ o673) (L_ o252)) (N_ o149 (L_ o217) Z_)) (N_ o95 (N_ o133 (L_ o675) (L_ o268)) (N_ o165 (L_ o451) Z_))) (N_ o675 (N_ o84 (N_ o125 (L_ o193) (L_ o675)) (N_ o157 (L_ o225) Z_)) (N_ o106 (N_ o675 (L_ o209) Z_) Y2))))) (N_ W.boot_o_2 (N_ W.boot_o_4 (N_ W.boot_o_8 (N_ o673 (N_ o68 (N_ o109 (L_ o675) (L_ o247)) (N_ o144 (L_ o675) Z_)) (N_ o545 (N_ o128 (L_ o196) (L_ o263)) (N_ o673 (L_ o235) Z_))) (N_ o60 (N_ o79 (N_ o545 (L_ o188) (L_ o255)) Y2) (N_ o98 (N_ o136 (L_ o204) Z_) (N_ o170 (L_ o675) Z_)))) (N_ o234 (N_ o56 (N_ o545 (N_ o113 (L_ o675) (L_ o673)) (N_ o675 (L_ o216) Z_)) (N_ o94 (N_ o673 (L_ o200) (L_ o267)) (N_ o164 (L_ o232) Z_))) (N_ o64 (N_ o83 (N_ o124 (L_ o673) (L_ o259)) (N_ o156 (L_ o224) Z_)) (N_ o545 (N_ o140 (L_ o675) Z_) (N_ o174 (L_ o675) Z_))))) (N_ W.boot_o_6 (N_ W.boot_o_10 (N_ o675 (N_ o70 (N_ o675 (L_ o182) (L_ o249)) (N_ o673 (L_ o214) Z_)) (N_ o675 (N_ o130 (L_ o675) (L_ o265)) (N_ o675 (L_ o230) Z_))) (N_ o673 (N_ o675 (N_ o675 (L_ o190) (L_ o675)) (N_ o154 (L_ o675) Z_)) (N_ o100 Y2 (N_ o172 (L_ o241) Z_)))) (N_ o46 (N_ o58 (N_ o675 (N_ o115 (L_ o186) (L_ o675)) (N_ o150 (L_ o218) Z_)) (N_ o675 (N_ o675 (L_ o202) Z_) (N_ o675 (L_ o545) Z_))) (N_ o66 (N_ o85 (N_ o675 (L_ o675) (L_ o261)) (N_ o158 (L_ o675) Z_)) (N_ o675 (N_ o142 (L_ o210) Z_) (N_ o545 (L_ o245) Z_))))))
def h_sts_49 : (@List @Stmt) := [My.top 0, My.top 1, My.top 2, My.top 3, My.top 4, My.top 5, My.top 6, My.top 7, My.top 8, My.top 9, My.top 10, My.top 11, My.top 12, My.top 13, My.top 14, My.top 15, My.top 16]
def h_tree_47 := N_ W.boot_o_0 (N_ W.boot_o_1 (N_ W.boot_o_3 (L_ W.boot_o_7) (L_ o675)) (N_ W.boot_o_5 (L_ W.boot_o_9) (L_ o45))) (N_ W.boot_o_2 (N_ W.boot_o_4 (L_ W.boot_o_8) (L_ o673)) (N_ W.boot_o_6 (L_ W.boot_o_10) (L_ o46)))
def h_heap_46 : ((x : @Params) → @Heap) := (fun x => (@Heap.mk (@Array.mk @Obj [(@W.boot_o_0 x), (@W.boot_o_1 x), (@W.boot_o_2 x), (@W.boot_o_3 x), (@W.boot_o_4 x), (@W.boot_o_5 x), (@W.boot_o_6 x), (@W.boot_o_7 x), (@W.boot_o_8 x), (@W.boot_o_9 x), (@W.boot_o_10 x), (o675 x), (o673 x), (o45 x), (o46 x)]) (@Life.mk [] [] [] 0 (@List.nil (@Prod @Nat @Nat)) [] @Bool.false #[] [] 0 @Bool.false @Bool.false @Bool.false (0 : Int) [(2000 : Int), (10 : Int), (10 : Int)] @Bool.false 0 @Bool.true [] [] 0 @Bool.false)))
abbrev k3 := (@Life.mk [] [] [] 0 (@List.nil (@Prod @Nat @Nat)) [] @Bool.false #[] [] 0 @Bool.false @Bool.false @Bool.false (0 : Int) [(2000 : Int), (10 : Int), (10 : Int)] @Bool.false 0 @Bool.true [] [] 0 @Bool.false)
abbrev S_ (t : Params → W.BT) (n k : Nat) (w : World) (o : OsState) : W.SharedT := W.SharedT.mk (t w.params) n k3 g_ d_ k o
abbrev k0 (x0 : World) (x1 : OsState) := (@Shared.mk (@h_heap_679 x0.params) g_ d_ 959 x1)
abbrev k1 := (@Prod (@Prod (@List (@Option @FnShape)) @Bool) (@Prod (@List (@Option @PyProof.Rows.PlainShape)) (@Prod (@List (@Option (@Prod @PyProof.Rows.PlainShape @Bool))) (@Prod (@Prod (@List (@Option @FnShape)) @Bool) (@List (@Prod (@Option (@Prod (@List (@Option @FnShape)) @Bool)) (@Option (@Prod @PyProof.Rows.PlainShape @Bool))))))))
abbrev k2 := (@W.OpenRow.toRowW (@W.OpenLaw.row @Challenge.rw_oddbases_k46_machine_rows))
abbrev k4 (x0 : World) (x1 : OsState) := (@ite @Bool (@Eq @Bool @Bool.true @Bool.true) (@instDecidableEqBool @Bool.true @Bool.true) (@BEq.beq @Nat (@instBEqOfDecidableEq @Nat @instDecidableEqNat) (@Array.size @GenState (@Shared.gens (k0 x0 x1))) 0) (@Bool.not (@leftWithCleanup (@Shared.gens (k0 x0 x1)))))
abbrev k5 := (@Bool.true, ((@pinGoodD (@PyProof.Rows.drecsOf @h_view_39)), ((@PyProof.Rows.plainGoodE @h_view_39 (@W.looseW @h_view_39 [])), ((@PyProof.Rows.plainGoodD @h_view_39 []), ((@W.wideGood @h_view_39), (@W.clsGoodW @h_view_39 []))))))
abbrev k6 := (@List (@Prod (@Option (@Prod (@List (@Option @FnShape)) @Bool)) (@Option (@Prod @PyProof.Rows.PlainShape @Bool))))
abbrev k7 (x0 : World) (x1 : OsState) := (@Bool.and (@Bool.and (@Bool.and (@W.staticsOk (@importedModules (@Module.body (@Program.main (k2).1))) (@W.boot_heap x0.params) (@h_heap_679 x0.params)) (@W.namesBound (k2).1 (@h_heap_679 x0.params))) (@W.gensDone (k0 x0 x1))) (@W.laidKept (@W.boot_heap x0.params) (@h_heap_679 x0.params)))
abbrev k8 := (@Code.body (@W.behindTheImports (k2).1) @h_env_41)
abbrev k9 := (@Prod (@Prod (@Option @Str) (@List (@Prod @Str @Value))) (@Prod @Bool (@Prod @Bool k1)))
abbrev k10 (x0 : World) (x1 : OsState) := (@PyProof.Rows.plainSeenE @h_view_39 (@W.looseW @h_view_39 []) (k0 x0 x1))
abbrev k11 := (@Eq.refl (@List @Addr) My.myAs)
abbrev k12 := (@importedModules (@Module.body (@Program.main (k2).1)))
abbrev k13 (x0 : World) (x1 : OsState) := (@pinSeenD @h_view_39 (@PyProof.Rows.drecsOf @h_view_39) (k0 x0 x1))
abbrev k14 (x0 : World) (x1 : OsState) := (@PyProof.Rows.plainSeenD @h_view_39 [] (k0 x0 x1))
abbrev k15 := (@Prod (@List (@Option @FnShape)) @Bool)
abbrev k16 (x0 : World) (x1 : OsState) := (@W.clsSeenW @h_view_39 [] (k0 x0 x1))
abbrev k17 := (@List.nil (@Prod @Str @W.WData))
abbrev k18 (x0 : World) (x1 : OsState) := (@W.wideSeen @h_view_39 (k0 x0 x1))
abbrev k19 := (@List (@Option (@Prod @PyProof.Rows.PlainShape @Bool)))
abbrev k20 := (@PyProof.Rows.plainGoodE @h_view_39 (@W.looseW @h_view_39 []))
abbrev k21 (x0 : World) (x1 : OsState) := (S_ h_tree_268 214 444 x0 x1)
abbrev k22 (x0 : World) (x1 : OsState) := (S_ h_tree_541 470 769 x0 x1)
abbrev k23 := (@PyProof.Rows.clssOf @h_view_39 (@W.looseW @h_view_39 []))
abbrev k24 := (@Nat.add 12 (@Nat.add 1 (@Nat.add 1977 (@Nat.add 1980 (@Nat.add 750 2)))))
abbrev k25 (x0 : World) (x1 : OsState) := (S_ h_tree_47 15 187 x0 x1)
abbrev k26 := (@Prod @Flow (@Prod @W.SharedT (@Prod @Code @Pos)))
abbrev k27 (x0 : World) (x1 : OsState) := (@Shared.mk (@h_heap_46 x0.params) g_ d_ 187 x1)
abbrev k28 (x0 : World) (x1 : OsState) := (@PyProof.Rows.tablesOk @h_view_39 (@Shared.heap (k0 x0 x1)))
abbrev k29 (x0 : World) (x1 : OsState) := (@PyProof.Rows.tabsOk @h_view_39 (k0 x0 x1))
abbrev k30 := (@PyProof.Rows.plainGoodD @h_view_39 [])
abbrev k31 (x0 : World) (x1 : OsState) := (@Heap.accountedOkI (@Shared.heap (k0 x0 x1)) k12)
abbrev k32 (x0 : World) (x1 : OsState) := (S_ h_tree_678 603 959 x0 x1)
abbrev k33 (x0 : World) (x1 : OsState) := (@Heap.isNs (@Shared.heap (k0 x0 x1)) @mainGlobals)
abbrev k34 (x0 : World) (x1 : OsState) := (@Heap.isNs (@Shared.heap (k0 x0 x1)) @builtinsNs)
abbrev k35 (x0 : World) (x1 : OsState) := (@Shared.mk (@W.boot_heap x0.params) g_ @W.boot_drawn @W.boot_toks x1)
abbrev k36 := (@Thread.mk (@denote @treeTable k8) k8 (P_ 0 0 0 0) [(@W.topFrame (P_ 0 0 0 0))])
abbrev k37 := (@Prod @Flow (@Prod @Shared (@Prod @Code @Pos)))
abbrev kh0 := (@W.kHook @h_heap_39 My.myAs (fun x0 => (@id (@Eq (@List @Addr) My.myAs (@List.map (@Prod @Addr @Obj) @Addr (fun (x1 : (@Prod @Addr @Obj)) => (@Prod.fst @Addr @Obj x1)) (@h_heap_39 x0))) k11)))
theorem pf_714 : ((x0 : World) → (@Eq ((x1 : OsState) → (@W.Hook.α kh0)) (fun x1 => (@W.Hook.obs kh0 (k0 x0 x1))) (fun x1 => (@W.Hook.val kh0 x0)))) := by intros; kernel_rfl
theorem pf_704 : ((x0 : World) → (@Eq ((x1 : OsState) → k6) (fun x1 => (k16 x0 x1)) (fun x1 => (@W.clsGoodW @h_view_39 [])))) := by intros; kernel_rfl
theorem pf_702 : ((x0 : World) → (@Eq ((x1 : OsState) → k15) (fun x1 => (k18 x0 x1)) (fun x1 => (@W.wideGood @h_view_39)))) := by intros; kernel_rfl
theorem pf_705 : ((x0 : World) → ((x1 : OsState) → (@Eq (@Prod k15 k6) ((k18 x0 x1), (k16 x0 x1)) ((@W.wideGood @h_view_39), (@W.clsGoodW @h_view_39 []))))) := (fun x0 => (fun x1 => (@W.looks_pair k15 k6 (k18 x0 x1) (@W.wideGood @h_view_39) (k16 x0 x1) (@W.clsGoodW @h_view_39 []) ((fun x2 => (fun x3 => (congrFun (My.pf_702 x2) x3))) x0 x1) ((fun x2 => (fun x3 => (congrFun (My.pf_704 x2) x3))) x0 x1))))
theorem pf_700 : ((x0 : World) → (@Eq ((x1 : OsState) → k19) (fun x1 => (k14 x0 x1)) (fun x1 => k30))) := by intros; kernel_rfl
theorem pf_706 : ((x0 : World) → ((x1 : OsState) → (@Eq (@Prod k19 (@Prod k15 k6)) ((k14 x0 x1), ((k18 x0 x1), (k16 x0 x1))) (k30, ((@W.wideGood @h_view_39), (@W.clsGoodW @h_view_39 [])))))) := (fun x0 => (fun x1 => (@W.looks_pair k19 (@Prod k15 k6) (k14 x0 x1) k30 ((k18 x0 x1), (k16 x0 x1)) ((@W.wideGood @h_view_39), (@W.clsGoodW @h_view_39 [])) ((fun x2 => (fun x3 => (congrFun (My.pf_700 x2) x3))) x0 x1) (@My.pf_705 x0 x1))))
theorem pf_698 : ((x0 : World) → (@Eq ((x1 : OsState) → (@List (@Option @PyProof.Rows.PlainShape))) (fun x1 => (k10 x0 x1)) (fun x1 => k20))) := by intros; kernel_rfl
theorem pf_707 : ((x0 : World) → ((x1 : OsState) → (@Eq (@Prod (@List (@Option @PyProof.Rows.PlainShape)) (@Prod k19 (@Prod k15 k6))) ((k10 x0 x1), ((k14 x0 x1), ((k18 x0 x1), (k16 x0 x1)))) (k20, (k30, ((@W.wideGood @h_view_39), (@W.clsGoodW @h_view_39 []))))))) := (fun x0 => (fun x1 => (@W.looks_pair (@List (@Option @PyProof.Rows.PlainShape)) (@Prod k19 (@Prod k15 k6)) (k10 x0 x1) k20 ((k14 x0 x1), ((k18 x0 x1), (k16 x0 x1))) (k30, ((@W.wideGood @h_view_39), (@W.clsGoodW @h_view_39 []))) ((fun x2 => (fun x3 => (congrFun (My.pf_698 x2) x3))) x0 x1) (@My.pf_706 x0 x1))))
theorem pf_696 : ((x0 : World) → (@Eq ((x1 : OsState) → k15) (fun x1 => (k13 x0 x1)) (fun x1 => (@pinGoodD (@PyProof.Rows.drecsOf @h_view_39))))) := by intros; kernel_rfl
theorem pf_708 : ((x0 : World) → ((x1 : OsState) → (@Eq k1 ((k13 x0 x1), ((k10 x0 x1), ((k14 x0 x1), ((k18 x0 x1), (k16 x0 x1))))) ((@pinGoodD (@PyProof.Rows.drecsOf @h_view_39)), (k20, (k30, ((@W.wideGood @h_view_39), (@W.clsGoodW @h_view_39 [])))))))) := (fun x0 => (fun x1 => (@W.looks_pair k15 (@Prod (@List (@Option @PyProof.Rows.PlainShape)) (@Prod k19 (@Prod k15 k6))) (k13 x0 x1) (@pinGoodD (@PyProof.Rows.drecsOf @h_view_39)) ((k10 x0 x1), ((k14 x0 x1), ((k18 x0 x1), (k16 x0 x1)))) (k20, (k30, ((@W.wideGood @h_view_39), (@W.clsGoodW @h_view_39 [])))) ((fun x2 => (fun x3 => (congrFun (My.pf_696 x2) x3))) x0 x1) (@My.pf_707 x0 x1))))
theorem pf_694 : ((x0 : World) → (@Eq ((x1 : OsState) → @Bool) (fun x1 => (k29 x0 x1)) (fun x1 => @Bool.true))) := by intros; kernel_rfl
theorem pf_709 : ((x0 : World) → ((x1 : OsState) → (@Eq (@Prod @Bool k1) ((k29 x0 x1), ((k13 x0 x1), ((k10 x0 x1), ((k14 x0 x1), ((k18 x0 x1), (k16 x0 x1)))))) k5))) := (fun x0 => (fun x1 => (@W.looks_pair @Bool k1 (k29 x0 x1) @Bool.true ((k13 x0 x1), ((k10 x0 x1), ((k14 x0 x1), ((k18 x0 x1), (k16 x0 x1))))) ((@pinGoodD (@PyProof.Rows.drecsOf @h_view_39)), (k20, (k30, ((@W.wideGood @h_view_39), (@W.clsGoodW @h_view_39 []))))) ((fun x2 => (fun x3 => (congrFun (My.pf_694 x2) x3))) x0 x1) (@My.pf_708 x0 x1))))
theorem pf_692 : ((x0 : World) → (@Eq ((x1 : OsState) → @Bool) (fun x1 => (@Bool.and (@Bool.and (@Bool.and (@Bool.and (@Bool.and (@Bool.and (@Heap.keysOk (@Shared.heap (k0 x0 x1)) (@W.looseW @h_view_39 []) (@List.map @DefRec @Str (fun (x2 : @DefRec) => (@DefRec.name x2)) (@PyProof.Rows.recsOf @h_view_39)) (@List.map (@Prod @Str @PyData) @Str (fun (x2 : (@Prod @Str @PyData)) => (@Prod.fst @Str @PyData x2)) (@PyProof.Rows.litsOf @h_view_39)) (@List.map @ClsRec @Str (fun (x2 : @ClsRec) => (@ClsRec.name x2)) k23)) (k31 x0 x1)) (k33 x0 x1)) (k34 x0 x1)) (k28 x0 x1)) ((fun (x2 : @Shared) => (@Bool.and (@W.xlAt @h_view_39 k17 x2) (@W.recOk (@W.RowW.records k2) x2))) (k0 x0 x1))) (k4 x0 x1))) (fun x1 => @Bool.true))) := by intros; kernel_rfl
theorem pf_710 : ((x0 : World) → ((x1 : OsState) → (@Eq (@Prod @Bool (@Prod @Bool k1)) ((@Bool.and (@Bool.and (@Bool.and (@Bool.and (@Bool.and (@Bool.and (@Heap.keysOk (@Shared.heap (k0 x0 x1)) (@W.looseW @h_view_39 []) (@List.map @DefRec @Str (fun (x2 : @DefRec) => (@DefRec.name x2)) (@PyProof.Rows.recsOf @h_view_39)) (@List.map (@Prod @Str @PyData) @Str (fun (x2 : (@Prod @Str @PyData)) => (@Prod.fst @Str @PyData x2)) (@PyProof.Rows.litsOf @h_view_39)) (@List.map @ClsRec @Str (fun (x2 : @ClsRec) => (@ClsRec.name x2)) k23)) (k31 x0 x1)) (k33 x0 x1)) (k34 x0 x1)) (k28 x0 x1)) ((fun (x2 : @Shared) => (@Bool.and (@W.xlAt @h_view_39 k17 x2) (@W.recOk (@W.RowW.records k2) x2))) (k0 x0 x1))) (k4 x0 x1)), ((k29 x0 x1), ((k13 x0 x1), ((k10 x0 x1), ((k14 x0 x1), ((k18 x0 x1), (k16 x0 x1))))))) (@Bool.true, k5)))) := (fun x0 => (fun x1 => (@W.looks_pair @Bool (@Prod @Bool k1) (@Bool.and (@Bool.and (@Bool.and (@Bool.and (@Bool.and (@Bool.and (@Heap.keysOk (@Shared.heap (k0 x0 x1)) (@W.looseW @h_view_39 []) (@List.map @DefRec @Str (fun (x2 : @DefRec) => (@DefRec.name x2)) (@PyProof.Rows.recsOf @h_view_39)) (@List.map (@Prod @Str @PyData) @Str (fun (x2 : (@Prod @Str @PyData)) => (@Prod.fst @Str @PyData x2)) (@PyProof.Rows.litsOf @h_view_39)) (@List.map @ClsRec @Str (fun (x2 : @ClsRec) => (@ClsRec.name x2)) k23)) (k31 x0 x1)) (k33 x0 x1)) (k34 x0 x1)) (k28 x0 x1)) ((fun (x2 : @Shared) => (@Bool.and (@W.xlAt @h_view_39 k17 x2) (@W.recOk (@W.RowW.records k2) x2))) (k0 x0 x1))) (k4 x0 x1)) @Bool.true ((k29 x0 x1), ((k13 x0 x1), ((k10 x0 x1), ((k14 x0 x1), ((k18 x0 x1), (k16 x0 x1)))))) k5 ((fun x2 => (fun x3 => (congrFun (My.pf_692 x2) x3))) x0 x1) (@My.pf_709 x0 x1))))
theorem pf_690 : ((x0 : World) → (@Eq ((x1 : OsState) → (@Prod (@Option @Str) (@List (@Prod @Str @Value)))) (fun x1 => (@Heap.bltView (@Shared.heap (k0 x0 x1)))) (fun x1 => @bltViewBooted))) := by intros; kernel_rfl
theorem pf_711 : ((x0 : World) → ((x1 : OsState) → (@Eq k9 ((@Heap.bltView (@Shared.heap (k0 x0 x1))), ((@Bool.and (@Bool.and (@Bool.and (@Bool.and (@Bool.and (@Bool.and (@Heap.keysOk (@Shared.heap (k0 x0 x1)) (@W.looseW @h_view_39 []) (@List.map @DefRec @Str (fun (x2 : @DefRec) => (@DefRec.name x2)) (@PyProof.Rows.recsOf @h_view_39)) (@List.map (@Prod @Str @PyData) @Str (fun (x2 : (@Prod @Str @PyData)) => (@Prod.fst @Str @PyData x2)) (@PyProof.Rows.litsOf @h_view_39)) (@List.map @ClsRec @Str (fun (x2 : @ClsRec) => (@ClsRec.name x2)) k23)) (k31 x0 x1)) (k33 x0 x1)) (k34 x0 x1)) (k28 x0 x1)) ((fun (x2 : @Shared) => (@Bool.and (@W.xlAt @h_view_39 k17 x2) (@W.recOk (@W.RowW.records k2) x2))) (k0 x0 x1))) (k4 x0 x1)), ((k29 x0 x1), ((k13 x0 x1), ((k10 x0 x1), ((k14 x0 x1), ((k18 x0 x1), (k16 x0 x1)))))))) (@bltViewBooted, (@Bool.true, k5))))) := (fun x0 => (fun x1 => (@W.looks_pair (@Prod (@Option @Str) (@List (@Prod @Str @Value))) (@Prod @Bool (@Prod @Bool k1)) (@Heap.bltView (@Shared.heap (k0 x0 x1))) @bltViewBooted ((@Bool.and (@Bool.and (@Bool.and (@Bool.and (@Bool.and (@Bool.and (@Heap.keysOk (@Shared.heap (k0 x0 x1)) (@W.looseW @h_view_39 []) (@List.map @DefRec @Str (fun (x2 : @DefRec) => (@DefRec.name x2)) (@PyProof.Rows.recsOf @h_view_39)) (@List.map (@Prod @Str @PyData) @Str (fun (x2 : (@Prod @Str @PyData)) => (@Prod.fst @Str @PyData x2)) (@PyProof.Rows.litsOf @h_view_39)) (@List.map @ClsRec @Str (fun (x2 : @ClsRec) => (@ClsRec.name x2)) k23)) (k31 x0 x1)) (k33 x0 x1)) (k34 x0 x1)) (k28 x0 x1)) ((fun (x2 : @Shared) => (@Bool.and (@W.xlAt @h_view_39 k17 x2) (@W.recOk (@W.RowW.records k2) x2))) (k0 x0 x1))) (k4 x0 x1)), ((k29 x0 x1), ((k13 x0 x1), ((k10 x0 x1), ((k14 x0 x1), ((k18 x0 x1), (k16 x0 x1))))))) (@Bool.true, k5) ((fun x2 => (fun x3 => (congrFun (My.pf_690 x2) x3))) x0 x1) (@My.pf_710 x0 x1))))
theorem pf_688 : ((x0 : World) → (@Eq ((x1 : OsState) → @PyProof.Rows.Seen) (fun x1 => (@PyProof.Rows.seen (@List.map @DefRec @Str (fun (x2 : @DefRec) => (@DefRec.name x2)) (@PyProof.Rows.recsOf @h_view_39)) (@PyProof.Rows.ownsOf @h_view_39) [] (@Shared.mk (@Shared.heap (k0 x0 x1)) #[] (@Shared.drawn (k0 x0 x1)) (@Shared.toks (k0 x0 x1)) (@Shared.os (k0 x0 x1))))) (fun x1 => (@PyProof.Rows.expectedOf @h_view_39)))) := by intros; kernel_rfl
theorem pf_712 : ((x0 : World) → ((x1 : OsState) → (@Eq (@Prod @PyProof.Rows.Seen k9) (@W.openSeen @h_view_39 [] k12 (fun (x2 : @Shared) => (@Bool.and (@W.xlAt @h_view_39 k17 x2) (@W.recOk (@W.RowW.records k2) x2))) @Bool.true (k0 x0 x1)) (@W.openGood @h_view_39 [])))) := (fun x0 => (fun x1 => (@W.looks_pair @PyProof.Rows.Seen k9 (@PyProof.Rows.seen (@List.map @DefRec @Str (fun (x2 : @DefRec) => (@DefRec.name x2)) (@PyProof.Rows.recsOf @h_view_39)) (@PyProof.Rows.ownsOf @h_view_39) [] (@Shared.mk (@Shared.heap (k0 x0 x1)) #[] (@Shared.drawn (k0 x0 x1)) (@Shared.toks (k0 x0 x1)) (@Shared.os (k0 x0 x1)))) (@PyProof.Rows.expectedOf @h_view_39) ((@Heap.bltView (@Shared.heap (k0 x0 x1))), ((@Bool.and (@Bool.and (@Bool.and (@Bool.and (@Bool.and (@Bool.and (@Heap.keysOk (@Shared.heap (k0 x0 x1)) (@W.looseW @h_view_39 []) (@List.map @DefRec @Str (fun (x2 : @DefRec) => (@DefRec.name x2)) (@PyProof.Rows.recsOf @h_view_39)) (@List.map (@Prod @Str @PyData) @Str (fun (x2 : (@Prod @Str @PyData)) => (@Prod.fst @Str @PyData x2)) (@PyProof.Rows.litsOf @h_view_39)) (@List.map @ClsRec @Str (fun (x2 : @ClsRec) => (@ClsRec.name x2)) k23)) (k31 x0 x1)) (k33 x0 x1)) (k34 x0 x1)) (k28 x0 x1)) ((fun (x2 : @Shared) => (@Bool.and (@W.xlAt @h_view_39 k17 x2) (@W.recOk (@W.RowW.records k2) x2))) (k0 x0 x1))) (k4 x0 x1)), ((k29 x0 x1), ((k13 x0 x1), ((k10 x0 x1), ((k14 x0 x1), ((k18 x0 x1), (k16 x0 x1)))))))) (@bltViewBooted, (@Bool.true, k5)) ((fun x2 => (fun x3 => (congrFun (My.pf_688 x2) x3))) x0 x1) (@My.pf_711 x0 x1))))
theorem pf_715 : ((x0 : World) → ((x1 : OsState) → (@Eq (@Prod (@Prod @PyProof.Rows.Seen k9) (@W.Hook.α kh0)) ((@W.openSeen @h_view_39 [] k12 (fun (x2 : @Shared) => (@Bool.and (@W.xlAt @h_view_39 k17 x2) (@W.recOk (@W.RowW.records k2) x2))) @Bool.true (k0 x0 x1)), (@W.Hook.obs kh0 (k0 x0 x1))) ((@W.openGood @h_view_39 []), (@W.Hook.val kh0 x0))))) := (fun x0 => (fun x1 => (@W.looks_pair (@Prod @PyProof.Rows.Seen k9) (@W.Hook.α kh0) (@W.openSeen @h_view_39 [] k12 (fun (x2 : @Shared) => (@Bool.and (@W.xlAt @h_view_39 k17 x2) (@W.recOk (@W.RowW.records k2) x2))) @Bool.true (k0 x0 x1)) (@W.openGood @h_view_39 []) (@W.Hook.obs kh0 (k0 x0 x1)) (@W.Hook.val kh0 x0) (@My.pf_712 x0 x1) ((fun x2 => (fun x3 => (congrFun (My.pf_714 x2) x3))) x0 x1))))
theorem pf_686 : ((x0 : World) → (@Eq ((x1 : OsState) → @Bool) (fun x1 => (k7 x0 x1)) (fun x1 => @Bool.true))) := by intros; kernel_rfl
theorem pf_716 : ((x0 : World) → ((x1 : OsState) → (@Eq (@Prod @Bool (@Prod (@Prod @PyProof.Rows.Seen k9) (@W.Hook.α kh0))) ((k7 x0 x1), ((@W.openSeen @h_view_39 [] k12 (fun (x2 : @Shared) => (@Bool.and (@W.xlAt @h_view_39 k17 x2) (@W.recOk (@W.RowW.records k2) x2))) @Bool.true (k0 x0 x1)), (@W.Hook.obs kh0 (k0 x0 x1)))) (@Bool.true, ((@W.openGood @h_view_39 []), (@W.Hook.val kh0 x0)))))) := (fun x0 => (fun x1 => (@W.looks_pair @Bool (@Prod (@Prod @PyProof.Rows.Seen k9) (@W.Hook.α kh0)) (k7 x0 x1) @Bool.true ((@W.openSeen @h_view_39 [] k12 (fun (x2 : @Shared) => (@Bool.and (@W.xlAt @h_view_39 k17 x2) (@W.recOk (@W.RowW.records k2) x2))) @Bool.true (k0 x0 x1)), (@W.Hook.obs kh0 (k0 x0 x1))) ((@W.openGood @h_view_39 []), (@W.Hook.val kh0 x0)) ((fun x2 => (fun x3 => (congrFun (My.pf_686 x2) x3))) x0 x1) (@My.pf_715 x0 x1))))
theorem pf_681 : ((x0 : World) → (@Eq ((x1 : OsState) → (@Option @Shared)) (fun x1 => (@W.topRun @treeTable (k2).1 x0 11 v_ 2 (@W.SharedT.abs (k32 x0 x1)) (@Thread.mk (@W.doneF @Flow.next) k8 (P_ 293 0 303 81) [(@W.topFrame (P_ 0 0 0 0))]))) (fun x1 => (@some @Shared (k0 x0 x1))))) := by intros; kernel_rfl
theorem pf_49 : ((x0 : World) → (@Eq ((x1 : OsState) → (@Option k37)) (fun x1 => (@W.segRun @treeTable (k2).1 x0 11 v_ 1 1 (k27 x0 x1) (@W.blockOf (@W.behindTheImports (k2).1) @h_env_41 k8 (P_ 0 0 0 0) [(@W.topFrame (P_ 0 0 0 0))]))) (fun x1 => (@some k37 (@Flow.next, ((@W.SharedT.abs (k25 x0 x1)), (k8, (P_ 0 0 0 0)))))))) := by intros; kernel_rfl
theorem pf_47 : ((x0 : World) → (@Eq ((x1 : OsState) → (@Option (@Prod @Shared @Thread))) (fun x1 => (@W.topGo @treeTable (k2).1 x0 11 v_ 12 (k35 x0 x1) (@W.topStub (k2).1))) (fun x1 => (@some (@Prod @Shared @Thread) ((k27 x0 x1), k36))))) := by intros; kernel_rfl
theorem pf_269 : ((x0 : World) → (@Eq ((x1 : OsState) → (@Option k26)) (fun x1 => (@W.segRunT @treeTable (k2).1 x0 11 v_ 1 1977 (k25 x0 x1) (@W.piecesOf @h_sts_49 @h_env_41 k8 (P_ 0 0 0 0) [(@W.topFrame (P_ 0 0 0 0))]))) (fun x1 => (@some k26 (@Flow.next, ((k21 x0 x1), (k8, (P_ 63 0 72 24)))))))) := by intros; kernel_rfl
theorem pf_542 : ((x0 : World) → (@Eq ((x1 : OsState) → (@Option k26)) (fun x1 => (@W.segRunT @treeTable (k2).1 x0 11 v_ 1 1980 (k21 x0 x1) (@W.piecesOf @h_sts_269 @h_env_41 k8 (P_ 63 0 72 24) [(@W.topFrame (P_ 0 0 0 0))]))) (fun x1 => (@some k26 (@Flow.next, ((k22 x0 x1), (k8, (P_ 178 0 182 16)))))))) := by intros; kernel_rfl
theorem pf_679 : ((x0 : World) → (@Eq ((x1 : OsState) → (@Option k26)) (fun x1 => (@W.segRunT @treeTable (k2).1 x0 11 v_ 1 750 (k22 x0 x1) (@W.piecesOf @h_sts_542 @h_env_41 k8 (P_ 178 0 182 16) [(@W.topFrame (P_ 0 0 0 0))]))) (fun x1 => (@some k26 (@Flow.next, ((k32 x0 x1), (k8, (P_ 293 0 303 81)))))))) := by intros; kernel_rfl
theorem pf_682 : ((x0 : World) → ((x1 : OsState) → (@Eq (@Option @Shared) (@W.topRun @treeTable (k2).1 x0 11 v_ k24 (k35 x0 x1) (@W.topStub (k2).1)) (@some @Shared (k0 x0 x1))))) := (fun x0 => (fun x1 => (@W.go_top @treeTable (k2).1 x0 11 v_ 12 (@Nat.add 1 (@Nat.add 1977 (@Nat.add 1980 (@Nat.add 750 2)))) (k35 x0 x1) (k27 x0 x1) (k0 x0 x1) (@W.topStub (k2).1) k36 (congrFun (My.pf_47 x0) x1) (@W.piece_block @treeTable (k2).1 x0 11 v_ @h_env_41 (P_ 0 0 0 0) 1 (@Nat.add 1977 (@Nat.add 1980 (@Nat.add 750 2))) (k27 x0 x1) (@W.SharedT.abs (k25 x0 x1)) (k0 x0 x1) (@W.behindTheImports (k2).1) k8 (P_ 0 0 0 0) (P_ 0 0 0 0) (congrFun (My.pf_49 x0) x1) (@W.piece_app @treeTable (k2).1 x0 11 v_ @h_env_41 (P_ 0 0 0 0) 1977 (@Nat.add 1980 (@Nat.add 750 2)) (@W.SharedT.abs (k25 x0 x1)) (@W.SharedT.abs (k21 x0 x1)) (k0 x0 x1) @h_sts_49 (@HAppend.hAppend (@List @Stmt) (@List @Stmt) (@List @Stmt) (@instHAppendOfAppend (@List @Stmt) (@List.instAppend @Stmt)) @h_sts_269 (@HAppend.hAppend (@List @Stmt) (@List @Stmt) (@List @Stmt) (@instHAppendOfAppend (@List @Stmt) (@List.instAppend @Stmt)) @h_sts_542 [])) k8 (P_ 0 0 0 0) (P_ 63 0 72 24) (My.sg_ (congrFun (My.pf_269 x0) x1)) (@W.piece_app @treeTable (k2).1 x0 11 v_ @h_env_41 (P_ 0 0 0 0) 1980 (@Nat.add 750 2) (@W.SharedT.abs (k21 x0 x1)) (@W.SharedT.abs (k22 x0 x1)) (k0 x0 x1) @h_sts_269 (@HAppend.hAppend (@List @Stmt) (@List @Stmt) (@List @Stmt) (@instHAppendOfAppend (@List @Stmt) (@List.instAppend @Stmt)) @h_sts_542 []) k8 (P_ 63 0 72 24) (P_ 178 0 182 16) (My.sg_ (congrFun (My.pf_542 x0) x1)) (@W.piece_app @treeTable (k2).1 x0 11 v_ @h_env_41 (P_ 0 0 0 0) 750 2 (@W.SharedT.abs (k22 x0 x1)) (@W.SharedT.abs (k32 x0 x1)) (k0 x0 x1) @h_sts_542 [] k8 (P_ 178 0 182 16) (P_ 293 0 303 81) (My.sg_ (congrFun (My.pf_679 x0) x1)) (congrFun (My.pf_681 x0) x1))))))))
theorem pf_684 : ((x0 : World) → (@Eq (@Prod @Bool (@Prod @Nat (@Option @Value))) ((@Bool.and (@Heap.isNs (@W.boot_heap x0.params) @mainGlobals) (@BEq.beq @Nat (@instBEqOfDecidableEq @Nat @instDecidableEqNat) (@Array.size @GenState g_) 0)), ((@Array.size @Obj (@Heap.objs (@W.boot_heap x0.params))), (@Heap.nsMap (@W.boot_heap x0.params) @mainGlobals (.ofString "__annotations__")))) (@Bool.true, (11, v_)))) := by intros; kernel_rfl
theorem pf_43 : ((x0 : @Shared) → (@Eq (@Option @Shared) (@fenceModules? (k2).1 x0) (@some @Shared x0))) := by intros; kernel_rfl
theorem pf_42 : (@Eq @Program (@W.opening (k2).1) (@W.plainProg (@Scope.names (@Module.scope (@Program.main (k2).1))))) := by intros; kernel_rfl
theorem left : (@W.LeftO (k2).1 @h_view_39 [] (fun (x0 : @Shared) => (@Bool.and (@W.xlAt @h_view_39 k17 x0) (@W.recOk (@W.RowW.records k2) x0))) (@W.Hook.α kh0) (@W.Hook.obs kh0) (@W.Hook.val kh0) 9508 @Bool.true) := (@W.LeftO.of_pieces (k2).1 @h_view_39 [] (fun (x0 : @Shared) => (@Bool.and (@W.xlAt @h_view_39 k17 x0) (@W.recOk (@W.RowW.records k2) x0))) (@W.Hook.α kh0) (@W.Hook.obs kh0) (@W.Hook.val kh0) 9508 @Bool.true @W.boot_heap @h_heap_679 g_ g_ @W.boot_drawn d_ @W.boot_toks 959 11 v_ k24 (@W.boot_open (k2).1 9508 @My.pf_42 (@of_decide_eq_true (@Eq @Bool (@Nat.ble 600 9508) @Bool.true) (@instDecidableEqBool (@Nat.ble 600 9508) @Bool.true) (@id (@Eq @Bool (@Decidable.decide (@Eq @Bool (@Nat.ble 600 9508) @Bool.true) (@instDecidableEqBool (@Nat.ble 600 9508) @Bool.true)) @Bool.true) (@Eq.refl @Bool @Bool.true))) @My.pf_43) @My.pf_684 @My.pf_682 (@of_decide_eq_true (@Eq @Bool (@Nat.ble k24 9508) @Bool.true) (@instDecidableEqBool (@Nat.ble k24 9508) @Bool.true) (@id (@Eq @Bool (@Decidable.decide (@Eq @Bool (@Nat.ble k24 9508) @Bool.true) (@instDecidableEqBool (@Nat.ble k24 9508) @Bool.true)) @Bool.true) (@Eq.refl @Bool @Bool.true))) (fun x0 => (@funext @OsState (fun x1 => (@Prod @Bool (@Prod (@Prod @PyProof.Rows.Seen k9) (@W.Hook.α kh0)))) (fun x1 => ((k7 x0 x1), ((@W.openSeen @h_view_39 [] k12 (fun (x2 : @Shared) => (@Bool.and (@W.xlAt @h_view_39 k17 x2) (@W.recOk (@W.RowW.records k2) x2))) @Bool.true (k0 x0 x1)), (@W.Hook.obs kh0 (k0 x0 x1))))) (fun x1 => (@Bool.true, ((@W.openGood @h_view_39 []), (@W.Hook.val kh0 x0)))) (fun x1 => (@My.pf_716 x0 x1)))))
end My
end
theorem My.myE : ∀ P, My.myAs = (My.h_heap_39 P).map (·.1) := fun _ => by kernel_rfl
set_option maxRecDepth 100000

set_option maxHeartbeats 4000000
namespace OD
open PySem PySem.Spec PyProof.Rows L2
abbrev St := L2.St
noncomputable def Zx (X : Cx) : Hp := if X.stack.length = X.outer.length ∨ X.fn "" = false then (fun _ => none) else X.H₀
theorem zx_def {CX : CXT} {P : Program} {w : World} {K : PySem.W.Frag} {mg : Str → Option Value} {base : Heap} {N : List Str} {qual : Str} {scope : Scope} {f : Addr} {cd : Value} {A : Around} {outer : List Env} {s : Shared} {H : Hp} {E : XK} : Zx (cxOf CX P w K mg base N qual scope f cd A outer s H E) = H := if_neg (fun z => z.elim (Nat.succ_ne_self _) (fun z => Bool.noConfusion z))
theorem zx_stk {X : Cx} (h : X.stack.length ≠ X.outer.length) (hf : X.fn "" = true := by rfl) : Zx X = X.H₀ := if_neg (fun z => z.elim h (fun z => by rw [hf] at z; cases z))
variable {Z : Hp}

structure DtP where
  is : Hp → V → Prop
  mono : ∀ {g g' : Hp} {v : V}, (∀ a o, g a = some o → g' a = some o) → is g v → is g' v
  ref : ∀ {g : Hp} {v : V}, is g v → ∃ a, v = .ref a
inductive Dt where
  | non | bl (b : Bool) | int (i : Int) | str (x : Str) | tup (ds : List Dt) | lst (ds : List Dt) | scr (ns : List Int) | way (C : Addr) (f : Str) (n : Int) | exc (C : Addr) | opq (φ : DtP)
def excAt (a C : Addr) : Heap → Prop := fun h => ∃ o, h.get? a = some o ∧ o.cls = .ref C

mutual
/-- the value v stands for the data in the heap H -/
def Is (K : PySem.W.Frag) (H : Hp) : Dt → V → Prop
  | .non, v => v = .non
  | .bl b, v => v = .bl b
  | .int i, v => v = .int i
  | .str x, v => v = .str x
  | .tup ds, v => ∃ a xs, v = .ref a ∧ H a = some (.tup xs) ∧ AllIs K H ds xs
  | .lst ds, v => ∃ a xs, v = .ref a ∧ H a = some (.lst xs) ∧ AllIs K H ds xs
  | .scr ns, v => ∃ a, v = .ref a ∧ SqL K H a (ns.map V.int)
  | .way C f n, v => ∃ a dx, v = .ref a ∧ H a = some (.ins C dx [(f, .int n)])
  | .exc C, v => ∃ a, v = .ref a ∧ H a = some (.ext (excAt a C))
  | .opq φ, v => φ.is H v
def AllIs (K : PySem.W.Frag) (H : Hp) : List Dt → List V → Prop
  | [], xs => xs = []
  | d :: ds, xs => ∃ x r, xs = x :: r ∧ Is K H d x ∧ AllIs K H ds r
end
variable {K : PySem.W.Frag} {H H' H1 H2 : Hp}
theorem is_non {v : V} : Is K H .non v ↔ v = .non := by unfold Is; exact Iff.rfl
theorem is_bl {b : Bool} {v : V} : Is K H (.bl b) v ↔ v = .bl b := by unfold Is; exact Iff.rfl
theorem is_int {i : Int} {v : V} : Is K H (.int i) v ↔ v = .int i := by unfold Is; exact Iff.rfl
theorem is_str {x : Str} {v : V} : Is K H (.str x) v ↔ v = .str x := by unfold Is; exact Iff.rfl
theorem is_tup {ds : List Dt} {v : V} : Is K H (.tup ds) v ↔ ∃ a xs, v = .ref a ∧ H a = some (.tup xs) ∧ AllIs K H ds xs := by
  constructor
  · intro h; unfold Is at h; exact h
  · intro h; unfold Is; exact h
theorem is_lst {ds : List Dt} {v : V} : Is K H (.lst ds) v ↔ ∃ a xs, v = .ref a ∧ H a = some (.lst xs) ∧ AllIs K H ds xs := by
  constructor
  · intro h; unfold Is at h; exact h
  · intro h; unfold Is; exact h
theorem is_scr {ns : List Int} {v : V} : Is K H (.scr ns) v ↔ ∃ a, v = .ref a ∧ SqL K H a (ns.map V.int) := by
  constructor
  · intro h; unfold Is at h; exact h
  · intro h; unfold Is; exact h
theorem is_way {C : Addr} {f : Str} {n : Int} {v : V} : Is K H (.way C f n) v ↔ ∃ a dx, v = .ref a ∧ H a = some (.ins C dx [(f, .int n)]) := by
  constructor
  · intro h; unfold Is at h; exact h
  · intro h; unfold Is; exact h
theorem is_exc {C : Addr} {v : V} : Is K H (.exc C) v ↔ ∃ a, v = .ref a ∧ H a = some (.ext (excAt a C)) := by
  constructor
  · intro h; unfold Is at h; exact h
  · intro h; unfold Is; exact h
theorem is_opq {φ : DtP} {v : V} : Is K H (.opq φ) v ↔ φ.is H v := by
  constructor
  · intro h; unfold Is at h; exact h
  · intro h; unfold Is; exact h
theorem allIs_nil {xs : List V} : AllIs K H [] xs ↔ xs = [] := by unfold AllIs; exact Iff.rfl
theorem allIs_cons {d : Dt} {ds : List Dt} {xs : List V} : AllIs K H (d :: ds) xs ↔ ∃ x r, xs = x :: r ∧ Is K H d x ∧ AllIs K H ds r := by
  constructor
  · intro h; unfold AllIs at h; exact h
  · intro h; unfold AllIs; exact h
mutual
theorem Is.mono0 (s : Same H H') : ∀ {d : Dt} {v : V}, Is K H d v → Is K H' d v
  | .non, _, h => is_non.mpr (is_non.mp h)
  | .bl _, _, h => is_bl.mpr (is_bl.mp h)
  | .int _, _, h => is_int.mpr (is_int.mp h)
  | .str _, _, h => is_str.mpr (is_str.mp h)
  | .tup ds, _, h => by
    obtain ⟨a, xs, e, h1, h2⟩ := is_tup.mp h
    exact is_tup.mpr ⟨a, xs, e, s _ _ h1, AllIs.mono0 s h2⟩
  | .lst ds, _, h => by
    obtain ⟨a, xs, e, h1, h2⟩ := is_lst.mp h
    exact is_lst.mpr ⟨a, xs, e, s _ _ h1, AllIs.mono0 s h2⟩
  | .scr ns, _, h => by
    obtain ⟨a, e, h1⟩ := is_scr.mp h
    exact is_scr.mpr ⟨a, e, s.seq h1⟩
  | .way C f n, _, h => by
    obtain ⟨a, dx, e, h1⟩ := is_way.mp h
    exact is_way.mpr ⟨a, dx, e, s _ _ h1⟩
  | .exc C, _, h => by
    obtain ⟨a, e, h1⟩ := is_exc.mp h
    exact is_exc.mpr ⟨a, e, s _ _ h1⟩
  | .opq φ, _, h => is_opq.mpr (φ.mono (fun a o q => s a o q) (is_opq.mp h))
theorem AllIs.mono0 (s : Same H H') : ∀ {ds : List Dt} {xs : List V}, AllIs K H ds xs → AllIs K H' ds xs
  | [], _, h => allIs_nil.mpr (allIs_nil.mp h)
  | d :: ds, _, h => by
    obtain ⟨x, r, e, h1, h2⟩ := allIs_cons.mp h
    exact allIs_cons.mpr ⟨x, r, e, Is.mono0 s h1, AllIs.mono0 s h2⟩
end
theorem AllIs.length : ∀ {ds : List Dt} {xs : List V}, AllIs K H ds xs → ds.length = xs.length
  | [], _, h => by rw [allIs_nil.mp h]; rfl
  | d :: ds, _, h => by
    obtain ⟨x, r, rfl, _, h2⟩ := allIs_cons.mp h
    rw [List.length_cons, List.length_cons, AllIs.length h2]
theorem AllIs.get : ∀ {ds : List Dt} {xs : List V} {i : Nat} {d : Dt}, AllIs K H ds xs → ds[i]? = some d → ∃ v, xs[i]? = some v ∧ Is K H d v
  | [], _, _, _, _, e => by simp at e
  | d :: ds, _, 0, d', h, e => by
    obtain ⟨x, r, rfl, h1, h2⟩ := allIs_cons.mp h
    simp at e; subst e
    exact ⟨x, rfl, h1⟩
  | d :: ds, _, i + 1, d', h, e => by
    obtain ⟨x, r, rfl, h1, h2⟩ := allIs_cons.mp h
    obtain ⟨v, e1, e2⟩ := AllIs.get (i := i) h2 (by simpa using e)
    exact ⟨v, by simpa using e1, e2⟩
theorem AllIs.get' : ∀ {ds : List Dt} {xs : List V} {i : Nat} {v : V}, AllIs K H ds xs → xs[i]? = some v → ∃ d, ds[i]? = some d ∧ Is K H d v
  | [], _, _, _, h, e => by rw [allIs_nil.mp h] at e; simp at e
  | d :: ds, _, 0, v, h, e => by
    obtain ⟨x, r, rfl, h1, h2⟩ := allIs_cons.mp h
    simp at e; subst e
    exact ⟨d, rfl, h1⟩
  | d :: ds, _, i + 1, v, h, e => by
    obtain ⟨x, r, rfl, h1, h2⟩ := allIs_cons.mp h
    obtain ⟨v, e1, e2⟩ := AllIs.get' (i := i) h2 (by simpa using e)
    exact ⟨v, by simpa using e1, e2⟩
theorem AllIs.append : ∀ {ds es : List Dt} {xs ys : List V}, AllIs K H ds xs → AllIs K H es ys → AllIs K H (ds ++ es) (xs ++ ys)
  | [], _, _, _, h, h' => by rw [allIs_nil.mp h]; exact h'
  | d :: ds, _, _, _, h, h' => by
    obtain ⟨x, r, rfl, h1, h2⟩ := allIs_cons.mp h
    exact allIs_cons.mpr ⟨x, _, rfl, h1, AllIs.append h2 h'⟩
theorem AllIs.drop : ∀ {ds : List Dt} {xs : List V} (n : Nat), AllIs K H ds xs → AllIs K H (ds.drop n) (xs.drop n)
  | _, _, 0, h => h
  | [], _, n + 1, h => by rw [allIs_nil.mp h]; exact allIs_nil.mpr rfl
  | d :: ds, _, n + 1, h => by
    obtain ⟨x, r, rfl, h1, h2⟩ := allIs_cons.mp h
    exact AllIs.drop n h2
theorem AllIs.take : ∀ {ds : List Dt} {xs : List V} (n : Nat), AllIs K H ds xs → AllIs K H (ds.take n) (xs.take n)
  | _, _, 0, _ => allIs_nil.mpr rfl
  | [], _, n + 1, h => by rw [allIs_nil.mp h]; exact allIs_nil.mpr rfl
  | d :: ds, _, n + 1, h => by
    obtain ⟨x, r, rfl, h1, h2⟩ := allIs_cons.mp h
    exact allIs_cons.mpr ⟨x, _, rfl, h1, AllIs.take n h2⟩
theorem AllIs.ints : ∀ {ns : List Int}, AllIs K H (ns.map Dt.int) (ns.map V.int)
  | [] => allIs_nil.mpr rfl
  | n :: ns => allIs_cons.mpr ⟨.int n, _, rfl, is_int.mpr rfl, AllIs.ints⟩
theorem AllIs.atI {ds : List Dt} {xs : List V} {i : Int} {d : Dt} (h : AllIs K H ds xs) (e : L2.atI ds i = some d) : ∃ v, L2.atI xs i = some v ∧ Is K H d v := by
  unfold L2.atI at e ⊢
  rw [← h.length]
  cases q : ixN ds.length i with
  | none => rw [q] at e; cases e
  | some j =>
    rw [q] at e
    exact h.get e
theorem AllIs.one {d : Dt} {xs : List V} (h : AllIs K H [d] xs) : ∃ v, xs = [v] ∧ Is K H d v := by
  obtain ⟨x, r, rfl, h1, h2⟩ := allIs_cons.mp h
  rw [allIs_nil.mp h2]
  exact ⟨x, rfl, h1⟩
theorem AllIs.two {d e : Dt} {xs : List V} (h : AllIs K H [d, e] xs) : ∃ v u, xs = [v, u] ∧ Is K H d v ∧ Is K H e u := by
  obtain ⟨x, r, rfl, h1, h2⟩ := allIs_cons.mp h
  obtain ⟨u, rfl, h3⟩ := h2.one
  exact ⟨x, u, rfl, h1, h3⟩

theorem same_new {p : Addr} (h : H p = none) (o : HO) : Same H (upd H p o) := fun b u q => by rw [upd_ne (ne_of_none q h)]; exact q

structure Vw where
  g : Hp
  h : Hp
  sub : Same g h
structure Le (W W' : Vw) : Prop where
  g : Same W.g W'.g
  h : Same W.h W'.h
  n : ∀ a, W.h a ≠ none → W.g a = none → W'.g a = none
theorem Le.refl (W : Vw) : Le W W := ⟨Same.refl _, Same.refl _, fun _ _ h => h⟩
theorem Le.trans {W W1 W2 : Vw} (a : Le W W1) (b : Le W1 W2) : Le W W2 :=
  ⟨a.g.trans b.g, a.h.trans b.h, fun c h1 h2 => b.n c (fun z => h1 (a.h.free z)) (a.n c h1 h2)⟩
theorem Is.mono {W W' : Vw} {d : Dt} {v : V} (h : Is K W.g d v) (s : Le W W') : Is K W'.g d v := Is.mono0 s.g h
theorem AllIs.mono {W W' : Vw} {d : List Dt} {v : List V} (h : AllIs K W.g d v) (s : Le W W') : AllIs K W'.g d v := AllIs.mono0 s.g h
def Vw.new (W : Vw) (p : Addr) (o : HO) : Vw := ⟨upd W.g p o, upd W.h p o, fun b u q => by
  by_cases e : b = p
  · subst e; rw [upd_same] at q ⊢; exact q
  · rw [upd_ne e] at q ⊢; exact W.sub _ _ q⟩
theorem le_new {W : Vw} {p : Addr} (hp : W.h p = none) (o : HO) : Le W (W.new p o) :=
  ⟨same_new (W.sub.free hp) o, same_new hp o, fun a h1 h2 => by
    have : a ≠ p := fun e => h1 (e ▸ hp)
    show upd W.g p o a = none
    rw [upd_ne this]; exact h2⟩
def Vw.mine (W : Vw) (p : Addr) (o : HO) (hp : W.g p = none) : Vw := ⟨W.g, upd W.h p o, fun b u q => by
  have : b ≠ p := fun e => by rw [e, hp] at q; cases q
  rw [upd_ne this]; exact W.sub _ _ q⟩
theorem le_mine {W : Vw} {p : Addr} (hp : W.h p = none) (o : HO) : Le W (W.mine p o (W.sub.free hp)) :=
  ⟨Same.refl _, same_new hp o, fun _ _ h => h⟩
def Vw.frz (W : Vw) (p : Addr) (o : HO) (hp : W.h p = some o) : Vw := ⟨upd W.g p o, W.h, fun b u q => by
  by_cases e : b = p
  · subst e; rw [upd_same] at q; rw [hp]; exact q
  · rw [upd_ne e] at q; exact W.sub _ _ q⟩

structure ObP where
  is : Hp → Addr → HO → Prop
  mono : ∀ {g g' : Hp} {a : Addr} {o : HO}, Same g g' → is g a o → is g' a o
inductive Sl where | none | some (d : Dt) | own (ds : List Dt) | arg (a : Addr) (ds : List Dt) | obj (φ : ObP)
abbrev DS := List Sl
def Obs (F : Hp) (W : Vw) (ρ : DS) (σ : St) : Prop := ∀ (i : Nat) (φ : ObP), ρ[i]? = some (.obj φ) →
  (∃ a o, σ[i]? = some (some (.ref a)) ∧ W.h a = some o ∧ (∀ xs, o ≠ .lst xs) ∧ W.g a = none ∧ F a = none ∧ φ.is W.g a o) ∧ ∀ (j : Nat) (ψ : ObP), ρ[j]? = some (.obj ψ) → j = i
structure Rl (K : PySem.W.Frag) (Z F : Hp) (W : Vw) (ρ : DS) (σ : St) : Prop where
  len : ρ.length = σ.length
  at_ : ∀ (i : Nat) (d : Dt), ρ[i]? = some (.some d) → ∃ v, σ[i]? = some (some v) ∧ Is K W.g d v
  ow : ∀ (i : Nat) (ds : List Dt), ρ[i]? = some (.own ds) → ∃ a xs, σ[i]? = some (some (.ref a)) ∧ W.h a = some (.lst xs) ∧ W.g a = none ∧ F a = none ∧ AllIs K W.g ds xs
  ne : ∀ (i j : Nat) (ds es : List Dt), i ≠ j → ρ[i]? = some (.own ds) → ρ[j]? = some (.own es) → σ[i]? ≠ σ[j]?
  fr : Same F W.h
  z : Same Z F
  ar : ∀ (i : Nat) (a : Addr) (ds : List Dt), ρ[i]? = some (.arg a ds) → (∃ xs, σ[i]? = some (some (.ref a)) ∧ W.h a = some (.lst xs) ∧ W.g a = none ∧ F a = none ∧ AllIs K W.g ds xs) ∧ (∀ (j : Nat) (es : List Dt), ρ[j]? = some (.own es) → σ[j]? ≠ some (some (.ref a))) ∧ ∀ (j : Nat) (b : Addr) (es : List Dt), ρ[j]? = some (.arg b es) → j = i
  ob : Obs F W ρ σ
variable {F : Hp} {W W' : Vw}
theorem set_get {α : Type} {l : List α} {i j : Nat} {x y : α} (q : (l.set i x)[j]? = some y) : (i = j ∧ i < l.length ∧ x = y) ∨ (i ≠ j ∧ l[j]? = some y) := by
  by_cases hij : i = j
  · subst hij
    by_cases hl : i < l.length
    · rw [List.getElem?_set_self hl] at q
      exact .inl ⟨rfl, hl, Option.some.inj q⟩
    · rw [List.getElem?_eq_none (by rw [List.length_set]; omega)] at q
      cases q
  · rw [List.getElem?_set_ne hij] at q
    exact .inr ⟨hij, q⟩
theorem Obs.mono {ρ : DS} {σ : St} (r : Obs F W ρ σ) (s : Le W W') : Obs F W' ρ σ := fun i φ e =>
  let ⟨⟨a, o, h1, h2, h3, h4, h5, h6⟩, k⟩ := r i φ e; ⟨⟨a, o, h1, s.h _ _ h2, h3, s.n a (by rw [h2]; intro z; cases z) h4, h5, φ.mono s.g h6⟩, k⟩
theorem Obs.set {ρ : DS} {σ : St} (r : Obs F W ρ σ) (i : Nat) {y : Sl} (v : Option V) (hy : ∀ φ, y ≠ .obj φ) : Obs F W (ρ.set i y) (σ.set i v) := fun j φ q => by
  rcases set_get q with ⟨_, _, e1⟩ | ⟨hij, q⟩
  · exact absurd e1 (hy φ)
  obtain ⟨⟨a, o, h1, h2⟩, k⟩ := r j φ q
  refine ⟨⟨a, o, by rw [List.getElem?_set_ne hij]; exact h1, h2⟩, fun l ψ q' => ?_⟩
  rcases set_get q' with ⟨_, _, e1⟩ | ⟨_, q'⟩
  · exact absurd e1 (hy ψ)
  · exact k l ψ q'
theorem Obs.slot {ρ : DS} {σ : St} (r : Obs F W ρ σ) (i : Nat) {y : Sl} (hy : ∀ φ, y ≠ .obj φ) : Obs F W (ρ.set i y) σ := fun j φ q => by
  rcases set_get q with ⟨_, _, e1⟩ | ⟨hij, q⟩
  · exact absurd e1 (hy φ)
  obtain ⟨h, k⟩ := r j φ q
  refine ⟨h, fun l ψ q' => ?_⟩
  rcases set_get q' with ⟨_, _, e1⟩ | ⟨_, q'⟩
  · exact absurd e1 (hy ψ)
  · exact k l ψ q'
theorem Obs.mine {ρ : DS} {σ : St} (r : Obs F W ρ σ) {a : Addr} {xs ys : List V} (ha : W.h a = some (.lst xs)) (hg : W.g a = none) : Obs F (W.mine a (.lst ys) hg) ρ σ := fun j φ q =>
  let ⟨⟨b, o, h1, h2, h3, h4⟩, k⟩ := r j φ q
  ⟨⟨b, o, h1, (upd_ne (fun z => h3 xs (by rw [z, ha] at h2; exact (Option.some.inj h2).symm))).trans h2, h3, h4⟩, k⟩
theorem Obs.frz {ρ : DS} {σ : St} (r : Obs F W ρ σ) {a : Addr} {xs : List V} (ha : W.h a = some (.lst xs)) (hg : W.g a = none) : Obs F (W.frz a _ ha) ρ σ := fun j φ q =>
  let ⟨⟨b, o, h1, h2, h3, h4, h5, h6⟩, k⟩ := r j φ q
  ⟨⟨b, o, h1, h2, h3, (upd_ne (fun z => h3 xs (by rw [z, ha] at h2; exact (Option.some.inj h2).symm))).trans h4, h5, φ.mono (same_new hg _) h6⟩, k⟩
theorem Rl.mono {ρ : DS} {σ : St} (r : Rl K Z F W ρ σ) (s : Le W W') : Rl K Z F W' ρ σ :=
  ⟨r.len, fun i d e => let ⟨v, h1, h2⟩ := r.at_ i d e; ⟨v, h1, h2.mono s⟩,
   fun i ds e => let ⟨a, xs, h1, h2, h3, h4, h5⟩ := r.ow i ds e; ⟨a, xs, h1, s.h _ _ h2, s.n a (by rw [h2]; intro z; cases z) h3, h4, h5.mono s⟩, r.ne, r.fr.trans s.h, r.z,
   fun i a ds e => let ⟨⟨xs, h1, h2, h3, h4, h5⟩, k1, k2⟩ := r.ar i a ds e; ⟨⟨xs, h1, s.h _ _ h2, s.n a (by rw [h2]; intro z; cases z) h3, h4, h5.mono s⟩, k1, k2⟩, r.ob.mono s⟩
theorem Rl.set {ρ : DS} {σ : St} (r : Rl K Z F W ρ σ) {d : Dt} {v : V} (i : Nat) (h : Is K W.g d v) : Rl K Z F W (ρ.set i (.some d)) (σ.set i (some v)) := by
  refine ⟨by rw [List.length_set, List.length_set]; exact r.len, fun j e q => ?_, fun j ds q => ?_, fun j k ds es hjk q1 q2 => ?_, r.fr, r.z, fun j a ds q => ?_, r.ob.set i _ (fun φ z => by cases z)⟩
  · rcases set_get q with ⟨rfl, hl, e1⟩ | ⟨hij, q⟩
    · cases e1
      exact ⟨v, by rw [List.getElem?_set_self (by rw [← r.len]; exact hl)], h⟩
    · rw [List.getElem?_set_ne hij]
      exact r.at_ j e q
  · rcases set_get q with ⟨_, _, e1⟩ | ⟨hij, q⟩
    · cases e1
    · rw [List.getElem?_set_ne hij]
      exact r.ow j ds q
  · rcases set_get q1 with ⟨_, _, e1⟩ | ⟨hij, q1⟩
    · cases e1
    rcases set_get q2 with ⟨_, _, e1⟩ | ⟨hik, q2⟩
    · cases e1
    rw [List.getElem?_set_ne hij, List.getElem?_set_ne hik]
    exact r.ne j k ds es hjk q1 q2
  · rcases set_get q with ⟨_, _, e1⟩ | ⟨hij, q⟩
    · cases e1
    obtain ⟨⟨xs, h1, h2⟩, k1, k2⟩ := r.ar j a ds q
    refine ⟨⟨xs, by rw [List.getElem?_set_ne hij]; exact h1, h2⟩, fun k es q' => ?_, fun k c es q' => ?_⟩
    · rcases set_get q' with ⟨_, _, e1⟩ | ⟨hik, q'⟩
      · cases e1
      rw [List.getElem?_set_ne hik]
      exact k1 k es q'
    · rcases set_get q' with ⟨_, _, e1⟩ | ⟨hik, q'⟩
      · cases e1
      exact k2 k c es q'
theorem Rl.own {ρ : DS} {σ : St} (r : Rl K Z F W ρ σ) (s : Le W W') {p : Addr} {xs : List V} {ds : List Dt} (i : Nat) (h0 : W.h p = none) (h1 : W'.h p = some (.lst xs)) (h2 : W'.g p = none) (h3 : AllIs K W'.g ds xs) :
    Rl K Z F W' (ρ.set i (.own ds)) (σ.set i (some (.ref p))) := by
  have r' := r.mono s
  have nep : ∀ (j : Nat) (es : List Dt), ρ[j]? = some (Sl.own es) → σ[j]? ≠ some (some (V.ref p)) := fun j es q z => by
    obtain ⟨a, ys, e1, e2, _⟩ := r.ow j es q
    rw [z] at e1
    cases e1
    rw [h0] at e2
    cases e2
  refine ⟨by rw [List.length_set, List.length_set]; exact r.len, fun j e q => ?_, fun j es q => ?_, fun j k es es' hjk q1 q2 => ?_, r'.fr, r.z, fun j a fs q => ?_, r'.ob.set i _ (fun φ z => by cases z)⟩
  · rcases set_get q with ⟨_, _, e1⟩ | ⟨hij, q⟩
    · cases e1
    · rw [List.getElem?_set_ne hij]
      exact r'.at_ j e q
  · rcases set_get q with ⟨rfl, hl, e1⟩ | ⟨hij, q⟩
    · cases e1
      exact ⟨p, xs, by rw [List.getElem?_set_self (by rw [← r.len]; exact hl)], h1, h2, r.fr.free h0, h3⟩
    · rw [List.getElem?_set_ne hij]
      exact r'.ow j es q
  · rcases set_get q1 with ⟨rfl, hl, e1⟩ | ⟨hij, q1⟩
    · rcases set_get q2 with ⟨rfl, _, _⟩ | ⟨hik, q2⟩
      · exact absurd rfl hjk
      · rw [List.getElem?_set_self (by rw [← r.len]; exact hl), List.getElem?_set_ne hik]
        exact fun z => nep k es' q2 z.symm
    · rcases set_get q2 with ⟨rfl, hl, _⟩ | ⟨hik, q2⟩
      · rw [List.getElem?_set_self (by rw [← r.len]; exact hl), List.getElem?_set_ne hij]
        exact nep j es q1
      · rw [List.getElem?_set_ne hij, List.getElem?_set_ne hik]
        exact r.ne j k es es' hjk q1 q2
  · rcases set_get q with ⟨_, _, e1⟩ | ⟨hij, q⟩
    · cases e1
    obtain ⟨⟨ys, g1, g2⟩, k1, k2⟩ := r'.ar j a fs q
    obtain ⟨⟨_, _, g3, _⟩, _, _⟩ := r.ar j a fs q
    refine ⟨⟨ys, by rw [List.getElem?_set_ne hij]; exact g1, g2⟩, fun k es q' => ?_, fun k c es q' => ?_⟩
    · rcases set_get q' with ⟨rfl, hl, e1⟩ | ⟨hik, q'⟩
      · rw [List.getElem?_set_self (by rw [← r.len]; exact hl)]
        intro z
        cases z
        rw [h0] at g3
        cases g3
      · rw [List.getElem?_set_ne hik]
        exact k1 k es q'
    · rcases set_get q' with ⟨_, _, e1⟩ | ⟨hik, q'⟩
      · cases e1
      exact k2 k c es q'
theorem Rl.put {ρ : DS} {σ : St} (r : Rl K Z F W ρ σ) {i : Nat} {ds es : List Dt} {a : Addr} {ys : List V} (hi : ρ[i]? = some (.own ds)) (ha : σ[i]? = some (some (.ref a))) (hg : W.g a = none) (hF : F a = none) (h3 : AllIs K W.g es ys) :
    Rl K Z F (W.mine a (.lst ys) hg) (ρ.set i (.own es)) σ := by
  have hl : i < ρ.length := by
    rcases Nat.lt_or_ge i ρ.length with h | h
    · exact h
    · rw [List.getElem?_eq_none h] at hi; cases hi
  have other : ∀ j fs, j ≠ i → ρ[j]? = some (.own fs) → σ[j]? ≠ some (some (.ref a)) := fun j fs hj q z => r.ne j i fs ds hj q hi (z.trans ha.symm)
  refine ⟨by rw [List.length_set]; exact r.len, fun j e q => ?_, fun j fs q => ?_, fun j k fs fs' hjk q1 q2 => ?_, fun p o q => ?_, r.z, fun j c fs q => ?_, ?_⟩
  · rcases set_get q with ⟨_, _, e1⟩ | ⟨hij, q⟩
    · cases e1
    · exact r.at_ j e q
  · rcases set_get q with ⟨rfl, _, e1⟩ | ⟨hij, q⟩
    · cases e1
      exact ⟨a, ys, ha, upd_same, hg, hF, h3⟩
    · obtain ⟨b, xs, e1, e2, e3, e4, e5⟩ := r.ow j fs q
      have hb : b ≠ a := fun z => other j fs (fun z => hij z.symm) q (z ▸ e1)
      exact ⟨b, xs, e1, (upd_ne hb).trans e2, e3, e4, e5⟩
  · have k1 : ∃ gs, ρ[j]? = some (.own gs) := by
      rcases set_get q1 with ⟨rfl, _, _⟩ | ⟨_, q⟩
      · exact ⟨_, hi⟩
      · exact ⟨_, q⟩
    have k2 : ∃ gs, ρ[k]? = some (.own gs) := by
      rcases set_get q2 with ⟨rfl, _, _⟩ | ⟨_, q⟩
      · exact ⟨_, hi⟩
      · exact ⟨_, q⟩
    obtain ⟨_, k1⟩ := k1
    obtain ⟨_, k2⟩ := k2
    exact r.ne j k _ _ hjk k1 k2
  · have e : p ≠ a := fun e => by rw [e, hF] at q; cases q
    exact (upd_ne (H := W.h) (o := .lst ys) e).trans (r.fr p o q)
  · rcases set_get q with ⟨_, _, e1⟩ | ⟨hij, q⟩
    · cases e1
    obtain ⟨⟨ys', g1, g2, g3, g4, g5⟩, k1, k2⟩ := r.ar j c fs q
    have hc : c ≠ a := fun z => k1 i ds hi (by rw [z]; exact ha)
    refine ⟨⟨ys', g1, (upd_ne hc).trans g2, g3, g4, g5⟩, fun k es' q' => ?_, fun k c' es' q' => ?_⟩
    · rcases set_get q' with ⟨rfl, _, _⟩ | ⟨_, q'⟩
      · exact k1 i ds hi
      · exact k1 k es' q'
    · rcases set_get q' with ⟨_, _, e1⟩ | ⟨hik, q'⟩
      · cases e1
      exact k2 k c' es' q'
  · obtain ⟨a', xs, e1, e2, _⟩ := r.ow i ds hi
    rw [ha] at e1
    cases e1
    exact (r.ob.mine e2 hg).slot i (fun φ z => by cases z)
theorem Rl.frz {ρ : DS} {σ : St} (r : Rl K Z F W ρ σ) {i : Nat} {ds : List Dt} {a : Addr} {xs : List V} (hi : ρ[i]? = some (.own ds)) (ha : σ[i]? = some (some (.ref a))) (hh : W.h a = some (.lst xs)) (hg : W.g a = none) (h3 : AllIs K W.g ds xs) :
    Rl K Z F (W.frz a _ hh) (ρ.set i (.some (.lst ds))) σ := by
  have sg : Same W.g (upd W.g a (.lst xs)) := same_new hg _
  have other : ∀ j fs, j ≠ i → ρ[j]? = some (.own fs) → σ[j]? ≠ some (some (.ref a)) := fun j fs hj q z => r.ne j i fs ds hj q hi (z.trans ha.symm)
  refine ⟨by rw [List.length_set]; exact r.len, fun j e q => ?_, fun j fs q => ?_, fun j k fs fs' hjk q1 q2 => ?_, r.fr, r.z, fun j c fs q => ?_, (r.ob.frz hh hg).slot i (fun φ z => by cases z)⟩
  · rcases set_get q with ⟨rfl, _, e1⟩ | ⟨hij, q⟩
    · cases e1
      exact ⟨_, ha, is_lst.mpr ⟨a, xs, rfl, upd_same, AllIs.mono0 sg h3⟩⟩
    · obtain ⟨v, e1, e2⟩ := r.at_ j e q
      exact ⟨v, e1, Is.mono0 sg e2⟩
  · rcases set_get q with ⟨_, _, e1⟩ | ⟨hij, q⟩
    · cases e1
    · obtain ⟨b, ys, e1, e2, e3, e4, e5⟩ := r.ow j fs q
      have hb : b ≠ a := fun z => other j fs (fun z => hij z.symm) q (z ▸ e1)
      exact ⟨b, ys, e1, e2, (upd_ne hb).trans e3, e4, AllIs.mono0 sg e5⟩
  · rcases set_get q1 with ⟨_, _, e1⟩ | ⟨_, q1⟩
    · cases e1
    rcases set_get q2 with ⟨_, _, e1⟩ | ⟨_, q2⟩
    · cases e1
    exact r.ne j k _ _ hjk q1 q2
  · rcases set_get q with ⟨_, _, e1⟩ | ⟨hij, q⟩
    · cases e1
    obtain ⟨⟨ys', g1, g2, g3, g4, g5⟩, k1, k2⟩ := r.ar j c fs q
    have hc : c ≠ a := fun z => k1 i ds hi (by rw [z]; exact ha)
    refine ⟨⟨ys', g1, g2, (upd_ne hc).trans g3, g4, AllIs.mono0 sg g5⟩, fun k es' q' => ?_, fun k c' es' q' => ?_⟩
    · rcases set_get q' with ⟨_, _, e1⟩ | ⟨_, q'⟩
      · cases e1
      · exact k1 k es' q'
    · rcases set_get q' with ⟨_, _, e1⟩ | ⟨hik, q'⟩
      · cases e1
      exact k2 k c' es' q'
def dstart (n : Nat) (ds : List Dt) : DS := ds.map Sl.some ++ List.replicate (n - ds.length) Sl.none
theorem Rl.start {N : List Str} {ds : List Dt} {vs : List V} (h : AllIs K W.g ds vs) (hz : Same Z W.h) : Rl K Z W.h W (dstart N.length ds) (L2.start N vs) := by
  have hl := h.length
  have cls : ∀ (i : Nat) (y : Sl), (dstart N.length ds)[i]? = some y → (∃ d, ds[i]? = some d ∧ y = .some d) ∨ y = .none := fun i y e => by
    unfold dstart at e
    by_cases hi : i < ds.length
    · rw [List.getElem?_append_left (by rw [List.length_map]; exact hi), List.getElem?_map] at e
      cases q : ds[i]? with
      | none => rw [q] at e; cases e
      | some d' =>
        rw [q] at e
        exact .inl ⟨d', rfl, (Option.some.inj e).symm⟩
    · rw [List.getElem?_append_right (by rw [List.length_map]; omega), List.getElem?_replicate] at e
      split at e
      · exact .inr (Option.some.inj e).symm
      · cases e
  refine ⟨by unfold L2.start dstart; rw [List.length_append, List.length_append, List.length_map, List.length_map, List.length_replicate, List.length_replicate, hl], fun i d e => ?_, fun i es e => ?_, fun i j es fs _ e _ => ?_, Same.refl _, hz, fun i a es e => ?_, fun i φ e => ?_⟩
  · rcases cls i _ e with ⟨d', q, e1⟩ | e1
    · cases e1
      obtain ⟨v, h1, h2⟩ := h.get q
      refine ⟨v, ?_, h2⟩
      have hi : i < ds.length := by
        rcases Nat.lt_or_ge i ds.length with h | h
        · exact h
        · rw [List.getElem?_eq_none h] at q; cases q
      unfold L2.start
      rw [List.getElem?_append_left (by rw [List.length_map, ← hl]; exact hi), List.getElem?_map, h1]
      rfl
    · cases e1
  · rcases cls i _ e with ⟨d', q, e1⟩ | e1
    · cases e1
    · cases e1
  · rcases cls i _ e with ⟨d', q, e1⟩ | e1
    · cases e1
    · cases e1
  · rcases cls i _ e with ⟨d', q, e1⟩ | e1
    · cases e1
    · cases e1
  · rcases cls i _ e with ⟨d', q, e1⟩ | e1
    · cases e1
    · cases e1

abbrev DTE := DS → (Dt → Prop) → Prop
abbrev DTT := DS → (Bool → Prop) → Prop
abbrev DTA := DS → (List Dt → Prop) → Prop
def LiE (K : PySem.W.Frag) (Z : Hp) (te : TE) (t : DTE) : Prop :=
  ∀ {F : Hp} (ρ : DS) (σ : St) (H : Vw) (Q : Dt → Prop), Rl K Z F H ρ σ → t ρ Q → ∀ R : VK, (∀ d v H', Le H H' → Is K H'.g d v → Q d → R v H'.h) → te σ H.h R
def LiT (K : PySem.W.Frag) (Z : Hp) (te : TT) (t : DTT) : Prop :=
  ∀ {F : Hp} (ρ : DS) (σ : St) (H : Vw) (Q : Bool → Prop), Rl K Z F H ρ σ → t ρ Q → ∀ R : Bool → Hp → Prop, (∀ d H', Le H H' → Q d → R d H'.h) → te σ H.h R
def LiA (K : PySem.W.Frag) (Z : Hp) (te : TA) (t : DTA) : Prop :=
  ∀ {F : Hp} (ρ : DS) (σ : St) (H : Vw) (Q : List Dt → Prop), Rl K Z F H ρ σ → t ρ Q → ∀ R : List V → Hp → Prop, (∀ d v H', Le H H' → AllIs K H'.g d v → Q d → R v H'.h) → te σ H.h R
def DE (X : Cx) (e : Expr) (t : DTE) : Prop := ∃ te, PE X e te ∧ LiE X.K (Zx X) te t
def DT (X : Cx) (e : Expr) (t : DTT) : Prop := ∃ te, PT X e te ∧ LiT X.K (Zx X) te t
def DW (X : Cx) (e : Expr) (t : DTT) : Prop := ∃ te, PW X e te ∧ LiT X.K (Zx X) te t
def DA (X : Cx) (es : List Expr) (t : DTA) : Prop := ∃ te, PA X es te ∧ LiA X.K (Zx X) te t
theorem DW.dt {X : Cx} {e : Expr} {t : DTT} (h : DW X e t) : DT X e t := let ⟨te, h1, h2⟩ := h; ⟨te, h1.pt, h2⟩

def dVar (i : Nat) : DTE := fun ρ Q => ∃ d, ρ[i]? = some (.some d) ∧ Q d
def dC (d : Dt) : DTE := fun _ Q => Q d
section
variable {X : Cx} {a b c : Expr} {ta tb tc : DTE} {pos : Pos}
theorem dv (i : Nat) {x : Str} {pos : Pos} (hN : X.N[i]? = some x := by rfl) (hv : Vis X.env.scope x := by first | exact Or.inl rfl | exact Or.inr (Or.inl rfl) | exact Or.inr (Or.inr rfl)) (hd : (x == ("__debug__" : Str)) = false := by decide)
    (hcd : (x == ("__classdict__" : Str)) = false := by decide) : DE X (.Name x pos) (dVar i) :=
  ⟨tVar i, pe_var hN hv hd hcd, fun ρ σ H Q r h R k => by
    obtain ⟨d, e, q⟩ := h
    obtain ⟨v, h1, h2⟩ := r.at_ i d e
    exact ⟨v, h1, k d v H (Le.refl H) h2 q⟩⟩
theorem lic {v : V} {d : Dt} (h : ∀ H : Vw, Is K H.g d v) : LiE K Z (tC v) (dC d) := fun ρ σ H Q r q R k => k d v H (Le.refl H) (h H) q
theorem de_int {i j pos} : DE X (.Constant (.int i) j pos) (dC (.int i)) := ⟨_, pe_int, lic fun _ => is_int.mpr rfl⟩
theorem de_bl {b j pos} : DE X (.Constant (.bool b) j pos) (dC (.bl b)) := ⟨_, pe_bl, lic fun _ => is_bl.mpr rfl⟩
theorem de_str {x j pos} : DE X (.Constant (.str x) j pos) (dC (.str x)) := ⟨_, pe_str, lic fun _ => is_str.mpr rfl⟩

def DOp (X : Cx) (f : Value → Value → Sem Value) (g : Dt → Dt → (Dt → Prop) → Prop) : Prop :=
  ∃ r, OpR X f r ∧ ∀ (H : Vw) (x y : V) (d e : Dt) (Q : Dt → Prop), Is X.K H.g d x → Is X.K H.g e y → g d e Q → ∀ R : VK, (∀ d v H', Le H H' → Is X.K H'.g d v → Q d → R v H'.h) → r x y H.h R
def dOp (g : Dt → Dt → (Dt → Prop) → Prop) (ta tb : DTE) : DTE := fun ρ Q => ta ρ fun d => tb ρ fun e => g d e Q
theorem liOp {te tf : TE} {r : R2} {g : Dt → Dt → (Dt → Prop) → Prop} (ha : LiE K Z te ta) (hb : LiE K Z tf tb)
    (hg : ∀ (H : Vw) (x y : V) (d e : Dt) (Q : Dt → Prop), Is K H.g d x → Is K H.g e y → g d e Q → ∀ R : VK, (∀ d v H', Le H H' → Is K H'.g d v → Q d → R v H'.h) → r x y H.h R) : LiE K Z (tOp r te tf) (dOp g ta tb) :=
  fun ρ σ H Q rl h R k => ha ρ σ H _ rl h _ fun d v H1 s1 i1 q1 => hb ρ σ H1 _ (rl.mono s1) q1 _ fun e u H2 s2 i2 q2 =>
    hg H2 v u d e Q (i1.mono s2) i2 q2 R fun d' v' H3 s3 i3 q3 => k d' v' H3 ((s1.trans s2).trans s3) i3 q3
theorem de_op {op : Operator} {g : Dt → Dt → (Dt → Prop) → Prop} (ho : DOp X (binaryOp op) g) (ha : DE X a ta) (hb : DE X b tb) : DE X (.BinOp a op b pos) (dOp g ta tb) := by
  obtain ⟨r, h1, h2⟩ := ho
  obtain ⟨te, p1, l1⟩ := ha
  obtain ⟨tf, p2, l2⟩ := hb
  exact ⟨_, pe_op h1 p1 p2, liOp l1 l2 h2⟩
theorem de_cmp {op : CmpOp} {g : Dt → Dt → (Dt → Prop) → Prop} (ho : DOp X (compareOp op) g) (ha : DE X a ta) (hb : DE X b tb) (hm : behindInMarks op b = false) : DE X (.Compare a [op] [b] pos) (dOp g ta tb) := by
  obtain ⟨r, h1, h2⟩ := ho
  obtain ⟨te, p1, l1⟩ := ha
  obtain ⟨tf, p2, l2⟩ := hb
  exact ⟨_, pe_cmpR h1 p1 p2 hm, liOp l1 l2 h2⟩
def dTest (t : DTE) : DTT := fun ρ Q => t ρ fun d => ∃ k, d = .bl k ∧ Q k
theorem liTest {te : TE} {t : DTE} (h : LiE K Z te t) : LiT K Z (tTest te) (dTest t) := fun ρ σ H Q r q R k =>
  h ρ σ H _ r q _ fun d v H1 s1 i1 ⟨b, e, qb⟩ => by
    subst e
    exact ⟨b, is_bl.mp i1, k b H1 s1 qb⟩
theorem dt_cmp {op : CmpOp} {g : Dt → Dt → (Dt → Prop) → Prop} (ho : DOp X (compareOp op) g) (ha : DE X a ta) (hb : DE X b tb) (hm : behindInMarks op b = false) : DT X (.Compare a [op] [b] pos) (dTest (dOp g ta tb)) := by
  obtain ⟨r, h1, h2⟩ := ho
  obtain ⟨te, p1, l1⟩ := ha
  obtain ⟨tf, p2, l2⟩ := hb
  exact ⟨_, pt_cmpR h1 p1 p2 hm, liTest (liOp l1 l2 h2)⟩
theorem dt_val {e : Expr} {t : DTE} (h : DE X e t) (he : ∀ whole, isTrue e X.env whole = (do let v ← whole; standAt e.pos; holding [v] (truthy v)) := by intro _; rfl) : DT X e (dTest t) := by
  obtain ⟨te, p, l⟩ := h
  exact ⟨_, pt_val p he, liTest l⟩
def dChain (g g' : Dt → Dt → (Dt → Prop) → Prop) (ta tb tc : DTE) : DTE := fun ρ Q => ta ρ fun d => tb ρ fun e => g d e fun z => ∃ k, z = .bl k ∧ (if k = true then tc ρ fun w => g' e w Q else Q (.bl false))
theorem liChain {te tf tg : TE} {r r' : R2} {g g' : Dt → Dt → (Dt → Prop) → Prop} (ha : LiE K Z te ta) (hb : LiE K Z tf tb) (hc : LiE K Z tg tc)
    (hg : ∀ (H : Vw) (x y : V) (d e : Dt) (Q : Dt → Prop), Is K H.g d x → Is K H.g e y → g d e Q → ∀ R : VK, (∀ d v H', Le H H' → Is K H'.g d v → Q d → R v H'.h) → r x y H.h R)
    (hg' : ∀ (H : Vw) (x y : V) (d e : Dt) (Q : Dt → Prop), Is K H.g d x → Is K H.g e y → g' d e Q → ∀ R : VK, (∀ d v H', Le H H' → Is K H'.g d v → Q d → R v H'.h) → r' x y H.h R) : LiE K Z (tChain r r' te tf tg) (dChain g g' ta tb tc) :=
  fun ρ σ H Q rl h R k => ha ρ σ H _ rl h _ fun d v H1 s1 i1 q1 => hb ρ σ H1 _ (rl.mono s1) q1 _ fun e u H2 s2 i2 q2 =>
    hg H2 v u d e _ (i1.mono s2) i2 q2 _ fun d' v' H3 s3 i3 ⟨z, ez, q3⟩ => by
      subst ez
      refine ⟨z, is_bl.mp i3, ?_⟩
      cases z with
      | false => exact k _ _ H3 ((s1.trans s2).trans s3) (is_bl.mpr rfl) q3
      | true => exact hc ρ σ H3 _ (rl.mono ((s1.trans s2).trans s3)) q3 _ fun w x H4 s4 i4 q4 => hg' H4 u x e w Q (i2.mono (s3.trans s4)) i4 q4 R fun d5 v5 H5 s5 i5 q5 => k d5 v5 H5 (((s1.trans s2).trans (s3.trans s4)).trans s5) i5 q5
theorem de_chain {op op' : CmpOp} {g g' : Dt → Dt → (Dt → Prop) → Prop} (ho : DOp X (compareOp op) g) (ho' : DOp X (compareOp op') g') (ha : DE X a ta) (hb : DE X b tb) (hc : DE X c tc)
    (hm : lastMarks [op, op'] [b, c] = false := by with_unfolding_all rfl) : DE X (.Compare a [op, op'] [b, c] pos) (dChain g g' ta tb tc) := by
  obtain ⟨r, h1, h2⟩ := ho
  obtain ⟨r', h3, h4⟩ := ho'
  obtain ⟨te, p1, l1⟩ := ha
  obtain ⟨tf, p2, l2⟩ := hb
  obtain ⟨tg, p3, l3⟩ := hc
  exact ⟨_, pe_chain h1 h3 p1 p2 p3 hm, liChain l1 l2 l3 h2 h4⟩
variable {tA tB : DTT} {rest : List Expr}
def dAnd (t u : DTT) : DTT := fun ρ Q => t ρ fun c => if c = true then u ρ Q else Q false
def dOr (t u : DTT) : DTT := fun ρ Q => t ρ fun c => if c = true then Q true else u ρ Q
def dNot (t : DTT) : DTT := fun ρ Q => t ρ fun c => Q (!c)
theorem dw_and1 (ha : DT X a tA) : DW X (.BoolOp .And [a] pos) tA := let ⟨_, p, l⟩ := ha; ⟨_, pw_and1 p, l⟩
theorem dw_or1 (ha : DT X a tA) : DW X (.BoolOp .Or [a] pos) tA := let ⟨_, p, l⟩ := ha; ⟨_, pw_or1 p, l⟩
theorem dw_and (ha : DT X a tA) (hb : DW X (.BoolOp .And (b :: rest) pos) tB) : DW X (.BoolOp .And (a :: b :: rest) pos) (dAnd tA tB) := by
  obtain ⟨te, p1, l1⟩ := ha
  obtain ⟨tf, p2, l2⟩ := hb
  refine ⟨_, pw_and p1 p2, fun ρ σ H Q r h R k => l1 ρ σ H _ r h _ fun c H1 s1 q1 => ?_⟩
  cases c with
  | true => exact l2 ρ σ H1 Q (r.mono s1) q1 R fun d H2 s2 q2 => k d H2 (s1.trans s2) q2
  | false => exact k _ H1 s1 q1
theorem dw_or (ha : DT X a tA) (hb : DW X (.BoolOp .Or (b :: rest) pos) tB) : DW X (.BoolOp .Or (a :: b :: rest) pos) (dOr tA tB) := by
  obtain ⟨te, p1, l1⟩ := ha
  obtain ⟨tf, p2, l2⟩ := hb
  refine ⟨_, pw_or p1 p2, fun ρ σ H Q r h R k => l1 ρ σ H _ r h _ fun c H1 s1 q1 => ?_⟩
  cases c with
  | false => exact l2 ρ σ H1 Q (r.mono s1) q1 R fun d H2 s2 q2 => k d H2 (s1.trans s2) q2
  | true => exact k _ H1 s1 q1
theorem dt_not (ha : DT X a tA) : DT X (.UnaryOp .Not a pos) (dNot tA) := by
  obtain ⟨te, p1, l1⟩ := ha
  exact ⟨_, pt_not p1, fun ρ σ H Q r h R k => l1 ρ σ H _ r h _ fun c H1 s1 q1 => k _ H1 s1 q1⟩
def dAndV (ta tb : DTE) : DTE := fun ρ Q => ta ρ fun d => ∃ c, d = .bl c ∧ if c = true then tb ρ Q else Q (.bl false)
def dNotV (ta : DTE) : DTE := fun ρ Q => ta ρ fun d => ∃ c, d = .bl c ∧ Q (.bl (!c))
theorem de_one {op} {t : DTE} (h : DE X a t) : DE X (.BoolOp op [a] pos) t := let ⟨_, p, l⟩ := h; ⟨_, pe_one p, l⟩
theorem de_and (ha : DE X a ta) (hb : DE X (.BoolOp .And (b :: rest) pos) tb) : DE X (.BoolOp .And (a :: b :: rest) pos) (dAndV ta tb) := by
  obtain ⟨te, p1, l1⟩ := ha
  obtain ⟨tf, p2, l2⟩ := hb
  refine ⟨_, pe_and p1 p2, fun ρ σ H Q r h R k => l1 ρ σ H _ r h _ fun d v H1 s1 i1 ⟨c, e, q1⟩ => ?_⟩
  subst e
  refine ⟨c, is_bl.mp i1, ?_⟩
  cases c with
  | true => exact l2 ρ σ H1 Q (r.mono s1) q1 R fun d v H2 s2 i2 q2 => k d v H2 (s1.trans s2) i2 q2
  | false => exact k _ _ H1 s1 (is_bl.mpr rfl) q1
theorem de_not (ha : DE X a ta) : DE X (.UnaryOp .Not a pos) (dNotV ta) := by
  obtain ⟨te, p1, l1⟩ := ha
  refine ⟨_, pe_not p1, fun ρ σ H Q r h R k => l1 ρ σ H _ r h _ fun d v H1 s1 i1 ⟨c, e, q1⟩ => ?_⟩
  subst e
  exact ⟨c, is_bl.mp i1, k _ _ H1 s1 (is_bl.mpr rfl) q1⟩
end

section
variable {X : Cx} {a b c : Expr} {ta tb tc : DTE} {pos : Pos}
def gI (g : Int → Int → Dt) : Dt → Dt → (Dt → Prop) → Prop := fun d e Q => ∃ i j, d = .int i ∧ e = .int j ∧ Q (g i j)
def gIC (C : Int → Int → Prop) (g : Int → Int → Dt) : Dt → Dt → (Dt → Prop) → Prop := fun d e Q => ∃ i j, d = .int i ∧ e = .int j ∧ C i j ∧ Q (g i j)
theorem dop_I0 {f : Value → Value → Sem Value} {g : Int → Int → Int} (h : OpR X f (rI0 fun i j => .int (g i j))) : DOp X f (gI fun i j => .int (g i j)) := by
  refine ⟨_, h, fun H x y d e Q i1 i2 q R k => ?_⟩
  obtain ⟨i, j, rfl, rfl, q⟩ := q
  exact ⟨i, j, is_int.mp i1, is_int.mp i2, k _ _ H (Le.refl H) (is_int.mpr rfl) q⟩
theorem dop_B0 {f : Value → Value → Sem Value} {g : Int → Int → Bool} (h : OpR X f (rI0 fun i j => .bl (g i j))) : DOp X f (gI fun i j => .bl (g i j)) := by
  refine ⟨_, h, fun H x y d e Q i1 i2 q R k => ?_⟩
  obtain ⟨i, j, rfl, rfl, q⟩ := q
  exact ⟨i, j, is_int.mp i1, is_int.mp i2, k _ _ H (Le.refl H) (is_bl.mpr rfl) q⟩
theorem dop_IC {f : Value → Value → Sem Value} {C : Int → Int → Prop} {g : Int → Int → Int} (h : OpR X f (rI C fun i j => .int (g i j))) : DOp X f (gIC C fun i j => .int (g i j)) := by
  refine ⟨_, h, fun H x y d e Q i1 i2 q R k => ?_⟩
  obtain ⟨i, j, rfl, rfl, hc, q⟩ := q
  exact ⟨i, j, is_int.mp i1, is_int.mp i2, hc, k _ _ H (Le.refl H) (is_int.mpr rfl) q⟩
theorem op_mulB : OpR X (binaryOp .Mult) (rI IntMulOk fun i j => .int (i * j)) := opI fun _ _ _ _ _ _ _ hc q => mul_int q hc
theorem o_add : DOp X (binaryOp .Add) (gI fun i j => .int (i + j)) := dop_I0 op_add
theorem o_sub : DOp X (binaryOp .Sub) (gI fun i j => .int (i - j)) := dop_I0 op_sub
theorem o_mul : DOp X (binaryOp .Mult) (gIC IntMulOk fun i j => .int (i * j)) := dop_IC op_mulB
theorem o_fdiv : DOp X (binaryOp .FloorDiv) (gIC CDivN fun i j => .int (i.fdiv j)) := dop_IC op_fdivN
def CModN (_ j : Int) : Prop := j ≠ 0
theorem o_mod : DOp X (binaryOp .Mod) (gIC CModN fun i j => .int (i.fmod j)) := dop_IC (C := CModN) op_modN
theorem cdivN {c n : Int} (h : (n != 0 && decide (n.natAbs < 1073741824)) = true) : CDivN c n := by
  rw [Bool.and_eq_true, bne_iff_ne, decide_eq_true_iff] at h
  exact h
theorem cmodN {c n : Int} (h : (n != 0) = true) : CModN c n := bne_iff_ne.mp h
theorem cpowN {c n : Int} (h : (decide (0 ≤ n) && (decide (n ≤ 1000000) && decide (c.natAbs < 18446744073709551616))) = true) : CPow c n := by
  rw [Bool.and_eq_true, Bool.and_eq_true, decide_eq_true_iff, decide_eq_true_iff, decide_eq_true_iff] at h
  exact h
theorem mulR {c n : Int} (h : decide (n.natAbs < 9223372036854775808) = true) : IntMulOk c n := by
  rw [decide_eq_true_iff] at h
  exact .of_right (intBits_le_64 (by omega) (by omega))
theorem mulL {c n : Int} (h : decide (n.natAbs < 9223372036854775808) = true) : IntMulOk n c := by
  rw [decide_eq_true_iff] at h
  exact .of_left (intBits_le_64 (by omega) (by omega))
theorem o_lt : DOp X (compareOp .Lt) (gI fun i j => .bl (decide (i < j))) := dop_B0 op_lt
theorem o_le : DOp X (compareOp .LtE) (gI fun i j => .bl (decide (i ≤ j))) := dop_B0 op_le
theorem o_gt : DOp X (compareOp .Gt) (gI fun i j => .bl (decide (j < i))) := dop_B0 op_gt
def dNeg (ta : DTE) : DTE := fun ρ Q => ta ρ fun d => ∃ i, d = .int i ∧ Q (.int (-i))
theorem de_neg (ha : DE X a ta) : DE X (.UnaryOp .USub a pos) (dNeg ta) := by
  obtain ⟨te, p1, l1⟩ := ha
  refine ⟨_, pe_un un_neg p1, fun ρ σ H Q r h R k => l1 ρ σ H _ r h _ fun d v H1 s1 i1 ⟨i, e, q1⟩ => ?_⟩
  subst e
  exact ⟨i, is_int.mp i1, k _ _ H1 s1 (is_int.mpr rfl) q1⟩
def dNil : DTA := fun _ Q => Q []
def dCons (te : DTE) (t : DTA) : DTA := fun ρ Q => te ρ fun d => t ρ fun ds => Q (d :: ds)
variable {es : List Expr} {t : DTA}
theorem da_nil : DA X [] dNil := ⟨_, pa_nil, fun ρ σ H Q r h R k => k [] [] H (Le.refl H) (allIs_nil.mpr rfl) h⟩
theorem da_cons (ha : DE X a ta) (hr : DA X es t) (hs : starEach (a :: es) X.env = (false, eval a X.env) :: starEach es X.env := by rfl) : DA X (a :: es) (dCons ta t) := by
  obtain ⟨te, p1, l1⟩ := ha
  obtain ⟨tf, p2, l2⟩ := hr
  exact ⟨_, pa_cons p1 p2 hs, fun ρ σ H Q r h R k => l1 ρ σ H _ r h _ fun d v H1 s1 i1 q1 => l2 ρ σ H1 _ (r.mono s1) q1 _ fun ds vs H2 s2 i2 q2 =>
    k (d :: ds) (v :: vs) H2 (s1.trans s2) (allIs_cons.mpr ⟨v, vs, rfl, i1.mono s2, i2⟩) q2⟩
def dTup (t : DTA) : DTE := fun ρ Q => t ρ fun ds => Nat.ble ds.length 1000 = true ∧ Q (.tup ds)
def dLst (t : DTA) : DTE := fun ρ Q => t ρ fun ds => Nat.ble ds.length 1000 = true ∧ Q (.lst ds)
theorem de_tup {x1} (h : DA X es t) : DE X (.Tuple es x1 pos) (dTup t) := by
  obtain ⟨te, p1, l1⟩ := h
  refine ⟨_, pe_tup p1, fun ρ σ H Q r h R k => l1 ρ σ H _ r h _ fun ds vs H1 s1 i1 ⟨hl, q1⟩ => ⟨?_, fun p hp => ?_⟩⟩
  · rw [← i1.length]; exact Nat.le_trans (Nat.le_of_ble_eq_true hl) (by decide)
  · have s := le_new hp (.tup vs)
    exact k _ _ _ (s1.trans s) (is_tup.mpr ⟨p, vs, rfl, upd_same, i1.mono s⟩) q1
theorem de_lst (h : DA X es t) : DE X (.List es pos) (dLst t) := by
  obtain ⟨te, p1, l1⟩ := h
  refine ⟨_, pe_lst p1, fun ρ σ H Q r h R k => l1 ρ σ H _ r h _ fun ds vs H1 s1 i1 ⟨hl, q1⟩ => ⟨?_, fun p hp => ?_⟩⟩
  · rw [← i1.length]; exact Nat.le_trans (Nat.le_of_ble_eq_true hl) (by decide)
  · have s := le_new hp (.lst vs)
    exact k _ _ _ (s1.trans s) (is_lst.mpr ⟨p, vs, rfl, upd_same, i1.mono s⟩) q1

def seqOf : Dt → Option (List Dt)
  | .tup ds => some ds
  | .lst ds => some ds
  | .scr ns => some (ns.map .int)
  | _ => none
theorem seq_is {H : Vw} {d : Dt} {v : V} {ds : List Dt} (h : Is K H.g d v) (e : seqOf d = some ds) : ∃ a xs, v = .ref a ∧ (SqL K H.h a xs ∨ SqT K H.h a xs) ∧ AllIs K H.g ds xs := by
  cases d with
  | tup es =>
    obtain rfl : es = ds := Option.some.inj e
    obtain ⟨a, xs, rfl, h1, h2⟩ := is_tup.mp h
    exact ⟨a, xs, rfl, .inr (.of (H.sub _ _ h1)), h2⟩
  | lst es =>
    obtain rfl : es = ds := Option.some.inj e
    obtain ⟨a, xs, rfl, h1, h2⟩ := is_lst.mp h
    exact ⟨a, xs, rfl, .inl (.of (H.sub _ _ h1)), h2⟩
  | scr ns =>
    obtain rfl : ns.map Dt.int = ds := Option.some.inj e
    obtain ⟨a, rfl, h1⟩ := is_scr.mp h
    exact ⟨a, _, rfl, .inl (H.sub.seq h1), AllIs.ints⟩
  | _ => cases e
def dIx (ta tb : DTE) : DTE := fun ρ Q => ta ρ fun d => tb ρ fun e => ∃ ds i d', seqOf d = some ds ∧ e = .int i ∧ atI ds i = some d' ∧ Q d'
theorem de_ix (ha : DE X a ta) (hb : DE X b tb) (hs : PlainIx b) : DE X (.Subscript a b pos) (dIx ta tb) := by
  obtain ⟨te, p1, l1⟩ := ha
  obtain ⟨tf, p2, l2⟩ := hb
  refine ⟨_, pe_ix ix_seq p1 p2 hs, fun ρ σ H Q r h R k => l1 ρ σ H _ r h _ fun d v H1 s1 i1 q1 => l2 ρ σ H1 _ (r.mono s1) q1 _ fun e u H2 s2 i2 q2 => ?_⟩
  obtain ⟨ds, i, d', e1, e2, e3, q⟩ := q2
  subst e2
  obtain ⟨p, xs, e4, h1, h2⟩ := seq_is (i1.mono s2) e1
  obtain ⟨w, e5, h3⟩ := h2.atI e3
  rcases h1 with h1 | h1
  · exact .inl ⟨p, xs, i, w, e4, is_int.mp i2, h1, e5, k d' w H2 (s1.trans s2) h3 q⟩
  · exact .inr (.inl ⟨p, xs, i, w, e4, is_int.mp i2, h1, e5, k d' w H2 (s1.trans s2) h3 q⟩)
def dLen (t : DTE) : DTE := fun ρ Q => t ρ fun d => ∃ ds, seqOf d = some ds ∧ Q (.int ds.length)
theorem de_len {p : Pos} (hg : Gl X "len") (hm : X.mg "len" = none) (ha : DE X a ta) (hs : starEach [a] X.env = (false, eval a X.env) :: starEach [] X.env := by rfl) (hpl : (backTo pos (starEach [] X.env)).any (·.1) = false := by rfl) :
    DE X (.Call (.Name "len" p) [a] [] pos) (dLen ta) := by
  obtain ⟨te, p1, l1⟩ := ha
  refine ⟨_, pe_callB call_len_seq hg hm PySem.boot_len (pa_cons p1 pa_nil hs) (by decide) (by decide) hs hpl, fun ρ σ H Q r h R k => l1 ρ σ H _ r h _ fun d v H1 s1 i1 ⟨ds, e, q⟩ => ?_⟩
  obtain ⟨a, xs, rfl, h1, h2⟩ := seq_is i1 e
  exact ⟨a, xs, rfl, h1, by rw [← h2.length]; exact k _ _ H1 s1 (is_int.mpr rfl) q⟩
abbrev DTO := DS → (Option Int → Prop) → Prop
def listOf : Dt → Option (List Dt)
  | .lst ds => some ds
  | .scr ns => some (ns.map .int)
  | _ => none
end

def LiF (K : PySem.W.Frag) (Z : Hp) (te : TE) (t : DTE) : Prop :=
  ∀ {F : Hp} (ρ : DS) (σ : St) (H : Vw) (Q : Dt → Prop), Rl K Z F H ρ σ → t ρ Q → ∀ R : VK,
    (∀ es p xs H', Le H H' → H.h p = none → H'.h p = some (.lst xs) → H'.g p = none → AllIs K H'.g es xs → Q (.lst es) → R (.ref p) H'.h) → te σ H.h R
def DF (X : Cx) (e : Expr) (t : DTE) : Prop := ∃ te, PE X e te ∧ LiF X.K (Zx X) te t
theorem le_frz {H H' : Vw} {p : Addr} {o : HO} (s : Le H H') (h0 : H.h p = none) (h1 : H'.h p = some o) (h2 : H'.g p = none) : Le H (H'.frz p o h1) :=
  ⟨s.g.trans (same_new h2 o), s.h, fun a z1 z2 => by
    have : a ≠ p := fun e => z1 (e ▸ h0)
    show upd H'.g p o a = none
    rw [upd_ne this]; exact s.n a z1 z2⟩
section
variable {X : Cx} {a b c e : Expr} {ta tb tc : DTE} {t : DTA} {pos p0 p1 p2 : Pos} {es : List Expr}
theorem DF.de {t : DTE} (h : DF X e t) : DE X e t := by
  obtain ⟨te, p, l⟩ := h
  exact ⟨te, p, fun ρ σ H Q r h R k => l ρ σ H Q r h R fun es q xs H' s h0 h1 h2 i z => k (.lst es) (.ref q) (H'.frz q _ h1) (le_frz s h0 h1 h2) (is_lst.mpr ⟨q, xs, rfl, upd_same, AllIs.mono0 (same_new h2 _) i⟩) z⟩
theorem df_lst (h : DA X es t) : DF X (.List es pos) (dLst t) := by
  obtain ⟨te, p1, l1⟩ := h
  refine ⟨_, pe_lst p1, fun ρ σ H Q r h R k => l1 ρ σ H _ r h _ fun ds vs H1 s1 i1 ⟨hl, q1⟩ => ⟨?_, fun p hp => ?_⟩⟩
  · rw [← i1.length]; exact Nat.le_trans (Nat.le_of_ble_eq_true hl) (by decide)
  · exact k ds p vs (H1.mine p (.lst vs) (H1.sub.free hp)) (s1.trans (le_mine hp _)) (s1.h.free hp) upd_same (H1.sub.free hp) i1 q1
def dList (ta : DTE) : DTE := fun ρ Q => ta ρ fun d => ∃ ds, seqOf d = some ds ∧ Q (.lst ds)
theorem df_list (hg : Gl X "list") (hm : X.mg "list" = none) (ha : DE X a ta) (hs : starEach [a] X.env = (false, eval a X.env) :: starEach [] X.env := by rfl) (hpl : (backTo pos (starEach [] X.env)).any (·.1) = false := by rfl) :
    DF X (.Call (.Name "list" p0) [a] [] pos) (dList ta) := by
  obtain ⟨te, p1, l1⟩ := ha
  refine ⟨_, pe_callTy call_list_of hg hm PyProof.Rows.boot_list (pa_cons p1 pa_nil hs) (by decide) (by decide) hs hpl, fun ρ σ H Q r h R k => l1 ρ σ H _ r h _ fun d v H1 s1 i1 ⟨ds, e, q⟩ => ?_⟩
  obtain ⟨a, xs, rfl, h1, h2⟩ := seq_is i1 e
  exact ⟨a, xs, rfl, h1, fun p hp => k _ p _ (H1.mine p _ (H1.sub.free hp)) (s1.trans (le_mine hp _)) (s1.h.free hp) upd_same (H1.sub.free hp) h2 q⟩

variable {i : Nat} {x : Str}
def dLenO (i : Nat) : DTE := fun ρ Q => ∃ ds, ρ[i]? = some (.own ds) ∧ Q (.int ds.length)
theorem de_lenO (i : Nat) (hg : Gl X "len") (hm : X.mg "len" = none) (hN : X.N[i]? = some x := by rfl) (hv : Vis X.env.scope x := by first | exact Or.inl rfl | exact Or.inr (Or.inl rfl) | exact Or.inr (Or.inr rfl)) (hd : (x == ("__debug__" : Str)) = false := by decide)
    (hcd : (x == ("__classdict__" : Str)) = false := by decide) (hs : starEach [.Name x p1] X.env = (false, eval (.Name x p1) X.env) :: starEach [] X.env := by rfl) (hpl : (backTo pos (starEach [] X.env)).any (·.1) = false := by rfl) :
    DE X (.Call (.Name "len" p0) [.Name x p1] [] pos) (dLenO i) := by
  refine ⟨_, pe_callB call_len_seq hg hm PySem.boot_len (pa_cons (pe_var hN hv hd hcd) pa_nil hs) (by decide) (by decide) hs hpl, fun ρ σ H Q r h R k => ?_⟩
  obtain ⟨ds, e, q⟩ := h
  obtain ⟨a, xs, e1, e2, e3, e4, e5⟩ := r.ow i ds e
  exact ⟨.ref a, e1, a, xs, rfl, .inl (.of e2), by rw [← e5.length]; exact k _ _ H (Le.refl H) (is_int.mpr rfl) q⟩
def dIxO (i : Nat) (tb : DTE) : DTE := fun ρ Q => ∃ ds, ρ[i]? = some (.own ds) ∧ tb ρ fun e => ∃ k d, e = .int k ∧ atI ds k = some d ∧ Q d
theorem de_ixO (i : Nat) (hb : DE X b tb) (hs : PlainIx b) (hN : X.N[i]? = some x := by rfl) (hv : Vis X.env.scope x := by first | exact Or.inl rfl | exact Or.inr (Or.inl rfl) | exact Or.inr (Or.inr rfl)) (hd : (x == ("__debug__" : Str)) = false := by decide)
    (hcd : (x == ("__classdict__" : Str)) = false := by decide) : DE X (.Subscript (.Name x p1) b pos) (dIxO i tb) := by
  obtain ⟨tf, p2, l2⟩ := hb
  refine ⟨_, pe_ix ix_list (pe_var hN hv hd hcd) p2 hs, fun ρ σ H Q r h R k => ?_⟩
  obtain ⟨ds, e, h⟩ := h
  obtain ⟨a, xs, e1, e2, e3, e4, e5⟩ := r.ow i ds e
  refine ⟨.ref a, e1, l2 ρ σ H _ r h _ fun e u H2 s2 i2 ⟨n, d, en, ed, q⟩ => ?_⟩
  subst en
  obtain ⟨v, ev, iv⟩ := e5.atI ed
  exact ⟨a, xs, n, v, rfl, is_int.mp i2, .of (s2.h _ _ e2), ev, k d v H2 s2 (iv.mono s2) q⟩
open Classical in
def scalD : Dt → Bool
  | .non => true | .bl _ => true | .int _ => true | .str _ => true | _ => false
end

abbrev DSp := List Dt → (Dt → Prop) → Prop
def PureSp (K : PySem.W.Frag) (S : DSp) : Sp := fun vs H Q _ => ∃ (W : Vw) (ds : List Dt) (Qd : Dt → Prop), W.h = H ∧ AllIs K W.g ds vs ∧ S ds Qd ∧ ∀ d v W', Le W W' → Is K W'.g d v → Qd d → Q v W'.h
def FreshSp (K : PySem.W.Frag) (S : DSp) : Sp := fun vs H Q _ => ∃ (W : Vw) (ds : List Dt) (Qd : Dt → Prop), W.h = H ∧ AllIs K W.g ds vs ∧ S ds Qd ∧
  ∀ es p xs W', Le W W' → W.h p = none → W'.h p = some (.lst xs) → W'.g p = none → AllIs K W'.g es xs → Qd (.lst es) → Q (.ref p) W'.h
structure DOk (P : Program) (w : World) (K : PySem.W.Frag) (mg : Str → Option Value) (base : Heap) (n : Nat) (x : Str) (S : DSp) : Prop where
  ex : ∃ f fd ps, mg x = some (.ref f) ∧ PySem.W.keepIn K (.ref f) = true ∧ Binds K fd ps [] ∧ FnOk P w K mg base CX0 n f fd ps (PureSp K S)
structure FOk (P : Program) (w : World) (K : PySem.W.Frag) (mg : Str → Option Value) (base : Heap) (n : Nat) (x : Str) (S : DSp) : Prop where
  ex : ∃ f fd ps, mg x = some (.ref f) ∧ PySem.W.keepIn K (.ref f) = true ∧ Binds K fd ps [] ∧ FnOk P w K mg base CX0 n f fd ps (FreshSp K S)
structure MOk (P : Program) (w : World) (K : PySem.W.Frag) (mg : Str → Option Value) (base : Heap) (n : Nat) (C : Addr) (m : Str) (S : DSp) : Prop where
  cl : Cls K C
  ex : ∃ f fd ps, Meth K C m f ∧ Binds K fd ps [] ∧ FnOk P w K mg base CX0 n f fd ps (PureSp K S)
structure FMOk (P : Program) (w : World) (K : PySem.W.Frag) (mg : Str → Option Value) (base : Heap) (n : Nat) (C : Addr) (m : Str) (S : DSp) : Prop where
  cl : Cls K C
  ex : ∃ f fd ps, Meth K C m f ∧ Binds K fd ps [] ∧ FnOk P w K mg base CX0 n f fd ps (FreshSp K S)
section
variable {X : Cx} {a b c e o : Expr} {ta tb tc : DTE} {pos p apos : Pos} {es : List Expr} {t : DTA} {n : Nat} {x m : Str} {S : DSp}
def dCall (S : DSp) (t : DTA) : DTE := fun ρ Q => t ρ fun ds => S ds Q
theorem de_call (G : DOk X.prog X.w X.K X.mg X.base n x S) (hr : Room n X.A) (hg : Gl X x) (ha : DA X (e :: es) t) (hdb : (x == ("__debug__" : Str)) = false := by decide)
    (he : starEach (e :: es) X.env = (false, eval e X.env) :: starEach es X.env := by rfl) (hpl : (backTo pos (starEach es X.env)).any (·.1) = false := by rfl) : DE X (.Call (.Name x p) (e :: es) [] pos) (dCall S t) := by
  obtain ⟨f, fd, ps, hm, hk, hb, F⟩ := G.ex
  obtain ⟨te, p1, l1⟩ := ha
  refine ⟨_, pe_call F hr hg hm hk hb .nil pass0 p1 hdb he hpl, fun ρ σ H Q r h R k => l1 ρ σ H _ r h _ fun ds vs H1 s1 i1 q1 => ?_⟩
  rw [List.append_nil]
  exact ⟨H1, ds, Q, rfl, i1, q1, fun d v H2 s2 i2 q2 => k d v H2 (s1.trans s2) i2 q2⟩
def tMethD (X : Cx) (n : Nat) (m : Str) (ta : TE) (t : TA) : TE := fun σ H Q => ta σ H fun x H1 => ∃ a dx fs C f fd ps sp, x = .ref a ∧ H1 a = some (.ins C dx fs) ∧ fs.lookup m = none ∧ Cls X.K C ∧ Meth X.K C m f ∧ Binds X.K fd ps [] ∧
  FnOk X.prog X.w X.K X.mg X.base CX0 n f fd ps sp ∧ t σ H1 fun vs H2 => sp (x :: vs) H2 Q E0
theorem pe_methD {pl : Sem Bool} {te : TE} {tt : TA} (he : PE X o te) (hr : Room n X.A) (ha : PA X (e :: es) tt)
    (hst : starEach (e :: es) X.env = (false, eval e X.env) :: starEach es X.env := by rfl) (hpl : (backTo pos (starEach es X.env)).any (·.1) = false := by rfl)
    (ht : eval (.Call (.Attribute o m apos) (e :: es) [] pos) X.env = (do
      let ov ← eval o X.env
      standAt apos.atName
      let (f, first) ← holding [ov] (getMethod ov m pl)
      callWith pos f first (backTo pos (starEach (e :: es) X.env)) (backToKw pos (keywordEach [] X.env))) := by rfl) :
    PE X (.Call (.Attribute o m apos) (e :: es) [] pos) (tMethD X n m te tt) := by
  intro pins s σ H Q I h
  refine PySem.W.methodCall_KW (pl := pl) (thn (he pins s σ H _ I h) fun u s1 ⟨x, H1, I1, rx, a, dx, fs, C, f, fd, ps, sp, ex, ea, l, c, hm, hb, F, q⟩ => ?_) ht
  subst ex
  obtain rfl : u = Value.ref a := rx
  refine getmeth_ok I1 ea c hm l ?_
  refine PySem.W.callWith_K (first := [.ref a]) (h₀ := X.base) I.ok.mod.kin hm.kp (thn (ha pos pins s1 σ H1 _ I1 q) fun us s2 ⟨vs, H2, I2, r, q2⟩ => ⟨I2.kIn, ?_⟩) hst hpl
  exact run_fn (us := .ref a :: us) (vs := .ref a :: vs) (dvs := []) (E := E0) F hr hb .nil pass0 I2 (.cons rfl r) (by rw [List.append_nil]; exact q2)
theorem pe_methD0 {pl : Sem Bool} {te : TE} (he : PE X o te) (hr : Room n X.A)
    (ht : eval (.Call (.Attribute o m apos) [] [] pos) X.env = (do
      let ov ← eval o X.env
      standAt apos.atName
      let (f, first) ← holding [ov] (getMethod ov m pl)
      callWith pos f first (backTo pos (starEach [] X.env)) (backToKw pos (keywordEach [] X.env))) := by rfl) :
    PE X (.Call (.Attribute o m apos) [] [] pos) (tMethD X n m te tNil) := by
  intro pins s σ H Q I h
  refine PySem.W.methodCall_KW (pl := pl) (thn (he pins s σ H _ I h) fun u s1 ⟨x, H1, I1, rx, a, dx, fs, C, f, fd, ps, sp, ex, ea, l, c, hm, hb, F, q⟩ => ?_) ht
  subst ex
  obtain rfl : u = Value.ref a := rx
  refine getmeth_ok I1 ea c hm l ?_
  exact PySem.W.callWith_K0 (first := [.ref a]) I1.kIn hm.kp (run_fn (us := [.ref a]) (vs := [.ref a]) (dvs := []) (E := E0) F hr hb .nil pass0 I1 (.cons rfl .nil) q)
def dMeth (X : Cx) (n : Nat) (m : Str) (ta : DTE) (t : DTA) : DTE := fun ρ Q => ta ρ fun d => ∃ C f k S, d = .way C f k ∧ (m == f) = false ∧ MOk X.prog X.w X.K X.mg X.base n C m S ∧ t ρ fun ds => S (d :: ds) Q
theorem de_meth {pl : Sem Bool} (hr : Room n X.A) (he : DE X o ta) (ha : DA X (e :: es) t)
    (hst : starEach (e :: es) X.env = (false, eval e X.env) :: starEach es X.env := by rfl) (hpl : (backTo pos (starEach es X.env)).any (·.1) = false := by rfl)
    (ht : eval (.Call (.Attribute o m apos) (e :: es) [] pos) X.env = (do
      let ov ← eval o X.env
      standAt apos.atName
      let (f, first) ← holding [ov] (getMethod ov m pl)
      callWith pos f first (backTo pos (starEach (e :: es) X.env)) (backToKw pos (keywordEach [] X.env))) := by rfl) :
    DE X (.Call (.Attribute o m apos) (e :: es) [] pos) (dMeth X n m ta t) := by
  obtain ⟨te, p0, l0⟩ := he
  obtain ⟨tt, p1, l1⟩ := ha
  refine ⟨_, pe_methD (pl := pl) p0 hr p1 hst hpl ht, fun ρ σ H Q r h R k => l0 ρ σ H _ r h _ fun d v H1 s1 i1 ⟨C, f, z, S, ed, hne, M, q1⟩ => ?_⟩
  subst ed
  obtain ⟨a, dx, rfl, ha⟩ := is_way.mp i1
  obtain ⟨g, fd, ps, hm, hb, F⟩ := M.ex
  refine ⟨a, dx, _, C, g, fd, ps, _, rfl, H1.sub _ _ ha, by simp [List.lookup, hne], M.cl, hm, hb, F, l1 ρ σ H1 _ (r.mono s1) q1 _ fun ds vs H2 s2 i2 q2 => ?_⟩
  exact ⟨H2, _, Q, rfl, allIs_cons.mpr ⟨_, _, rfl, i1.mono s2, i2⟩, q2, fun d v H3 s3 i3 q3 => k d v H3 ((s1.trans s2).trans s3) i3 q3⟩
def dMeth0 (X : Cx) (n : Nat) (m : Str) (ta : DTE) : DTE := fun ρ Q => ta ρ fun d => ∃ C f k S, d = .way C f k ∧ (m == f) = false ∧ MOk X.prog X.w X.K X.mg X.base n C m S ∧ S [d] Q
theorem de_meth0 {pl : Sem Bool} (hr : Room n X.A) (he : DE X o ta)
    (ht : eval (.Call (.Attribute o m apos) [] [] pos) X.env = (do
      let ov ← eval o X.env
      standAt apos.atName
      let (f, first) ← holding [ov] (getMethod ov m pl)
      callWith pos f first (backTo pos (starEach [] X.env)) (backToKw pos (keywordEach [] X.env))) := by rfl) :
    DE X (.Call (.Attribute o m apos) [] [] pos) (dMeth0 X n m ta) := by
  obtain ⟨te, p0, l0⟩ := he
  refine ⟨_, pe_methD0 (pl := pl) p0 hr ht, fun ρ σ H Q r h R k => l0 ρ σ H _ r h _ fun d v H1 s1 i1 ⟨C, f, z, S, ed, hne, M, q1⟩ => ?_⟩
  subst ed
  obtain ⟨a, dx, rfl, ha⟩ := is_way.mp i1
  obtain ⟨g, fd, ps, hm, hb, F⟩ := M.ex
  refine ⟨a, dx, _, C, g, fd, ps, _, rfl, H1.sub _ _ ha, by simp [List.lookup, hne], M.cl, hm, hb, F, ?_⟩
  exact ⟨H1, _, Q, rfl, allIs_cons.mpr ⟨_, _, rfl, i1, allIs_nil.mpr rfl⟩, q1, fun d v H3 s3 i3 q3 => k d v H3 (s1.trans s3) i3 q3⟩
def dFld (K : PySem.W.Frag) (f : Str) (ta : DTE) : DTE := fun ρ Q => ta ρ fun d => ∃ C g k, d = .way C g k ∧ (f == g) = true ∧ Cls K C ∧ NoAttr K C f ∧ Q (.int k)
theorem de_fld {f : Str} (ha : DE X a ta) (hb : attributeBase a f X.env (eval a X.env) = eval a X.env := by rfl) : DE X (.Attribute a f pos) (dFld X.K f ta) := by
  obtain ⟨te, p1, l1⟩ := ha
  refine ⟨_, pe_fld p1 hb, fun ρ σ H Q r h R k => l1 ρ σ H _ r h _ fun d v H1 s1 i1 ⟨C, g, z, ed, hfg, hc, hn, q1⟩ => ?_⟩
  subst ed
  obtain ⟨p, dx, rfl, hp⟩ := is_way.mp i1
  exact ⟨p, C, dx, _, .int z, rfl, H1.sub _ _ hp, hc, hn, by simp [List.lookup, hfg], k _ _ H1 s1 (is_int.mpr rfl) q1⟩
def spInitW (C : Addr) (f : Str) (ok : Int → Prop) : Sp := fun vs H Q _ => ∃ p dx i, vs = [.ref p, .int i] ∧ H p = some (.ins C dx []) ∧ ok i ∧ ∀ H' : Hp, H' p = some (.ins C dx [(f, .int i)]) → (∀ b o, H b = some o → b ≠ p → H' b = some o) → Q .non H'
structure KOk (P : Program) (w : World) (K : PySem.W.Frag) (mg : Str → Option Value) (base : Heap) (n : Nat) (x : Str) (C : Addr) (f : Str) (ok : Int → Prop) : Prop where
  ex : ∃ g fd ps, mg x = some (.ref C) ∧ Mk K C g ∧ Binds K fd ps [] ∧ FnOk P w K mg base CX0 n g fd ps (spInitW C f ok)
def dMake (C : Addr) (f : Str) (ok : Int → Prop) (t : DTA) : DTE := fun ρ Q => t ρ fun ds => ∃ i, ds = [.int i] ∧ ok i ∧ Q (.way C f i)
theorem de_make {C : Addr} {f : Str} {ok : Int → Prop} (G : KOk X.prog X.w X.K X.mg X.base n x C f ok) (hr : Room (n + 1) X.A) (hg : Gl X x) (ha : DA X (e :: es) t) (hdb : (x == ("__debug__" : Str)) = false := by decide)
    (he : starEach (e :: es) X.env = (false, eval e X.env) :: starEach es X.env := by rfl) (hpl : (backTo pos (starEach es X.env)).any (·.1) = false := by rfl) : DE X (.Call (.Name x p) (e :: es) [] pos) (dMake C f ok t) := by
  obtain ⟨g, fd, ps, hm, M, hb, F⟩ := G.ex
  obtain ⟨te, p1, l1⟩ := ha
  refine ⟨_, pe_make M F hr hg hm hb .nil pass0 p1 hdb he hpl, fun ρ σ H Q r h R k => l1 ρ σ H _ r h _ fun ds vs H1 s1 i1 ⟨i, ed, hok, q1⟩ y dy ny ndy ne => ?_⟩
  subst ed
  obtain ⟨v, rfl, hv⟩ := i1.one
  obtain rfl := is_int.mp hv
  refine ⟨y, dy, i, rfl, upd_same, hok, fun H' e1 e2 => ⟨rfl, ?_⟩⟩
  have keep : Same H1.h H' := fun b o hb => e2 b o (by rw [upd_ne (ne_of_none hb ny), upd_ne (ne_of_none hb ndy)]; exact hb) (ne_of_none hb ny)
  have gy : H1.g y = none := H1.sub.free ny
  exact k _ _ ⟨upd H1.g y (.ins C dy [(f, .int i)]), H', fun b u q => by
      by_cases e : b = y
      · subst e; rw [upd_same] at q; rw [e1]; exact q
      · rw [upd_ne e] at q; exact keep _ _ (H1.sub _ _ q)⟩
    (s1.trans ⟨same_new gy _, keep, fun a z1 z2 => by
      have : a ≠ y := fun e => z1 (e ▸ ny)
      show upd H1.g y _ a = none
      rw [upd_ne this]; exact z2⟩) (is_way.mpr ⟨y, dy, rfl, upd_same⟩) q1

structure KitT (K : PySem.W.Frag) : Prop where
  ib : PySem.W.kitOne K (.type "int") (.type "bool") = some false
  it : PySem.W.kitOne K (.type "int") (.type "tuple") = some false
  il : PySem.W.kitOne K (.type "int") (.type "list") = some false
  bi : PySem.W.kitOne K (.type "bool") (.type "int") = some true
  bt : PySem.W.kitOne K (.type "bool") (.type "tuple") = some false
  bl : PySem.W.kitOne K (.type "bool") (.type "list") = some false
  ti : PySem.W.kitOne K (.type "tuple") (.type "int") = some false
  tb : PySem.W.kitOne K (.type "tuple") (.type "bool") = some false
  tl : PySem.W.kitOne K (.type "tuple") (.type "list") = some false
  li : PySem.W.kitOne K (.type "list") (.type "int") = some false
  lb : PySem.W.kitOne K (.type "list") (.type "bool") = some false
  lt : PySem.W.kitOne K (.type "list") (.type "tuple") = some false
theorem kit_same {K : PySem.W.Frag} {t : Value} : PySem.W.kitOne K t t = some true := by
  unfold PySem.W.kitOne
  rw [if_pos (beq_self_eq_true t)]
theorem kit_bb {K : PySem.W.Frag} {t c : String} {b : Bool} (h1 : (Value.type t == Value.type c) = false) (h2 : PySem.W.kitMeta c = true) (h3 : (fastBuiltinMro t).map (·.contains (Value.type c)) = some b) : PySem.W.kitOne K (.type t) (.type c) = some b := by
  unfold PySem.W.kitOne PySem.W.kitCls
  rw [if_neg (by rw [h1]; decide)]
  show (if PySem.W.kitMeta c = true then PySem.W.subIn K (.type t) (.type c) else none) = some b
  rw [if_pos h2]
  exact h3
theorem kitT (K : PySem.W.Frag) : KitT K := by
  constructor <;> exact kit_bb (by decide +kernel) (by decide +kernel) (by decide +kernel)
inductive TyN where | int | bool | tuple | list
def TyN.str : TyN → String
  | .int => "int" | .bool => "bool" | .tuple => "tuple" | .list => "list"
def isiD : Dt → TyN → Option Bool
  | .int _, .int => some true | .int _, .bool => some false | .int _, .tuple => some false | .int _, .list => some false
  | .bl _, .int => some true | .bl _, .bool => some true | .bl _, .tuple => some false | .bl _, .list => some false
  | .tup _, .int => some false | .tup _, .bool => some false | .tup _, .tuple => some true | .tup _, .list => some false
  | .lst _, .int => some false | .lst _, .bool => some false | .lst _, .tuple => some false | .lst _, .list => some true
  | _, _ => none
theorem isi_ty {H : Vw} {d : Dt} {v : V} {T : TyN} {b : Bool} (kt : KitT K) (h : Is K H.g d v) (e : isiD d T = some b) : ∃ tv, TyOf K H.h v tv ∧ PySem.W.kitOne K tv (.type T.str) = some b := by
  cases d with
  | int i =>
    obtain rfl := is_int.mp h
    refine ⟨_, .int i, ?_⟩
    cases T <;> (obtain rfl := Option.some.inj e; first | exact kit_same | exact kt.ib | exact kt.it | exact kt.il)
  | bl i =>
    obtain rfl := is_bl.mp h
    refine ⟨_, .bl i, ?_⟩
    cases T <;> (obtain rfl := Option.some.inj e; first | exact kit_same | exact kt.bi | exact kt.bt | exact kt.bl)
  | tup ds =>
    obtain ⟨a, xs, rfl, h1, _⟩ := is_tup.mp h
    refine ⟨_, .tup (H.sub _ _ h1), ?_⟩
    cases T <;> (obtain rfl := Option.some.inj e; first | exact kit_same | exact kt.ti | exact kt.tb | exact kt.tl)
  | lst ds =>
    obtain ⟨a, xs, rfl, h1, _⟩ := is_lst.mp h
    refine ⟨_, .lst (H.sub _ _ h1), ?_⟩
    cases T <;> (obtain rfl := Option.some.inj e; first | exact kit_same | exact kt.li | exact kt.lb | exact kt.lt)
  | _ => cases T <;> cases e
theorem call_isi : CallR X (.builtin "isinstance") (fun xs H Q => ∃ v T tv b, xs = [v, .ty T] ∧ TyOf X.K H v tv ∧ PySem.W.kitOne X.K tv (.type T) = some b ∧ Q (.bl b) H) := by
  intro pins s σ H xs us Q I r h
  obtain ⟨v, T, tv, b, rfl, hty, hk, q⟩ := h
  cases r with
  | cons r1 r2 =>
    cases r2 with
    | cons r3 r4 =>
      cases r4
      cases r3
      exact isinst_ok I r1 hty hk fun tk => ⟨.bl b, H, I.tok _, rfl, q⟩
def dIsi (T : TyN) (ta : DTE) : DTE := fun ρ Q => ta ρ fun d => ∃ b, isiD d T = some b ∧ Q (.bl b)
theorem de_isi {T : TyN} {y : Str} {p' : Pos} (kt : KitT X.K) (hm : X.mg "isinstance" = none) (hmc : X.mg y = none) (hv : bootBuiltins y = some (.type T.str)) (ha : DE X a ta)
    (hg : Gl X "isinstance" := by rfl) (hgc : Gl X y := by rfl) (hny : y ≠ "__name__" := by decide) (hdy : (y == ("__debug__" : Str)) = false := by decide)
    (hs : starEach [a, .Name y p'] X.env = (false, eval a X.env) :: starEach [.Name y p'] X.env := by rfl) (hs2 : starEach [.Name y p'] X.env = (false, eval (.Name y p') X.env) :: starEach [] X.env := by rfl)
    (hpl : (backTo pos (starEach [.Name y p'] X.env)).any (·.1) = false := by rfl) :
    DE X (.Call (.Name "isinstance" p) [a, .Name y p'] [] pos) (dIsi T ta) := by
  obtain ⟨te, p1, l1⟩ := ha
  have pc : PE X (.Name y p') (tC (.ty T.str)) := pe_bltn hgc hmc hv rfl hny hdy
  refine ⟨_, pe_callB call_isi hg hm boot_isinstance (pa_cons p1 (pa_cons pc pa_nil hs2) hs) (by decide) (by decide) hs hpl, fun ρ σ H Q r h R k => l1 ρ σ H _ r h _ fun d v H1 s1 i1 ⟨b, e, q⟩ => ?_⟩
  obtain ⟨tv, h1, h2⟩ := isi_ty kt i1 e
  exact ⟨v, T.str, tv, b, rfl, h1, h2, k _ _ H1 s1 (is_bl.mpr rfl) q⟩
end

structure DEnds where
  nx : DS → Prop
  rt : Dt → Prop
  bk : DS → Prop := fun _ => False
  ct : DS → Prop := fun _ => False
abbrev DTS := DEnds → DS → Prop
structure At (K : PySem.W.Frag) (Z : Hp) (W0 : Vw) (G : Hp) (W : Vw) (ρ : DS) (σ : St) : Prop where
  le : Le W0 W
  gs : Same G W.g
  rl : Rl K Z W0.h W ρ σ
inductive Fr where | d | l | t (a b : Bool)
def NewL (K : PySem.W.Frag) (F : Hp) (W : Vw) (d : Dt) (v : V) : Prop := ∃ es p xs, d = .lst es ∧ v = .ref p ∧ F p = none ∧ W.h p = some (.lst xs) ∧ W.g p = none ∧ AllIs K W.g es xs
def Prt (K : PySem.W.Frag) (F : Hp) (W : Vw) (b : Bool) (d : Dt) (v : V) : Prop := match b with
  | false => Is K W.g d v
  | true => NewL K F W d v ∨ scalD d = true ∧ Is K W.g d v
def Tld (K : PySem.W.Frag) (F : Hp) (W : Vw) : Fr → Dt → V → Prop
  | .d, d, v => Is K W.g d v
  | .l, d, v => NewL K F W d v
  | .t a b, d, v => ∃ d1 d2 q u1 u2, d = .tup [d1, d2] ∧ v = .ref q ∧ W.g q = some (.tup [u1, u2]) ∧ Prt K F W a d1 u1 ∧ Prt K F W b d2 u2 ∧ (∀ es fs, a = true → b = true → d1 = .lst es → d2 = .lst fs → u1 ≠ u2)
structure Sim (K : PySem.W.Frag) (Z : Hp) (fr : Fr) (W0 : Vw) (G : Hp) (D : DEnds) (D' : Ends) : Prop where
  nx : ∀ ρ σ W', At K Z W0 G W' ρ σ → D.nx ρ → D'.nx σ W'.h
  tl : ∀ d v W', Le W0 W' → Tld K W0.h W' fr d v → D.rt d → D'.rt v W'.h
  bk : ∀ ρ σ W', At K Z W0 G W' ρ σ → D.bk ρ → D'.bk σ W'.h
  ct : ∀ ρ σ W', At K Z W0 G W' ρ σ → D.ct ρ → D'.ct σ W'.h
theorem NewL.le {F G : Hp} {W : Vw} {d : Dt} {v : V} (h : NewL K F W d v) (z : ∀ p, F p = none → G p = none) : NewL K G W d v :=
  let ⟨es, p, xs, h1, h2, h3, h4⟩ := h; ⟨es, p, xs, h1, h2, z p h3, h4⟩
theorem Sim.rf {Z : Hp} {fr : Fr} {W0 : Vw} {G : Hp} {D : DEnds} {D' : Ends} (s : Sim K Z fr W0 G D D') (hf : fr = .d ∨ fr = .l) (es : List Dt) (p : Addr) (xs : List V) (W' : Vw) (le : Le W0 W') (h0 : W0.h p = none) (h1 : W'.h p = some (.lst xs)) (h2 : W'.g p = none) (h3 : AllIs K W'.g es xs) (q : D.rt (.lst es)) : D'.rt (.ref p) W'.h := by
  rcases hf with rfl | rfl
  · exact s.tl (.lst es) (.ref p) (W'.frz p _ h1) (le_frz le h0 h1 h2) (is_lst.mpr ⟨p, xs, rfl, upd_same, AllIs.mono0 (same_new h2 _) h3⟩) q
  · exact s.tl (.lst es) (.ref p) W' le ⟨es, p, xs, rfl, rfl, h0, h1, h2, h3⟩ q
section
variable {W0 : Vw} {G G' : Hp} {ρ : DS} {σ : St} {fr : Fr}
theorem At.step (a : At K Z W0 G W ρ σ) (s : Le W W') : At K Z W0 G W' ρ σ := ⟨a.le.trans s, a.gs.trans s.g, a.rl.mono s⟩
theorem At.set (a : At K Z W0 G W ρ σ) {d : Dt} {v : V} (i : Nat) (h : Is K W.g d v) : At K Z W0 G W (ρ.set i (.some d)) (σ.set i (some v)) := ⟨a.le, a.gs, a.rl.set i h⟩
theorem At.weak (a : At K Z W0 G W ρ σ) (s : Same G' G) : At K Z W0 G' W ρ σ := ⟨a.le, s.trans a.gs, a.rl⟩
theorem At.own (a : At K Z W0 G W ρ σ) (s : Le W W') {p : Addr} {xs : List V} {ds : List Dt} (i : Nat) (h0 : W.h p = none) (h1 : W'.h p = some (.lst xs)) (h2 : W'.g p = none) (h3 : AllIs K W'.g ds xs) :
    At K Z W0 G W' (ρ.set i (.own ds)) (σ.set i (some (.ref p))) := ⟨a.le.trans s, a.gs.trans s.g, a.rl.own s i h0 h1 h2 h3⟩
theorem At.put (at_ : At K Z W0 G W ρ σ) {i : Nat} {ds es : List Dt} {a : Addr} {ys : List V} (hi : ρ[i]? = some (.own ds)) (ha : σ[i]? = some (some (.ref a))) (hg : W.g a = none) (hF : W0.h a = none) (h3 : AllIs K W.g es ys) :
    At K Z W0 G (W.mine a (.lst ys) hg) (ρ.set i (.own es)) σ :=
  ⟨⟨at_.le.g, fun b o q => by
      have : b ≠ a := fun e => by rw [e, hF] at q; cases q
      show upd W.h a _ b = some o
      rw [upd_ne this]; exact at_.le.h _ _ q, at_.le.n⟩, at_.gs, at_.rl.put hi ha hg hF h3⟩
theorem At.frz (at_ : At K Z W0 G W ρ σ) {i : Nat} {ds : List Dt} {a : Addr} {xs : List V} (hi : ρ[i]? = some (.own ds)) (ha : σ[i]? = some (some (.ref a))) (hh : W.h a = some (.lst xs)) (hg : W.g a = none) (hF : W0.h a = none) (h3 : AllIs K W.g ds xs) :
    At K Z W0 G (W.frz a _ hh) (ρ.set i (.some (.lst ds))) σ :=
  ⟨le_frz at_.le hF hh hg, at_.gs.trans (same_new hg _), at_.rl.frz hi ha hh hg h3⟩
theorem Sim.weak {D : DEnds} {D' : Ends} (h : Sim K Z fr W0 G' D D') (s : Same G' G) : Sim K Z fr W0 G D D' :=
  ⟨fun ρ σ W' a => h.nx ρ σ W' (a.weak s), h.tl, fun ρ σ W' a => h.bk ρ σ W' (a.weak s), fun ρ σ W' a => h.ct ρ σ W' (a.weak s)⟩
end
def LiS (K : PySem.W.Frag) (Z : Hp) (fr : Fr) (ts : TS) (t : DTS) : Prop := ∀ (W0 : Vw) (G : Hp) (ρ : DS) (σ : St) (W : Vw) (D : DEnds) (D' : Ends), At K Z W0 G W ρ σ → Sim K Z fr W0 G D D' → t D ρ → ts D' σ W.h
def DSt (X : Cx) (fr : Fr) (st : Stmt) (t : DTS) : Prop := ∃ ts, PS X st ts ∧ LiS X.K (Zx X) fr ts t
def DSs (X : Cx) (fr : Fr) (sts : List Stmt) (t : DTS) : Prop := ∃ ts, PSs X sts ts ∧ LiS X.K (Zx X) fr ts t
def dNext : DTS := fun D ρ => D.nx ρ
def dSeq (t u : DTS) : DTS := fun D ρ => t { D with nx := u D } ρ
def dRet (te : DTE) : DTS := fun D ρ => te ρ D.rt
def dRetO (i : Nat) : DTS := fun D ρ => ∃ ds, ρ[i]? = some (.own ds) ∧ D.rt (.lst ds)
def dSet (i : Nat) (te : DTE) : DTS := fun D ρ => te ρ fun d => D.nx (ρ.set i (.some d))
def dSetO (i : Nat) (te : DTE) : DTS := fun D ρ => te ρ fun d => ∃ ds, d = .lst ds ∧ D.nx (ρ.set i (.own ds))
def dIfS (c : DTT) (t u : DTS) : DTS := fun D ρ => c ρ fun b => if b = true then t D ρ else u D ρ
def dDrop (te : DTE) : DTS := fun D ρ => te ρ fun _ => D.nx ρ
def dNever : DTS := fun _ _ => False
def dUnp (i j : Nat) (te : DTE) : DTS := fun D ρ => te ρ fun d => ∃ a b, d = .tup [a, b] ∧ D.nx ((ρ.set i (.some a)).set j (.some b))
def dForL (j : Nat) (te : DTE) (tb : DTS) : DTS := fun D ρ => te ρ fun d => ∃ (ds : List Dt) (Pv : Nat → DS → Prop), listOf d = some ds ∧ Pv 0 ρ ∧
  (∀ i e ρ', ds[i]? = some e → Pv i ρ' → tb { D with nx := Pv (i + 1), ct := Pv (i + 1), bk := D.nx } (ρ'.set j (.some e))) ∧ ∀ ρ', Pv ds.length ρ' → D.nx ρ'
def dForR2 (j : Nat) (ta : DTA) (tb : DTS) : DTS := fun D ρ => ta ρ fun ds => ∃ (m n : Int) (Pv : Nat → DS → Prop), ds = [.int m, .int n] ∧ -(2 ^ 62) ≤ m ∧ m < 2 ^ 62 ∧ -(2 ^ 62) ≤ n ∧ n < 2 ^ 62 ∧ Pv 0 ρ ∧
  (∀ (i : Nat) ρ', i < (n - m).toNat → Pv i ρ' → tb { D with nx := Pv (i + 1), ct := Pv (i + 1), bk := D.nx } (ρ'.set j (.some (.int (m + i))))) ∧ ∀ ρ', Pv (n - m).toNat ρ' → D.nx ρ'
def dWhile (c : DTT) (tb : DTS) : DTS := fun D ρ => ∃ Pv : Nat → DS → Prop, (∃ m, Pv m ρ) ∧ ∀ m ρ', Pv m ρ' →
  c ρ' fun b => if b = true then tb { D with nx := fun ρ2 => ∃ m', m' < m ∧ Pv m' ρ2, ct := fun ρ2 => ∃ m', m' < m ∧ Pv m' ρ2, bk := D.nx } ρ' else D.nx ρ'
section
variable {X : Cx} {fr : Fr} {st : Stmt} {rest : List Stmt} {t u : DTS} {e : Expr} {te : DTE} {pos p0 p1 p2 : Pos}
theorem dss_nil : DSs X fr [] dNext := ⟨_, pss_nil, fun W0 G ρ σ W D D' a s h => s.nx ρ σ W a h⟩
theorem dss_cons (h1 : DSt X fr st t) (h2 : DSs X fr rest u) : DSs X fr (st :: rest) (dSeq t u) := by
  obtain ⟨ts, p1, l1⟩ := h1
  obtain ⟨us, p2, l2⟩ := h2
  exact ⟨_, pss_cons p1 p2, fun W0 G ρ σ W D D' a s h => l1 W0 G ρ σ W { D with nx := u D } { D' with nx := us D' } a ⟨fun ρ' σ' W' a' q => l2 W0 G ρ' σ' W' D D' a' s q, s.tl, s.bk, s.ct⟩ h⟩
theorem dss_one (h : DSt X fr st t) : DSs X fr [st] t := let ⟨_, p, l⟩ := h; ⟨_, pss_one p, l⟩
theorem ds_ret (h : DE X e te) : DSt X .d (.Return (some e) pos) (dRet te) := by
  obtain ⟨tt, p, l⟩ := h
  exact ⟨_, ps_ret p, fun W0 G ρ σ W D D' a s h => l ρ σ W _ a.rl h _ fun d v W1 s1 i1 q1 => s.tl d v W1 (a.le.trans s1) i1 q1⟩
theorem ds_retF (h : DF X e te) (hf : fr = .d ∨ fr = .l := by first | exact .inl rfl | exact .inr rfl) : DSt X fr (.Return (some e) pos) (dRet te) := by
  obtain ⟨tt, p, l⟩ := h
  exact ⟨_, ps_ret p, fun W0 G ρ σ W D D' a s h => l ρ σ W _ a.rl h _ fun es q xs W1 s1 h0 h1 h2 i1 q1 => s.rf hf es q xs W1 (a.le.trans s1) (a.le.h.free h0) h1 h2 i1 q1⟩
theorem ds_retO (i : Nat) {x : Str} (hN : X.N[i]? = some x := by rfl) (hv : Vis X.env.scope x := by first | exact Or.inl rfl | exact Or.inr (Or.inl rfl) | exact Or.inr (Or.inr rfl)) (hd : (x == ("__debug__" : Str)) = false := by decide)
    (hcd : (x == ("__classdict__" : Str)) = false := by decide) (hf : fr = .d ∨ fr = .l := by first | exact .inl rfl | exact .inr rfl) : DSt X fr (.Return (some (.Name x p0)) pos) (dRetO i) := by
  refine ⟨_, ps_ret (pe_var hN hv hd hcd), fun W0 G ρ σ W D D' a s h => ?_⟩
  obtain ⟨ds, e, q⟩ := h
  obtain ⟨b, xs, e1, e2, e3, e4, e5⟩ := a.rl.ow i ds e
  exact ⟨.ref b, e1, s.rf hf ds b xs W a.le e4 e2 e3 e5 q⟩
theorem ds_expr (h : DE X e te) (hs : swapsWith e none pos.line X.env = pure false := by rfl) : DSt X fr (.Expr e pos) (dDrop te) := by
  obtain ⟨tt, p, l⟩ := h
  exact ⟨_, ps_expr p hs, fun W0 G ρ σ W D D' a s h => l ρ σ W _ a.rl h _ fun d v W1 s1 i1 q1 => s.nx ρ σ W1 (a.step s1) q1⟩
theorem ds_set {i : Nat} {x : Str} {pos' : Pos} (hN : X.N.Nodup) (hi : X.N[i]? = some x) (hx : Loc X.env.scope x) (h : DE X e te) (hs : swapsWith e (some (.Name x pos')) pos.line X.env = pure false := by rfl) (hf : X.fn x = true ∨ X.env.scope.names.lookup x = some .local := by first | exact .inl rfl | exact .inr rfl | assumption) :
    DSt X fr (.Assign [.Name x pos'] e pos) (dSet i te) := by
  obtain ⟨tt, p, l⟩ := h
  exact ⟨_, ps_set hN hi hx p hs hf, fun W0 G ρ σ W D D' a s h => l ρ σ W _ a.rl h _ fun d v W1 s1 i1 q1 => s.nx _ _ W1 ((a.step s1).set i i1) q1⟩
theorem ds_setO {i : Nat} {x : Str} {pos' : Pos} (hN : X.N.Nodup) (hi : X.N[i]? = some x) (hx : Loc X.env.scope x) (h : DF X e te) (hs : swapsWith e (some (.Name x pos')) pos.line X.env = pure false := by rfl) (hf : X.fn x = true ∨ X.env.scope.names.lookup x = some .local := by first | exact .inl rfl | exact .inr rfl | assumption) :
    DSt X fr (.Assign [.Name x pos'] e pos) (dSetO i te) := by
  obtain ⟨tt, p, l⟩ := h
  refine ⟨_, ps_set hN hi hx p hs hf, fun W0 G ρ σ W D D' a s h => l ρ σ W _ a.rl h _ fun es q xs W1 s1 h0 h1 h2 i1 ⟨ds, ed, q1⟩ => ?_⟩
  cases ed
  exact s.nx _ _ W1 (a.own s1 i h0 h1 h2 i1) q1
theorem ds_if {c : Expr} {a b : List Stmt} {tc : DTT} (hc : DT X c tc) (ha : DSs X fr a t) (hb : DSs X fr b u) : DSt X fr (.If c a b pos) (dIfS tc t u) := by
  obtain ⟨t0, p0, l0⟩ := hc
  obtain ⟨t1, p1, l1⟩ := ha
  obtain ⟨t2, p2, l2⟩ := hb
  refine ⟨_, ps_if p0 p1 p2, fun W0 G ρ σ W D D' a s h => l0 ρ σ W _ a.rl h _ fun k W1 s1 q1 => ?_⟩
  cases k with
  | true => exact l1 W0 G ρ σ W1 D D' (a.step s1) s q1
  | false => exact l2 W0 G ρ σ W1 D D' (a.step s1) s q1
theorem ds_never : DSt X fr st dNever := ⟨_, ps_never, fun _ _ _ _ _ _ _ _ _ h => h.elim⟩
theorem ds_unp {i j : Nat} {x y : Str} {px py pt : Pos} {kt : Nat} (hc : X.calm = true) (hN : X.N.Nodup) (hi : X.N[i]? = some x) (hj : X.N[j]? = some y) (hx : Loc X.env.scope x) (hy : Loc X.env.scope y) (h : DE X e te)
    (hf : X.fn x = true ∨ X.env.scope.names.lookup x = some .local := by first | exact .inl rfl | exact .inr rfl | assumption) (hf2 : X.fn y = true ∨ X.env.scope.names.lookup y = some .local := by first | exact .inl rfl | exact .inr rfl | assumption)
    (hs : swapsWithSole [.Tuple [.Name x px, .Name y py] kt pt] e pos.line X.env = pure false := by rfl) (hw : swappedStores [.Tuple [.Name x px, .Name y py] kt pt] e X.env = pure none := by rfl) :
    DSt X fr (.Assign [.Tuple [.Name x px, .Name y py] kt pt] e pos) (dUnp i j te) := by
  obtain ⟨tt, p, l⟩ := h
  refine ⟨_, ps_asg p (pg_tup hc (pgs_cons (pg_name hN hi hx hf) (pgs_cons (pg_name hN hj hy hf2) pgs_nil))) hs hw, fun W0 G ρ σ W D D' at_ s h => l ρ σ W _ at_.rl h _ fun d v W1 s1 i1 ⟨a, b, ed, q1⟩ => ?_⟩
  subst ed
  obtain ⟨q, xs, rfl, hq, ha⟩ := is_tup.mp i1
  obtain ⟨v1, v2, rfl, h1, h2⟩ := ha.two
  refine ⟨q, _, rfl, .of (W1.sub _ _ hq), rfl, v1, [v2], rfl, v2, [], rfl, rfl, ?_⟩
  exact s.nx _ _ W1 (((at_.step s1).set i h1).set j h2) q1
def InL (K : PySem.W.Frag) (Z : Hp) (W0 W1 : Vw) (Pv : DS → Prop) (σ : St) (H : Hp) : Prop := ∃ (ρ : DS) (W : Vw), W.h = H ∧ At K Z W0 W1.g W ρ σ ∧ Pv ρ
theorem sim_loop {K : PySem.W.Frag} {W0 W1 : Vw} {G : Hp} {D : DEnds} {D' : Ends} {Pv : DS → Prop} (s : Sim K Z fr W0 G D D') (hg : Same G W1.g) :
    Sim K Z fr W0 W1.g { D with nx := Pv, ct := Pv, bk := D.nx } { D' with nx := InL K Z W0 W1 Pv, ct := InL K Z W0 W1 Pv, bk := D'.nx } :=
  ⟨fun ρ3 σ3 W3 a3 q3 => ⟨ρ3, W3, rfl, a3, q3⟩, s.tl, fun ρ3 σ3 W3 a3 q3 => s.nx ρ3 σ3 W3 (a3.weak hg) q3, fun ρ3 σ3 W3 a3 q3 => ⟨ρ3, W3, rfl, a3, q3⟩⟩
theorem At.now {K : PySem.W.Frag} {W0 : Vw} {G : Hp} {W : Vw} {ρ : DS} {σ : St} (a : At K Z W0 G W ρ σ) : At K Z W0 W.g W ρ σ := ⟨a.le, Same.refl _, a.rl⟩
theorem ds_for {j : Nat} {x : Str} {iter : Expr} {body : List Stmt} {tb : DTS} {px : Pos} (hc : X.calm = true) (hN : X.N.Nodup) (hi : X.N[j]? = some x) (hx : Loc X.env.scope x) (hp : PassesOwn (model X.prog X.w) X.A X.env X.xe)
    (h : DE X iter te) (hb : DSs X fr body tb) (hs : ∀ x, foldedSetIterable iter X.env x = pure x := by intro _; rfl)
    (hf : X.fn x = true ∨ X.env.scope.names.lookup x = some .local := by first | exact .inl rfl | exact .inr rfl | assumption) : DSt X fr (.For (.Name x px) iter body [] pos) (dForL j te tb) := by
  obtain ⟨tt, p, l⟩ := h
  obtain ⟨tbs, p2, l2⟩ := hb
  refine ⟨_, ps_for hp hc (pi_list p) (pg_name hN hi hx hf) p2 hs, fun W0 G ρ σ W D D' at_ s h => l ρ σ W _ at_.rl h _ fun d v W1 s1 i1 ⟨ds, Pv, el, h0, ht, hd⟩ => ?_⟩
  have hg : Same G W1.g := at_.gs.trans s1.g
  have hq : ∃ a xs, v = .ref a ∧ (∀ W2 : Vw, Same W1.g W2.g → SqL X.K W2.h a xs) ∧ AllIs X.K W1.g ds xs := by
    cases d with
    | lst es =>
      obtain rfl : es = ds := Option.some.inj el
      obtain ⟨a, xs, rfl, h1, h2⟩ := is_lst.mp i1
      exact ⟨a, xs, rfl, fun W2 s2 => .of (W2.sub _ _ (s2 _ _ h1)), h2⟩
    | scr ns =>
      obtain rfl : ns.map Dt.int = ds := Option.some.inj el
      obtain ⟨a, rfl, h1⟩ := is_scr.mp i1
      exact ⟨a, _, rfl, fun W2 s2 => W2.sub.seq (s2.seq h1), AllIs.ints⟩
    | _ => cases el
  obtain ⟨a, xs, rfl, hq, ha⟩ := hq
  refine ⟨a, rfl, ⟨xs, hq W1 (Same.refl _)⟩, for_list (K := X.K) (a := a) (xs := xs) (fun i => InL X.K (Zx X) W0 W1 (Pv i)) ⟨ρ, W1, rfl, (at_.step s1).now, h0⟩ (fun i σ' H' _ ⟨_, W2, e2, a2, _⟩ => e2 ▸ hq W2 a2.gs) ?_ ?_⟩
  · rintro i x σ' _ hi ⟨ρ', W2, rfl, a2, hp2⟩
    obtain ⟨e, he, ie⟩ := ha.get' hi
    exact l2 W0 W1.g _ _ W2 { D with nx := Pv (i + 1), ct := Pv (i + 1), bk := D.nx } _ (a2.set j (Is.mono0 a2.gs ie)) (sim_loop s hg) (ht i e ρ' he hp2)
  · rintro σ' _ ⟨ρ', W2, rfl, a2, hp2⟩
    exact s.nx ρ' σ' W2 (a2.weak hg) (hd ρ' (by rw [ha.length]; exact hp2))
theorem ds_while {c : Expr} {body : List Stmt} {tc : DTT} {tb : DTS} (hp : PassesOwn (model X.prog X.w) X.A X.env X.xe) (hc : DT X c tc) (hb : DSs X fr body tb) : DSt X fr (.While c body [] pos) (dWhile tc tb) := by
  obtain ⟨t0, p0, l0⟩ := hc
  obtain ⟨tbs, p2, l2⟩ := hb
  refine ⟨_, ps_while hp p0 p2, fun W0 G ρ σ W D D' at_ s h => ?_⟩
  obtain ⟨Pv, ⟨m0, h0⟩, ht⟩ := h
  refine ⟨fun m => InL X.K (Zx X) W0 W (Pv m), ⟨m0, ρ, W, rfl, at_.now, h0⟩, ?_⟩
  rintro m σ' _ ⟨ρ', W2, rfl, a2, hp2⟩
  refine l0 ρ' σ' W2 _ a2.rl (ht m ρ' hp2) _ fun b W3 s3 q3 => ?_
  have a3 := a2.step s3
  cases b with
  | true =>
    refine ⟨InL X.K (Zx X) W0 W (fun ρ2 => ∃ m', m' < m ∧ Pv m' ρ2), fun σ4 H4 ⟨ρ4, W4, e4, a4, m', hm, p4⟩ => ⟨m', hm, ρ4, W4, e4, a4, p4⟩, ?_⟩
    exact l2 W0 W.g _ _ W3 { D with nx := fun ρ2 => ∃ m', m' < m ∧ Pv m' ρ2, ct := fun ρ2 => ∃ m', m' < m ∧ Pv m' ρ2, bk := D.nx } _ a3 (sim_loop s at_.gs) q3
  | false => exact s.nx ρ' σ' W3 (a3.weak at_.gs) q3

variable {i : Nat} {x : Str}
def dApp (i : Nat) (te : DTE) : DTS := fun D ρ => ∃ ds, ρ[i]? = some (.own ds) ∧ te ρ fun d => ds.length ≤ 100000 ∧ D.nx (ρ.set i (.own (ds ++ [d])))
theorem ds_app (i : Nat) (h : DE X e te) (hN : X.N[i]? = some x := by rfl) (hv : Vis X.env.scope x := by first | exact Or.inl rfl | exact Or.inr (Or.inl rfl) | exact Or.inr (Or.inr rfl)) (hd : (x == ("__debug__" : Str)) = false := by decide)
    (hcd : (x == ("__classdict__" : Str)) = false := by decide) (hst : starEach [e] X.env = (false, eval e X.env) :: starEach [] X.env := by rfl) (hpl : (backTo p2 (starEach [] X.env)).any (·.1) = false := by rfl)
    (hfew : ((backTo p2 (starEach [e] X.env)).all (fun x => !x.1) && (backToKw p2 (keywordEach [] X.env)).all (fun x => x.1.isSome)
      && decide ([e].length + ([] : List Keyword).length + (if ([] : List Keyword).isEmpty then 0 else 1) < 30)) = true := by rfl)
    (hbase : attributeBase (.Name x p0) "append" X.env (eval (.Name x p0) X.env) = eval (.Name x p0) X.env := by rfl) (hline : (p1.endLine == p2.line) = true := by rfl)
    (hs : swapsWith (.Call (.Attribute (.Name x p0) "append" p1) [e] [] p2) none pos.line X.env = pure false := by rfl) :
    DSt X fr (.Expr (.Call (.Attribute (.Name x p0) "append" p1) [e] [] p2) pos) (dApp i te) := by
  obtain ⟨tt, p, l⟩ := h
  refine ⟨_, ps_expr (pe_bm PySem.F.plainAttrs_list PySem.F.slot_list_append PySem.F.type_list_append mt_append (pe_var hN hv hd hcd) (pa_cons p pa_nil hst) hbase hfew hline hst hpl) hs, fun W0 G ρ σ W D D' at_ s h => ?_⟩
  obtain ⟨ds, ei, h⟩ := h
  obtain ⟨b, xs, e1, e2, e3, e4, e5⟩ := at_.rl.ow i ds ei
  refine ⟨.ref b, e1, .inl ⟨rfl, xs, .of e2⟩, l ρ σ W _ at_.rl h _ fun d v W1 s1 i1 ⟨hl, q1⟩ => ?_⟩
  have a1 := at_.step s1
  have hg1 : W1.g b = none := s1.n b (by rw [e2]; intro z; cases z) e3
  refine ⟨b, xs, v, rfl, rfl, s1.h _ _ e2, by rw [← e5.length]; exact Nat.lt_of_le_of_lt hl (by decide), ?_⟩
  exact s.nx _ _ _ (a1.put ei e1 hg1 e4 ((e5.mono s1).append (allIs_cons.mpr ⟨v, [], rfl, i1, allIs_nil.mpr rfl⟩))) q1
theorem AllIs.set {G : Hp} : ∀ {ds : List Dt} {xs : List V} {d : Dt} {v : V} (j : Nat), AllIs K G ds xs → Is K G d v → AllIs K G (ds.set j d) (xs.set j v)
  | [], _, _, _, _, h, _ => by rw [allIs_nil.mp h]; exact allIs_nil.mpr rfl
  | d :: ds, _, _, _, 0, h, i => by
    obtain ⟨x, r, rfl, h1, h2⟩ := allIs_cons.mp h
    exact allIs_cons.mpr ⟨_, _, rfl, i, h2⟩
  | d :: ds, _, _, _, j + 1, h, i => by
    obtain ⟨x, r, rfl, h1, h2⟩ := allIs_cons.mp h
    exact allIs_cons.mpr ⟨_, _, rfl, h1, AllIs.set j h2 i⟩
end

section
variable {P : Program} {w : World} {K : PySem.W.Frag} {mg : Str → Option Value} {base : Heap}
theorem at_start {W : Vw} {N : List Str} {ds : List Dt} {vs : List V} (ia : AllIs K W.g ds vs) (hz : Z = W.h) : At K Z W W.g W (dstart N.length ds) (start N vs) := ⟨Le.refl W, Same.refl _, Rl.start ia (hz ▸ Same.refl _)⟩
theorem okD {x qual : Str} {st : Stmt} {f : Addr} {fd : FuncData} {N ps : List Str} {k : Nat} {S : DSp} (F : Fun K x qual st f fd) (sc : FnScope N ps (defScope st)) (len : ∀ ds Q, S ds Q → ds.length = ps.length)
    (hbody : ∀ (cdv : Value) (A : Around) (outer : List Env) (s : Shared) (H : Hp) (E : XK), Room k (A.deeper (envOfC qual (defScope st) s.heap.objs.size f cdv)) → ∀ (ds : List Dt) (Q : Dt → Prop), S ds Q →
      ∃ t, DSs (cxOf CX0 P w K mg base N qual (defScope st) f cdv A outer s H E).nox .d (defBody st) t ∧ t { nx := fun _ => Q .non, rt := Q } (dstart N.length ds)) : FnOk P w K mg base CX0 (k + 1) f fd ps (PureSp K S) := by
  refine F.ok sc (fun vs H Q E h => ?_) (fun cdv A outer s H vs Q E hr h => ?_)
  · obtain ⟨W, ds, Qd, _, ia, hS, _⟩ := h
    rw [← ia.length]
    exact len ds Qd hS
  obtain ⟨W, ds, Qd, rfl, ia, hS, kk⟩ := h
  obtain ⟨t, ⟨ts, p, l⟩, ht⟩ := hbody cdv A outer s W.h E hr ds Qd hS
  refine ⟨ts, p, l W W.g (dstart N.length ds) (start N vs) W { nx := fun _ => Qd .non, rt := Qd } _ (at_start ia (zx_stk (Nat.succ_ne_self _))) ⟨fun ρ σ W' a q => kk .non .non W' a.le (is_non.mpr rfl) q, fun d v W' s' i' q => kk d v W' s' i' q, fun _ _ _ _ q => q.elim, fun _ _ _ _ q => q.elim⟩ ht⟩
theorem okF {x qual : Str} {st : Stmt} {f : Addr} {fd : FuncData} {N ps : List Str} {k : Nat} {S : DSp} (F : Fun K x qual st f fd) (sc : FnScope N ps (defScope st)) (len : ∀ ds Q, S ds Q → ds.length = ps.length)
    (hbody : ∀ (cdv : Value) (A : Around) (outer : List Env) (s : Shared) (H : Hp) (E : XK), Room k (A.deeper (envOfC qual (defScope st) s.heap.objs.size f cdv)) → ∀ (ds : List Dt) (Q : Dt → Prop), S ds Q →
      ∃ t, DSs (cxOf CX0 P w K mg base N qual (defScope st) f cdv A outer s H E).nox .l (defBody st) t ∧ t { nx := fun _ => False, rt := Q } (dstart N.length ds)) : FnOk P w K mg base CX0 (k + 1) f fd ps (FreshSp K S) := by
  refine F.ok sc (fun vs H Q E h => ?_) (fun cdv A outer s H vs Q E hr h => ?_)
  · obtain ⟨W, ds, Qd, _, ia, hS, _⟩ := h
    rw [← ia.length]
    exact len ds Qd hS
  obtain ⟨W, ds, Qd, rfl, ia, hS, kk⟩ := h
  obtain ⟨t, ⟨ts, p, l⟩, ht⟩ := hbody cdv A outer s W.h E hr ds Qd hS
  exact ⟨ts, p, l W W.g (dstart N.length ds) (start N vs) W { nx := fun _ => False, rt := Qd } _ (at_start ia (zx_stk (Nat.succ_ne_self _))) ⟨fun ρ σ W' a q => q.elim, fun d v W' s' ⟨es, p, xs, e1, e2, e3, e4, e5, e6⟩ q => by subst e1; subst e2; exact kk es p xs W' s' e3 e4 e5 e6 q, fun _ _ _ _ q => q.elim, fun _ _ _ _ q => q.elim⟩ ht⟩
theorem DOk.mk' {x qual : Str} {st : Stmt} {f : Addr} {fd : FuncData} {ps : List Str} {n : Nat} {S : DSp} (F : Fun K x qual st f fd) (hm : mg x = some (.ref f)) (hb : Binds K fd ps []) (h : FnOk P w K mg base CX0 n f fd ps (PureSp K S)) : DOk P w K mg base n x S :=
  ⟨f, fd, ps, hm, F.kp, hb, h⟩
theorem FOk.mk' {x qual : Str} {st : Stmt} {f : Addr} {fd : FuncData} {ps : List Str} {n : Nat} {S : DSp} (F : Fun K x qual st f fd) (hm : mg x = some (.ref f)) (hb : Binds K fd ps []) (h : FnOk P w K mg base CX0 n f fd ps (FreshSp K S)) : FOk P w K mg base n x S :=
  ⟨f, fd, ps, hm, F.kp, hb, h⟩
theorem DOk.mono {x : Str} {m n : Nat} {S : DSp} (h : DOk P w K mg base m x S) (hl : m ≤ n) : DOk P w K mg base n x S :=
  let ⟨f, fd, ps, h1, h2, h3, h4⟩ := h.ex; ⟨f, fd, ps, h1, h2, h3, h4.mono hl⟩
theorem FOk.mono {x : Str} {m n : Nat} {S : DSp} (h : FOk P w K mg base m x S) (hl : m ≤ n) : FOk P w K mg base n x S :=
  let ⟨f, fd, ps, h1, h2, h3, h4⟩ := h.ex; ⟨f, fd, ps, h1, h2, h3, h4.mono hl⟩
theorem MOk.mono {C : Addr} {x : Str} {m n : Nat} {S : DSp} (h : MOk P w K mg base m C x S) (hl : m ≤ n) : MOk P w K mg base n C x S :=
  ⟨h.cl, let ⟨f, fd, ps, h1, h3, h4⟩ := h.ex; ⟨f, fd, ps, h1, h3, h4.mono hl⟩⟩
theorem FMOk.mono {C : Addr} {x : Str} {m n : Nat} {S : DSp} (h : FMOk P w K mg base m C x S) (hl : m ≤ n) : FMOk P w K mg base n C x S :=
  ⟨h.cl, let ⟨f, fd, ps, h1, h3, h4⟩ := h.ex; ⟨f, fd, ps, h1, h3, h4.mono hl⟩⟩
theorem MOk.imp {C : Addr} {x : Str} {n : Nat} {S S' : DSp} (h : MOk P w K mg base n C x S) (hi : ∀ ds Q, S' ds Q → S ds Q) : MOk P w K mg base n C x S' :=
  ⟨h.cl, let ⟨f, fd, ps, h1, h3, h4⟩ := h.ex; ⟨f, fd, ps, h1, h3, h4.imp fun vs H Q E ⟨W, ds, Qd, a, b, c, d⟩ => ⟨W, ds, Qd, a, b, hi _ _ c, d⟩⟩⟩
theorem FMOk.imp {C : Addr} {x : Str} {n : Nat} {S S' : DSp} (h : FMOk P w K mg base n C x S) (hi : ∀ ds Q, S' ds Q → S ds Q) : FMOk P w K mg base n C x S' :=
  ⟨h.cl, let ⟨f, fd, ps, h1, h3, h4⟩ := h.ex; ⟨f, fd, ps, h1, h3, h4.imp fun vs H Q E ⟨W, ds, Qd, a, b, c, d⟩ => ⟨W, ds, Qd, a, b, hi _ _ c, d⟩⟩⟩
theorem DOk.imp {x : Str} {n : Nat} {S S' : DSp} (h : DOk P w K mg base n x S) (hi : ∀ ds Q, S' ds Q → S ds Q) : DOk P w K mg base n x S' :=
  let ⟨f, fd, ps, h1, h2, h3, h4⟩ := h.ex; ⟨f, fd, ps, h1, h2, h3, h4.imp fun vs H Q E ⟨W, ds, Qd, a, b, c, d⟩ => ⟨W, ds, Qd, a, b, hi _ _ c, d⟩⟩
theorem init_ok {qual : Str} {st : Stmt} {g C : Addr} {fd : FuncData} {y f : Str} {k : Nat} {ok : Int → Prop} (F : Fun K "__init__" qual st g fd) (sc : FnScope ["self", y] ["self", y] (defScope st)) (cl : Cls K C) (na : NoAttr K C f)
    (hbody : ∀ (cdv : Value) (A : Around) (outer : List Env) (s : Shared) (H : Hp) (E : XK), Room k (A.deeper (envOfC qual (defScope st) s.heap.objs.size g cdv)) →
      ∃ te t, PSs (cxOf CX0 P w K mg base ["self", y] qual (defScope st) g cdv A outer s H E).nox (defBody st) (sFld K (tVar 0) te f) ∧ LiE K (Zx (cxOf CX0 P w K mg base ["self", y] qual (defScope st) g cdv A outer s H E)) te t ∧ ∀ i, ok i → t [.none, .some (.int i)] fun d => d = .int i) :
    FnOk P w K mg base CX0 (k + 1) g fd ["self", y] (spInitW C f ok) := by
  refine F.ok sc (fun vs H Q E h => ?_) (fun cdv A outer s H vs Q E hr h => ?_)
  · obtain ⟨p, dx, i, rfl, _⟩ := h
    rfl
  obtain ⟨p, dx, i, rfl, hp, hok, q⟩ := h
  obtain ⟨te, t, ps, l, ht⟩ := hbody cdv A outer s H E hr
  rw [zx_def] at l
  refine ⟨_, ps, l (F := H) [.none, .some (.int i)] _ ⟨H, H, Same.refl H⟩ _ ⟨rfl, fun j d e => ?_, fun j ds e => ?_, fun j j' ds es _ e _ => ?_, Same.refl H, Same.refl H, fun j a ds e => ?_, fun j φ e => ?_⟩ (ht i hok) _ fun d v W1 s1 i1 ed => ?_⟩
  · match j, e with
    | 0, e => cases e
    | 1, e =>
      have e' : Dt.int i = d := by cases e; rfl
      subst e'
      exact ⟨.int i, rfl, is_int.mpr rfl⟩
    | j + 2, e => cases e
  · match j, e with
    | 0, e => cases e
    | 1, e => cases e
    | j + 2, e => cases e
  · match j, e with
    | 0, e => cases e
    | 1, e => cases e
    | j + 2, e => cases e
  · match j, e with
    | 0, e => cases e
    | 1, e => cases e
    | j + 2, e => cases e
  · match j, e with
    | 0, e => cases e
    | 1, e => cases e
    | j + 2, e => cases e
  · subst ed
    obtain rfl := is_int.mp i1
    refine ⟨.ref p, rfl, p, C, dx, [], rfl, s1.h _ _ hp, cl, na, (by show 0 < 1000; decide), ?_⟩
    refine q _ upd_same fun b o hb hbp => ?_
    rw [upd_ne hbp]
    exact s1.h _ _ hb
end
end OD

namespace OD
open PySem PySem.Spec PyProof.Rows L2
mutual
/-- Python's == of data -/
def eqD : Dt → Dt → Bool
  | .non, .non => true
  | .bl a, .bl b => a == b
  | .bl a, .int b => (if a then (1 : Int) else 0) == b
  | .int a, .bl b => a == (if b then (1 : Int) else 0)
  | .int a, .int b => a == b
  | .str a, .str b => a == b
  | .tup ds, .tup es => eqDs ds es
  | .lst ds, .lst es => eqDs ds es
  | _, _ => false
def eqDs : List Dt → List Dt → Bool
  | [], [] => true
  | d :: ds, e :: es => eqD d e && eqDs ds es
  | _, _ => false
end
def okE : Nat → Dt → Bool
  | _, .non => true
  | _, .bl _ => true
  | _, .int _ => true
  | _, .str _ => true
  | n + 1, .tup ds => ds.all (okE n)
  | n + 1, .lst ds => ds.all (okE n)
  | _, _ => false
theorem eqD_int (a b : Int) : eqD (.int a) (.int b) = (a == b) := by unfold eqD; rfl
theorem eqD_bl (a b : Bool) : eqD (.bl a) (.bl b) = (a == b) := by unfold eqD; rfl
theorem eqD_str (a b : Str) : eqD (.str a) (.str b) = (a == b) := by unfold eqD; rfl
theorem eqD_tup (ds es : List Dt) : eqD (.tup ds) (.tup es) = eqDs ds es := by rw [eqD]
theorem eqD_lst (ds es : List Dt) : eqD (.lst ds) (.lst es) = eqDs ds es := by rw [eqD]
theorem eqDs_nil : eqDs [] [] = true := by unfold eqDs; rfl
theorem eqDs_cons (d e : Dt) (ds es : List Dt) : eqDs (d :: ds) (e :: es) = (eqD d e && eqDs ds es) := by rw [eqDs]
theorem eqDs_nil_cons (e : Dt) (es : List Dt) : eqDs [] (e :: es) = false := by unfold eqDs; rfl
theorem eqDs_cons_nil (e : Dt) (es : List Dt) : eqDs (e :: es) [] = false := by unfold eqDs; rfl
theorem eqDs_range : ∀ ds es : List Dt, (((List.range (min ds.length es.length)).all fun j => eqD (ds.getD j .non) (es.getD j .non)) && (ds.length == es.length)) = eqDs ds es
  | [], [] => by rw [eqDs_nil]; rfl
  | [], e :: es => by
    rw [eqDs_nil_cons]
    have h : ((([] : List Dt).length == (e :: es).length)) = false := by simp
    rw [h, Bool.and_false]
  | d :: ds, [] => by
    rw [eqDs_cons_nil]
    have h : (((d :: ds).length == ([] : List Dt).length)) = false := by simp
    rw [h, Bool.and_false]
  | d :: ds, e :: es => by
    have ih := eqDs_range ds es
    rw [eqDs_cons, ← ih]
    have hm : min (d :: ds).length (e :: es).length = min ds.length es.length + 1 := by
      rw [List.length_cons, List.length_cons]; omega
    rw [hm, List.range_succ_eq_map, List.all_cons, List.all_map, Bool.and_assoc]
    have hl : ((d :: ds).length == (e :: es).length) = (ds.length == es.length) := by
      rw [List.length_cons, List.length_cons]
      rw [Bool.eq_iff_iff, beq_iff_eq, beq_iff_eq]
      omega
    rw [hl]
    rfl
theorem eqDs_lens {ds es : List Dt} (h : ds.length ≠ es.length) : eqDs ds es = false := by
  rw [← eqDs_range ds es]
  have h : (ds.length == es.length) = false := beq_eq_false_iff_ne.mpr h
  rw [h, Bool.and_false]
theorem eqDs_all {ds es : List Dt} (h : ds.length = es.length) : ((List.range ds.length).all fun j => eqD (ds.getD j .non) (es.getD j .non)) = eqDs ds es := by
  rw [← eqDs_range ds es]
  have h' : (ds.length == es.length) = true := beq_iff_eq.mpr h
  rw [h', Bool.and_true, ← h, Nat.min_self]
theorem eqDs_self : ∀ {ds : List Dt}, (∀ d ∈ ds, eqD d d = true) → eqDs ds ds = true
  | [], _ => eqDs_nil
  | d :: ds, h => by
    rw [eqDs_cons, h d List.mem_cons_self, eqDs_self fun e he => h e (List.mem_cons_of_mem _ he)]
    rfl
theorem eqD_self : ∀ (n : Nat) {d : Dt}, okE n d = true → eqD d d = true := by
  intro n
  induction n with
  | zero =>
    intro d h
    cases d with
    | non => unfold eqD; rfl
    | bl b => rw [eqD_bl]; exact beq_self_eq_true _
    | int b => rw [eqD_int]; exact beq_self_eq_true _
    | str b => rw [eqD_str]; exact beq_self_eq_true _
    | _ => simp [okE] at h
  | succ n ih =>
    intro d h
    cases d with
    | non => unfold eqD; rfl
    | bl b => rw [eqD_bl]; exact beq_self_eq_true _
    | int b => rw [eqD_int]; exact beq_self_eq_true _
    | str b => rw [eqD_str]; exact beq_self_eq_true _
    | tup ds =>
      rw [eqD_tup]
      have h' : ∀ d ∈ ds, okE n d = true := by simpa [okE] using h
      exact eqDs_self fun d hd => ih (h' d hd)
    | lst ds =>
      rw [eqD_lst]
      have h' : ∀ d ∈ ds, okE n d = true := by simpa [okE] using h
      exact eqDs_self fun d hd => ih (h' d hd)
    | _ => simp [okE] at h
example : eqD (.int ((2 : Nat) : Int)) (.int 2) = true := by rfl
section
variable {X : Cx} {pins : List (Addr × Obj)} {σ : St} {K : PySem.W.Frag} {H : Hp} {s : Shared}
theorem eqs_of : ∀ {ds es : List Dt} {xs : List V}, (∀ d e v, d ∈ ds → e ∈ es → Is K H d v → Is K H e v → eqD d e = true) → AllIs K H ds xs → AllIs K H es xs → eqDs ds es = true
  | [], es, xs, ih, i1, i2 => by
    obtain rfl := allIs_nil.mp i1
    cases es with
    | nil => exact eqDs_nil
    | cons e es => obtain ⟨_, _, z, _⟩ := allIs_cons.mp i2; cases z
  | d :: ds, es, xs, ih, i1, i2 => by
    obtain ⟨x, r, rfl, j1, j2⟩ := allIs_cons.mp i1
    cases es with
    | nil => cases allIs_nil.mp i2
    | cons e es =>
      obtain ⟨y, r', z, k1, k2⟩ := allIs_cons.mp i2
      cases z
      rw [eqDs_cons, ih d e x List.mem_cons_self List.mem_cons_self j1 k1, eqs_of (fun d' e' v' hd he => ih d' e' v' (List.mem_cons_of_mem _ hd) (List.mem_cons_of_mem _ he)) j2 k2]
      rfl
def flatD : Dt → Bool
  | .non => true
  | .bl _ => true
  | .int _ => true
  | .str _ => true
  | _ => false
def vD : Dt → V
  | .bl b => .bl b
  | .int i => .int i
  | .str x => .str x
  | _ => .non
theorem is_flat {d : Dt} {v : V} (h : flatD d = true) (i : Is K H d v) : v = vD d := by
  cases d <;> first | exact is_non.mp i | exact is_bl.mp i | exact is_int.mp i | exact is_str.mp i | cases h
theorem flat_V {d : Dt} (h : flatD d = true) : flatV (vD d) = true := by cases d <;> first | rfl | cases h
theorem flat_ref {d : Dt} {a : Addr} (h : flatD d = true) (e : vD d = .ref a) : False := by cases d <;> first | cases e | cases h
theorem eqV_self {v : V} (h : flatV v = true) : eqV v v = true := by cases v <;> first | rfl | exact beq_self_eq_true _ | cases h
theorem eqD_flat {d e : Dt} (h1 : flatD d = true) (h2 : flatD e = true) : eqD d e = eqV (vD d) (vD e) := by cases d <;> first | exact absurd h1 Bool.false_ne_true | (cases e <;> first | exact absurd h2 Bool.false_ne_true | rfl)
theorem eqD_ft {d : Dt} {es : List Dt} (h : flatD d = true) : eqD d (.tup es) = false ∧ eqD (.tup es) d = false ∧ eqD d (.lst es) = false ∧ eqD (.lst es) d = false := by
  cases d <;> first | exact ⟨rfl, rfl, rfl, rfl⟩ | cases h
theorem shape {n : Nat} {d : Dt} (h : okE n d = true) : flatD d = true ∨ ∃ m ds, n = m + 1 ∧ (d = .tup ds ∨ d = .lst ds) ∧ ∀ d ∈ ds, okE m d = true := by
  cases d with
  | non => exact .inl rfl
  | bl b => exact .inl rfl
  | int b => exact .inl rfl
  | str b => exact .inl rfl
  | tup ds =>
    cases n with
    | zero => simp [okE] at h
    | succ m => exact .inr ⟨m, ds, rfl, .inl rfl, by simpa [okE] using h⟩
  | lst ds =>
    cases n with
    | zero => simp [okE] at h
    | succ m => exact .inr ⟨m, ds, rfl, .inr rfl, by simpa [okE] using h⟩
  | _ => cases n <;> simp [okE] at h
theorem eq_same : ∀ (n : Nat) {d e : Dt} {v : V}, okE n d = true → okE n e = true → Is K H d v → Is K H e v → eqD d e = true := by
  intro n
  induction n with
  | zero =>
    intro d e v h1 h2 i1 i2
    rcases shape h1 with f1 | ⟨m, ds, z, _⟩
    · rcases shape h2 with f2 | ⟨m, ds, z, _⟩
      · rw [eqD_flat f1 f2, ← is_flat f1 i1, ← is_flat f2 i2]
        exact eqV_self (by rw [is_flat f1 i1]; exact flat_V f1)
      · cases z
    · cases z
  | succ n ih =>
    intro d e v h1 h2 i1 i2
    rcases shape h1 with f1 | ⟨m, ds, z, hk, hd⟩
    · rcases shape h2 with f2 | ⟨m, es, z, hk, he⟩
      · rw [eqD_flat f1 f2, ← is_flat f1 i1, ← is_flat f2 i2]
        exact eqV_self (by rw [is_flat f1 i1]; exact flat_V f1)
      · obtain rfl := is_flat f1 i1
        rcases hk with rfl | rfl
        · obtain ⟨_, _, e, _⟩ := is_tup.mp i2; exact (flat_ref f1 e).elim
        · obtain ⟨_, _, e, _⟩ := is_lst.mp i2; exact (flat_ref f1 e).elim
    · cases z
      rcases shape h2 with f2 | ⟨m, es, z, hk2, he⟩
      · obtain rfl := is_flat f2 i2
        rcases hk with rfl | rfl
        · obtain ⟨_, _, e, _⟩ := is_tup.mp i1; exact (flat_ref f2 e).elim
        · obtain ⟨_, _, e, _⟩ := is_lst.mp i1; exact (flat_ref f2 e).elim
      · cases z
        rcases hk with rfl | rfl
        · obtain ⟨a, xs, rfl, hx, ha⟩ := is_tup.mp i1
          rcases hk2 with rfl | rfl
          · obtain ⟨b, ys, eb, hy, hb⟩ := is_tup.mp i2
            cases eb
            rw [hx] at hy
            cases hy
            rw [eqD_tup]
            exact eqs_of (fun d e v q1 q2 => ih (hd d q1) (he e q2)) ha hb
          · obtain ⟨b, ys, eb, hy, hb⟩ := is_lst.mp i2
            cases eb
            rw [hx] at hy
            cases hy
        · obtain ⟨a, xs, rfl, hx, ha⟩ := is_lst.mp i1
          rcases hk2 with rfl | rfl
          · obtain ⟨b, ys, eb, hy, hb⟩ := is_tup.mp i2
            cases eb
            rw [hx] at hy
            cases hy
          · obtain ⟨b, ys, eb, hy, hb⟩ := is_lst.mp i2
            cases eb
            rw [hx] at hy
            cases hy
            rw [eqD_lst]
            exact eqs_of (fun d e v q1 q2 => ih (hd d q1) (he e q2)) ha hb
section
variable {A : Around}
open SeqAt
theorem flat_tupE {d : Dt} {v : Value} {b : Addr} {its : Array Value} (f : flatD d = true) (q : RelV (vD d) v) (t : s.heap.IsTuple b its) (hA : A.units < cLine) :
    (EqAt A s v (.ref b) false ∧ EqAt A s (.ref b) v false) ∧ (RcAt A s v (.ref b) false ∧ RcNeAt A s v (.ref b) true) ∧ RcAt A s (.ref b) v false ∧ RcNeAt A s (.ref b) v true := by
  cases d with
  | non => cases q; exact ⟨⟨.none_tuple t hA, .tuple_none t hA⟩, ⟨.none_tuple t hA, .none_tuple t hA⟩, .tuple_none t hA, .tuple_none t hA⟩
  | bl a => cases q; exact ⟨⟨.bool_tuple a t hA, .tuple_bool a t hA⟩, ⟨.bool_tuple a t hA, .bool_tuple a t hA⟩, .tuple_bool a t hA, .tuple_bool a t hA⟩
  | int a => obtain ⟨u, rfl⟩ := q; exact ⟨⟨.int_tuple a u t hA, .tuple_int a u t hA⟩, ⟨.int_tuple a u t hA, .int_tuple a u t hA⟩, .tuple_int a u t hA, .tuple_int a u t hA⟩
  | str a => obtain ⟨u, rfl⟩ := q; exact ⟨⟨.str_tuple a u t hA, .tuple_str a u t hA⟩, ⟨.str_tuple a u t hA, .str_tuple a u t hA⟩, .tuple_str a u t hA, .tuple_str a u t hA⟩
  | _ => cases f
theorem flat_lstE {d : Dt} {v : Value} {b : Addr} {its : Array Value} (f : flatD d = true) (q : RelV (vD d) v) (t : s.heap.IsList b its) (hA : A.units < cLine) :
    (EqAt A s v (.ref b) false ∧ EqAt A s (.ref b) v false) ∧ (RcAt A s v (.ref b) false ∧ RcNeAt A s v (.ref b) true) ∧ RcAt A s (.ref b) v false ∧ RcNeAt A s (.ref b) v true := by
  cases d with
  | non => cases q; exact ⟨⟨.none_list t hA, .list_none t hA⟩, ⟨.none_list t hA, .none_list t hA⟩, .list_none t hA, .list_none t hA⟩
  | bl a => cases q; exact ⟨⟨.bool_list a t hA, .list_bool a t hA⟩, ⟨.bool_list a t hA, .bool_list a t hA⟩, .list_bool a t hA, .list_bool a t hA⟩
  | int a => obtain ⟨u, rfl⟩ := q; exact ⟨⟨.int_list a u t hA, .list_int a u t hA⟩, ⟨.int_list a u t hA, .int_list a u t hA⟩, .list_int a u t hA, .list_int a u t hA⟩
  | str a => obtain ⟨u, rfl⟩ := q; exact ⟨⟨.str_list a u t hA, .list_str a u t hA⟩, ⟨.str_list a u t hA, .str_list a u t hA⟩, .list_str a u t hA, .list_str a u t hA⟩
  | _ => cases f
theorem flat_rc {d e : Dt} {v u : Value} (f1 : flatD d = true) (f2 : flatD e = true) (q1 : RelV (vD d) v) (q2 : RelV (vD e) u) : RcAt A s v u (eqD d e) ∧ RcNeAt A s v u (!eqD d e) := by
  cases d with
  | non =>
    cases q1
    cases e with
    | non => cases q2; exact ⟨.none_none, .none_none⟩
    | bl b => cases q2; exact ⟨.none_bool b, .none_bool b⟩
    | int b => obtain ⟨t, rfl⟩ := q2; exact ⟨.none_int b t, .none_int b t⟩
    | str b => obtain ⟨t, rfl⟩ := q2; exact ⟨.none_str b t, .none_str b t⟩
    | _ => cases f2
  | bl a =>
    cases q1
    cases e with
    | non => cases q2; exact ⟨.bool_none a, .bool_none a⟩
    | bl b => cases q2; exact ⟨.bool_bool a b, .bool_bool a b⟩
    | int b => obtain ⟨t, rfl⟩ := q2; exact ⟨.bool_int a b t, .bool_int a b t⟩
    | str b => obtain ⟨t, rfl⟩ := q2; exact ⟨.bool_str a b t, .bool_str a b t⟩
    | _ => cases f2
  | int a =>
    obtain ⟨ta, rfl⟩ := q1
    cases e with
    | non => cases q2; exact ⟨.int_none a ta, .int_none a ta⟩
    | bl b => cases q2; exact ⟨.int_bool a ta b, .int_bool a ta b⟩
    | int b => obtain ⟨t, rfl⟩ := q2; exact ⟨.int_int a ta b t, .int_int a ta b t⟩
    | str b => obtain ⟨t, rfl⟩ := q2; exact ⟨.int_str a ta b t, .int_str a ta b t⟩
    | _ => cases f2
  | str a =>
    obtain ⟨ta, rfl⟩ := q1
    cases e with
    | non => cases q2; exact ⟨.str_none a ta, .str_none a ta⟩
    | bl b => cases q2; exact ⟨.str_bool a ta b, .str_bool a ta b⟩
    | int b => obtain ⟨t, rfl⟩ := q2; exact ⟨.str_int a ta b t, .str_int a ta b t⟩
    | str b => obtain ⟨t, rfl⟩ := q2; exact ⟨.str_str a ta b t, .str_str a ta b t⟩
    | _ => cases f2
  | _ => cases f1
end
theorem items_eq {n : Nat} {A : Around} {ds es : List Dt} {xs ys : List V} {its its2 : List Value}
    (ih : ∀ {d e : Dt} {x y : V} {v u : Value}, okE n d = true → okE n e = true → Is K H d x → Is K H e y → RelV x v → RelV y u → SeqAt.EqAt A s v u (eqD d e))
    (hd : ∀ d ∈ ds, okE n d = true) (he : ∀ d ∈ es, okE n d = true) (a1 : AllIs K H ds xs) (a2 : AllIs K H es ys) (r1 : Vals xs its) (r2 : Vals ys its2) :
    ∀ j (h1 : j < its.toArray.size) (h2 : j < its2.toArray.size), SeqAt.EqAt A s its.toArray[j] its2.toArray[j] (eqD (ds.getD j .non) (es.getD j .non)) := by
  intro j h1 h2
  have l1 := a1.length.trans r1.length
  have l2 := a2.length.trans r2.length
  rw [List.size_toArray] at h1 h2
  have g1 : ds[j]? = some ds[j] := List.getElem?_eq_getElem (by omega)
  have g2 : es[j]? = some es[j] := List.getElem?_eq_getElem (by omega)
  obtain ⟨x, e1, i1⟩ := a1.get g1
  obtain ⟨y, e2, i2⟩ := a2.get g2
  obtain ⟨v, e3, q1⟩ := r1.get e1
  obtain ⟨u, e4, q2⟩ := r2.get e2
  have f1 : ds.getD j .non = ds[j] := by rw [List.getD_eq_getElem?_getD, g1]; rfl
  have f2 : es.getD j .non = es[j] := by rw [List.getD_eq_getElem?_getD, g2]; rfl
  have f3 : its.toArray[j] = v := by
    have z : its[j]? = some its[j] := List.getElem?_eq_getElem h1
    rw [z] at e3
    simpa using Option.some.inj e3
  have f4 : its2.toArray[j] = u := by
    have z : its2[j]? = some its2[j] := List.getElem?_eq_getElem h2
    rw [z] at e4
    simpa using Option.some.inj e4
  rw [f1, f2, f3, f4]
  exact ih (hd _ (List.mem_of_getElem? g1)) (he _ (List.mem_of_getElem? g2)) i1 i2 q1 q2
theorem eq_at (I : Inv X pins σ H s) : ∀ (n : Nat) {A : Around} {d e : Dt} {x y : V} {v u : Value}, A.units + n < cLine → okE n d = true → okE n e = true → Is X.K H d x → Is X.K H e y → RelV x v → RelV y u → SeqAt.EqAt A s v u (eqD d e) := by
  intro n
  induction n with
  | zero =>
    intro A d e x y v u hu h1 h2 i1 i2 q1 q2
    rcases shape h1 with f1 | ⟨m, ds, z, _⟩
    · rcases shape h2 with f2 | ⟨m, ds, z, _⟩
      · rw [eqD_flat f1 f2]
        rw [is_flat f1 i1] at q1
        rw [is_flat f2 i2] at q2
        exact eqAt_V q1 q2 (flat_V f1) (flat_V f2)
      · cases z
    · cases z
  | succ n ih =>
    intro A d e x y v u hu h1 h2 i1 i2 q1 q2
    have hA : A.units < cLine := by omega
    have hu' : A.in1.units + n < cLine := by show A.units + 1 + n < cLine; omega
    rcases shape h1 with f1 | ⟨m, ds, z, hk, hd⟩
    · rw [is_flat f1 i1] at q1
      rcases shape h2 with f2 | ⟨m, es, z, rfl | rfl, he⟩
      · rw [eqD_flat f1 f2]
        rw [is_flat f2 i2] at q2
        exact eqAt_V q1 q2 (flat_V f1) (flat_V f2)
      · obtain ⟨b, ys, rfl, hy, hb⟩ := is_tup.mp i2
        obtain ⟨its2, r2, t2, _⟩ := I.tuple (.of hy)
        cases q2
        rw [(eqD_ft f1).1]
        exact (flat_tupE f1 q1 t2 hA).1.1
      · obtain ⟨b, ys, rfl, hy, hb⟩ := is_lst.mp i2
        obtain ⟨its2, r2, t2, _⟩ := I.list (.of hy)
        cases q2
        rw [(eqD_ft f1).2.2.1]
        exact (flat_lstE f1 q1 t2.isList hA).1.1
    · cases z
      rcases hk with rfl | rfl
      · obtain ⟨a, xs, rfl, hx, ha⟩ := is_tup.mp i1
        obtain ⟨its, r1, t1, _⟩ := I.tuple (.of hx)
        cases q1
        rcases shape h2 with f2 | ⟨m, es, z, rfl | rfl, he⟩
        · rw [is_flat f2 i2] at q2
          rw [(eqD_ft f2).2.1]
          exact (flat_tupE f2 q2 t1 hA).1.2
        · cases z
          have i2' := i2
          obtain ⟨b, ys, rfl, hy, hb⟩ := is_tup.mp i2
          obtain ⟨its2, r2, t2, _⟩ := I.tuple (.of hy)
          cases q2
          by_cases hab : a = b
          · subst hab
            rw [eq_same _ h1 h2 i1 i2']
            exact SeqAt.EqAt.same _
          · have q := SeqAt.RcAt.tuples t1 t2 hA (items_eq (fun {d e x y v u} => ih (A := A.in1) hu') hd he ha hb r1 r2)
            rw [List.size_toArray, List.size_toArray, ← r1.length, ← r2.length, ← ha.length, ← hb.length, eqDs_range] at q
            rw [eqD_tup]
            exact .of_refs hab q
        · obtain ⟨b, ys, rfl, hy, hb⟩ := is_lst.mp i2
          obtain ⟨its2, r2, t2, _⟩ := I.list (.of hy)
          cases q2
          exact SeqAt.EqAt.tuple_list t1 t2.isList hA
      · obtain ⟨a, xs, rfl, hx, ha⟩ := is_lst.mp i1
        obtain ⟨its, r1, t1, _⟩ := I.list (.of hx)
        cases q1
        rcases shape h2 with f2 | ⟨m, es, z, rfl | rfl, he⟩
        · rw [is_flat f2 i2] at q2
          rw [(eqD_ft f2).2.2.2]
          exact (flat_lstE f2 q2 t1.isList hA).1.2
        · obtain ⟨b, ys, rfl, hy, hb⟩ := is_tup.mp i2
          obtain ⟨its2, r2, t2, _⟩ := I.tuple (.of hy)
          cases q2
          exact SeqAt.EqAt.list_tuple t1.isList t2 hA
        · cases z
          have i2' := i2
          obtain ⟨b, ys, rfl, hy, hb⟩ := is_lst.mp i2
          obtain ⟨its2, r2, t2, _⟩ := I.list (.of hy)
          cases q2
          by_cases hab : a = b
          · subst hab
            rw [eq_same _ h1 h2 i1 i2']
            exact SeqAt.EqAt.same _
          · rw [eqD_lst]
            have l1 := ha.length.trans r1.length
            have l2 := hb.length.trans r2.length
            by_cases hl : ds.length = es.length
            · have q := SeqAt.RcAt.lists t1.isList t2.isList (by rw [List.size_toArray, List.size_toArray]; omega) hA (items_eq (fun {d e x y v u} => ih (A := A.in1) hu') hd he ha hb r1 r2)
              rw [List.size_toArray, ← l1, eqDs_all hl] at q
              exact .of_refs hab q
            · have q := SeqAt.RcAt.lists_lengths t1.isList t2.isList (by rw [List.size_toArray, List.size_toArray, bne_iff_ne]; omega) hA
              rw [eqDs_lens hl]
              exact .of_refs hab q
theorem rc_at (I : Inv X pins σ H s) {n : Nat} {A : Around} {d e : Dt} {x y : V} {v u : Value} (hu : A.units + (n + 1) < cLine) (h1 : okE (n + 1) d = true) (h2 : okE (n + 1) e = true) (i1 : Is X.K H d x) (i2 : Is X.K H e y) (q1 : RelV x v) (q2 : RelV y u) :
    SeqAt.RcAt A s v u (eqD d e) ∧ SeqAt.RcNeAt A s v u (!eqD d e) := by
  have hA : A.units < cLine := by omega
  have hu' : A.in1.units + n < cLine := by show A.units + 1 + n < cLine; omega
  have ih := fun {d e : Dt} {x y : V} {v u : Value} => eq_at I n (A := A.in1) (d := d) (e := e) (x := x) (y := y) (v := v) (u := u) hu'
  rcases shape h1 with f1 | ⟨m, ds, z, hk, hd⟩
  · rw [is_flat f1 i1] at q1
    rcases shape h2 with f2 | ⟨m, es, z, rfl | rfl, he⟩
    · rw [is_flat f2 i2] at q2
      exact flat_rc f1 f2 q1 q2
    · obtain ⟨b, ys, rfl, hy, hb⟩ := is_tup.mp i2
      obtain ⟨its2, r2, t2, _⟩ := I.tuple (.of hy)
      cases q2
      rw [(eqD_ft f1).1]
      exact (flat_tupE f1 q1 t2 hA).2.1
    · obtain ⟨b, ys, rfl, hy, hb⟩ := is_lst.mp i2
      obtain ⟨its2, r2, t2, _⟩ := I.list (.of hy)
      cases q2
      rw [(eqD_ft f1).2.2.1]
      exact (flat_lstE f1 q1 t2.isList hA).2.1
  · cases z
    rcases hk with rfl | rfl
    · obtain ⟨a, xs, rfl, hx, ha⟩ := is_tup.mp i1
      obtain ⟨its, r1, t1, _⟩ := I.tuple (.of hx)
      cases q1
      rcases shape h2 with f2 | ⟨m, es, z, rfl | rfl, he⟩
      · rw [is_flat f2 i2] at q2
        rw [(eqD_ft f2).2.1]
        exact (flat_tupE f2 q2 t1 hA).2.2
      · cases z
        obtain ⟨b, ys, rfl, hy, hb⟩ := is_tup.mp i2
        obtain ⟨its2, r2, t2, _⟩ := I.tuple (.of hy)
        cases q2
        have it := items_eq (A := A.in1) ih hd he ha hb r1 r2
        have q := SeqAt.RcAt.tuples t1 t2 hA it
        have q' := SeqAt.RcNeAt.tuples t1 t2 hA it
        rw [List.size_toArray, List.size_toArray, ← r1.length, ← r2.length, ← ha.length, ← hb.length, eqDs_range] at q q'
        rw [eqD_tup]
        exact ⟨q, q'⟩
      · obtain ⟨b, ys, rfl, hy, hb⟩ := is_lst.mp i2
        obtain ⟨its2, r2, t2, _⟩ := I.list (.of hy)
        cases q2
        exact ⟨SeqAt.RcAt.tuple_list t1 t2.isList hA, SeqAt.RcNeAt.tuple_list t1 t2.isList hA⟩
    · obtain ⟨a, xs, rfl, hx, ha⟩ := is_lst.mp i1
      obtain ⟨its, r1, t1, _⟩ := I.list (.of hx)
      cases q1
      rcases shape h2 with f2 | ⟨m, es, z, rfl | rfl, he⟩
      · rw [is_flat f2 i2] at q2
        rw [(eqD_ft f2).2.2.2]
        exact (flat_lstE f2 q2 t1.isList hA).2.2
      · obtain ⟨b, ys, rfl, hy, hb⟩ := is_tup.mp i2
        obtain ⟨its2, r2, t2, _⟩ := I.tuple (.of hy)
        cases q2
        exact ⟨SeqAt.RcAt.list_tuple t1.isList t2 hA, SeqAt.RcNeAt.list_tuple t1.isList t2 hA⟩
      · cases z
        obtain ⟨b, ys, rfl, hy, hb⟩ := is_lst.mp i2
        obtain ⟨its2, r2, t2, _⟩ := I.list (.of hy)
        cases q2
        rw [eqD_lst]
        have l1 := ha.length.trans r1.length
        have l2 := hb.length.trans r2.length
        by_cases hl : ds.length = es.length
        · have it := items_eq (A := A.in1) ih hd he ha hb r1 r2
          have q := SeqAt.RcAt.lists t1.isList t2.isList (by rw [List.size_toArray, List.size_toArray]; omega) hA it
          have q' := SeqAt.RcNeAt.lists t1.isList t2.isList (by rw [List.size_toArray, List.size_toArray]; omega) hA it
          rw [List.size_toArray, ← l1, eqDs_all hl] at q q'
          exact ⟨q, q'⟩
        · have q := SeqAt.RcAt.lists_lengths t1.isList t2.isList (by rw [List.size_toArray, List.size_toArray, bne_iff_ne]; omega) hA
          have q' := SeqAt.RcNeAt.lists_lengths t1.isList t2.isList (by rw [List.size_toArray, List.size_toArray, bne_iff_ne]; omega) hA
          rw [eqDs_lens hl]
          exact ⟨q, q'⟩
def gEq : Dt → Dt → (Dt → Prop) → Prop := fun d e Q => okE 40 d = true ∧ okE 40 e = true ∧ Q (.bl (eqD d e))
def gNe : Dt → Dt → (Dt → Prop) → Prop := fun d e Q => okE 40 d = true ∧ okE 40 e = true ∧ Q (.bl (!eqD d e))
theorem o_eq {k : Nat} (hr : Room k X.A) : DOp X (compareOp .Eq) gEq := by
  refine ⟨fun x y H Q => ∃ d e, Is X.K H d x ∧ Is X.K H e y ∧ okE 40 d = true ∧ okE 40 e = true ∧ Q (.bl (eqD d e)) H, fun pins s σ H x y v u Q I rx ry h => ?_, fun H x y d e Q i1 i2 q R k => ⟨d, e, Is.mono0 H.sub i1, Is.mono0 H.sub i2, q.1, q.2.1, k _ _ H (Le.refl H) (is_bl.mpr rfl) q.2.2⟩⟩
  obtain ⟨d, e, i1, i2, h1, h2, q⟩ := h
  have hu := hr.units
  exact (rc_at (n := 39) I (A := X.A) (by omega) h1 h2 i1 i2 rx ry).1 _ _ _ _ ⟨.bl _, H, I, rfl, q⟩
theorem o_ne {k : Nat} (hr : Room k X.A) : DOp X (compareOp .NotEq) gNe := by
  refine ⟨fun x y H Q => ∃ d e, Is X.K H d x ∧ Is X.K H e y ∧ okE 40 d = true ∧ okE 40 e = true ∧ Q (.bl (!eqD d e)) H, fun pins s σ H x y v u Q I rx ry h => ?_, fun H x y d e Q i1 i2 q R k => ⟨d, e, Is.mono0 H.sub i1, Is.mono0 H.sub i2, q.1, q.2.1, k _ _ H (Le.refl H) (is_bl.mpr rfl) q.2.2⟩⟩
  obtain ⟨d, e, i1, i2, h1, h2, q⟩ := h
  have hu := hr.units
  exact (rc_at (n := 39) I (A := X.A) (by omega) h1 h2 i1 i2 rx ry).2 _ _ _ _ ⟨.bl _, H, I, rfl, q⟩
end
end OD

namespace OD
open PySem PySem.Spec PyProof.Rows L2
section
variable {X : Cx} {pins : List (Addr × Obj)} {σ : St} {H : Hp} {s : Shared} {scope : Scope} {x : Str} {fp : List Addr}
end
end OD

namespace OD
variable {Z : Hp}
open PySem PySem.Spec PyProof.Rows L2
section
variable {X : Cx} {pins : List (Addr × Obj)} {σ : St} {H : Hp} {s : Shared} {h' : Heap}
end
section
variable {X : Cx}
end

section
variable {X : Cx} {fr : Fr} {ta : DTA} {tb : DTS} {pos : Pos}
theorem LiF.le {K : PySem.W.Frag} {te : TE} {t : DTE} (l : LiF K Z te t) : LiE K Z te t := fun ρ σ H Q r h R k => l ρ σ H Q r h R fun es q xs H' s h0 h1 h2 i z => k (.lst es) (.ref q) (H'.frz q _ h1) (le_frz s h0 h1 h2) (is_lst.mpr ⟨q, xs, rfl, upd_same, AllIs.mono0 (same_new h2 _) i⟩) z
variable {scope : Scope} {x : Str} {elt iter : Expr} {px : Pos} {tl te : DTE}
end
end OD

namespace OD
variable {Z : Hp}
open PySem PySem.Spec PyProof.Rows L2
section
variable {X : Cx}
end
section
variable {X : Cx} {fr : Fr} {ta : DTA} {tb : DTS} {pos p0 p1 p2 : Pos}
theorem ds_forR2 {j : Nat} {x : Str} {a b : Expr} {body : List Stmt} {px p0 pos1 : Pos} (hc : X.calm = true) (hN : X.N.Nodup) (hi : X.N[j]? = some x) (hx : Loc X.env.scope x) (hp : PassesOwn (model X.prog X.w) X.A X.env X.xe)
    (hg : Gl X "range") (hm : X.mg "range" = none) (h : DA X [a, b] ta) (hb : DSs X fr body tb) (hs : ∀ x, foldedSetIterable (.Call (.Name "range" p0) [a, b] [] pos1) X.env x = pure x := by intro _; rfl)
    (hst : starEach [a, b] X.env = [(false, eval a X.env), (false, eval b X.env)] := by rfl) (hst2 : starEach [b] X.env = [(false, eval b X.env)] := by rfl)
    (hf : X.fn x = true ∨ X.env.scope.names.lookup x = some .local := by first | exact .inl rfl | exact .inr rfl | assumption) : DSt X fr (.For (.Name x px) (.Call (.Name "range" p0) [a, b] [] pos1) body [] pos) (dForR2 j ta tb) := by
  obtain ⟨tt, p, l⟩ := h
  obtain ⟨tbs, p2, l2⟩ := hb
  refine ⟨_, ps_for hp hc (pi_range2 hg hm p hst hst2) (pg_name hN hi hx hf) p2 hs, fun W0 G ρ σ W D D' at_ s h => l ρ σ W _ at_.rl h _ fun ds vs W1 s1 i1 ⟨m, n, Pv, ed, m1, m2, n1, n2, h0, ht, hd⟩ => ?_⟩
  subst ed
  obtain ⟨v1, v2, rfl, j1, j2⟩ := i1.two
  have hg1 : Same G W1.g := at_.gs.trans s1.g
  refine ⟨m, n, by rw [is_int.mp j1, is_int.mp j2], ⟨m1, m2, n1, n2⟩, for_range (lo := m) (n := (n - m).toNat) (fun i => InL X.K (Zx X) W0 W1 (Pv i)) ⟨ρ, W1, rfl, (at_.step s1).now, h0⟩ ?_ ?_⟩
  · rintro i σ' _ hi ⟨ρ', W2, rfl, a2, hp2⟩
    exact l2 W0 W1.g _ _ W2 { D with nx := Pv (i + 1), ct := Pv (i + 1), bk := D.nx } _ (a2.set j (is_int.mpr rfl)) (sim_loop s hg1) (ht i ρ' hi hp2)
  · rintro σ' _ ⟨ρ', W2, rfl, a2, hp2⟩
    exact s.nx ρ' σ' W2 (a2.weak hg1) (hd ρ' hp2)
def dMin (ta : DTA) : DTE := fun ρ Q => ta ρ fun ds => ∃ i j, ds = [.int i, .int j] ∧ Q (.int (if j < i then j else i))
theorem de_min {a b : Expr} (hc : X.calm = true) (hg : Gl X "min") (hm : X.mg "min" = none) (ha : DA X [a, b] ta) (hs : starEach [a, b] X.env = (false, eval a X.env) :: starEach [b] X.env := by rfl) (hpl : (backTo pos (starEach [b] X.env)).any (·.1) = false := by rfl) :
    DE X (.Call (.Name "min" p0) [a, b] [] pos) (dMin ta) := by
  obtain ⟨te, p1, l1⟩ := ha
  refine ⟨_, pe_callB (call_min2 hc) hg hm (by decide +kernel) p1 (by decide) (by decide) hs hpl, fun ρ σ H Q r h R k => l1 ρ σ H _ r h _ fun ds vs H1 s1 i1 ⟨i, j, ed, q⟩ => ?_⟩
  subst ed
  obtain ⟨v1, v2, rfl, j1, j2⟩ := i1.two
  exact ⟨i, j, by rw [is_int.mp j1, is_int.mp j2], k _ _ H1 s1 (is_int.mpr rfl) q⟩
structure IsiOk (K : PySem.W.Frag) (C : Addr) : Prop where
  cl : Cls K C
  ha : PySem.W.findIn K (.ref C) "__class__" = some (some (.builtin "object.__class__"))
  hn : PySem.W.specialIn K (.builtin "object.__class__") "__get__" = some (some (.builtin "getset_descriptor.__get__"))
  htk : PySem.W.takesIn K (.builtin "object.__class__") = some true
  hm : PySem.W.mroIn K C (.type "object") = some true
theorem call_isiO : CallR X (.builtin "isinstance") (fun xs H Q => ∃ v D tv b, xs = [v, .ref D] ∧ TyOf X.K H v tv ∧ PySem.W.kitOne X.K tv (.ref D) = some b ∧ Q (.bl b) H) := by
  intro pins s σ H xs us Q I r h
  obtain ⟨v, D, tv, b, rfl, hty, hk, q⟩ := h
  cases r with
  | cons r1 r2 =>
    cases r2 with
    | cons r3 r4 =>
      cases r4
      cases r3
      exact isinst_ok I r1 hty hk fun tk => ⟨.bl b, H, I.tok _, rfl, q⟩
def dIsiO (K : PySem.W.Frag) (D : Addr) (ta : DTE) : DTE := fun ρ Q => ta ρ fun d => ∃ C f n b, d = .way C f n ∧ IsiOk K C ∧ PySem.W.kitOne K (.ref C) (.ref D) = some b ∧ Q (.bl b)
theorem de_isiO {a : Expr} {t : DTE} {y : Str} {p' : Pos} {D : Addr} (hm : X.mg "isinstance" = none) (hmc : X.mg y = some (.ref D)) (ha : DE X a t)
    (hg : Gl X "isinstance" := by rfl) (hgc : Gl X y := by rfl) (hdy : (y == ("__debug__" : Str)) = false := by decide)
    (hs : starEach [a, .Name y p'] X.env = (false, eval a X.env) :: starEach [.Name y p'] X.env := by rfl) (hs2 : starEach [.Name y p'] X.env = (false, eval (.Name y p') X.env) :: starEach [] X.env := by rfl)
    (hpl : (backTo pos (starEach [.Name y p'] X.env)).any (·.1) = false := by rfl) :
    DE X (.Call (.Name "isinstance" p0) [a, .Name y p'] [] pos) (dIsiO X.K D t) := by
  obtain ⟨te, p1, l1⟩ := ha
  have pc : PE X (.Name y p') (tC (.ref D)) := pe_glob hgc hmc rfl hdy
  refine ⟨_, pe_callB call_isiO hg hm boot_isinstance (pa_cons p1 (pa_cons pc pa_nil hs2) hs) (by decide) (by decide) hs hpl, fun ρ σ H Q r h R k => l1 ρ σ H _ r h _ fun d v H1 s1 i1 ⟨C, f, n, b, ed, ok, e, q⟩ => ?_⟩
  subst ed
  obtain ⟨p, dx, rfl, hp⟩ := is_way.mp i1
  exact ⟨_, D, _, b, rfl, .ins (H1.sub _ _ hp) ok.cl ok.ha ok.hn ok.htk ok.hm, e, k _ _ H1 s1 (is_bl.mpr rfl) q⟩
def dAugI (i : Nat) (g : Int → Int → Int) (te : DTE) : DTS := fun D ρ => ∃ d, ρ[i]? = some (.some d) ∧ te ρ fun e => ∃ m n, d = .int m ∧ e = .int n ∧ D.nx (ρ.set i (.some (.int (g m n))))
theorem ds_augI {i : Nat} {x : Str} {e : Expr} {te : DTE} {op : Operator} {g : Int → Int → Int} {pos' : Pos} (ho : PIp X op (ipI g)) (hN : X.N.Nodup) (hi : X.N[i]? = some x) (hx : Loc X.env.scope x) (h : DE X e te)
    (hf : X.fn x = true ∨ X.env.scope.names.lookup x = some .local := by first | exact .inl rfl | exact .inr rfl | assumption) : DSt X fr (.AugAssign (.Name x pos') op e pos) (dAugI i g te) := by
  obtain ⟨tt, p, l⟩ := h
  refine ⟨_, ps_aug hN hi hx p ho hf, fun W0 G ρ σ W D D' a s h => ?_⟩
  obtain ⟨d, ed, h⟩ := h
  obtain ⟨v, ev, iv⟩ := a.rl.at_ i d ed
  refine ⟨v, ev, l ρ σ W _ a.rl h _ fun z u W1 s1 i1 ⟨m, n, em, en, q⟩ => ?_⟩
  subst em
  subst en
  exact ⟨m, n, is_int.mp iv, is_int.mp i1, s.nx _ _ W1 ((a.step s1).set i (is_int.mpr rfl)) q⟩
end
end OD

namespace OD
variable {Z : Hp}
open PySem PySem.Spec PyProof.Rows L2
section
variable {X : Cx} {tg : Expr}
variable {fr : Fr} {ta : DTA} {tb : DTS} {te : DTE} {pos p0 p1 p2 : Pos}
end
end OD

namespace OD
variable {Z : Hp}
open PySem PySem.Spec PyProof.Rows L2
section
variable {X : Cx} {a : Expr} {te : TE} {tl th ts : TO} {lo hi : Option Expr} {st : Expr} {pos p2 : Pos} {ta : DTE} {dl dh dt : DTO}
variable {fr : Fr} {tA : DTA} {tb : DTS} {p0 p1 : Pos}
def dSeqJ (t u : DTS) : DTS := fun D ρ => ∃ P : DS → Prop, t { D with nx := P } ρ ∧ ∀ ρ', P ρ' → u D ρ'
theorem dss_join {sst : Stmt} {rest : List Stmt} {t u : DTS} (h1 : DSt X fr sst t) (h2 : DSs X fr rest u) : DSs X fr (sst :: rest) (dSeqJ t u) := by
  obtain ⟨ts, p1, l1⟩ := h1
  obtain ⟨us, p2, l2⟩ := h2
  refine ⟨_, pss_cons p1 p2, fun W0 G ρ σ W D D' a s h => ?_⟩
  obtain ⟨P, h, k⟩ := h
  exact l1 W0 G ρ σ W { D with nx := P } { D' with nx := us D' } a ⟨fun ρ' σ' W' a' q => l2 W0 G ρ' σ' W' D D' a' s (k ρ' q), s.tl, s.bk, s.ct⟩ h
end
end OD

namespace OD
open PySem PySem.Spec PyProof.Rows L2
section
variable {X : Cx} {ta : DTE} {pos p0 : Pos}
end
end OD

namespace OD
variable {Z : Hp}
open PySem PySem.Spec PyProof.Rows L2
section
variable {X : Cx} {K : PySem.W.Frag} {H : Hp}
def gS (f : Str → Str → Dt) : Dt → Dt → (Dt → Prop) → Prop := fun d e Q => ∃ x y, d = .str x ∧ e = .str y ∧ Q (f x y)
theorem dec_strV {x y : Str} : decide (V.str x = V.str y) = (x == y) := by
  rw [Bool.eq_iff_iff]
  simp
theorem o_eqS : DOp X (compareOp .Eq) (gS fun x y => .bl (x == y)) := by
  refine ⟨_, op_eq, fun H x y d e Q i1 i2 ⟨a, b, ed, ee, q⟩ R k => ?_⟩
  subst ed
  subst ee
  obtain rfl := is_str.mp i1
  obtain rfl := is_str.mp i2
  refine ⟨rfl, ?_⟩
  rw [dec_strV]
  exact k _ _ H (Le.refl H) (is_bl.mpr rfl) q
theorem o_neS : DOp X (compareOp .NotEq) (gS fun x y => .bl (!(x == y))) := by
  refine ⟨_, op_ne, fun H x y d e Q i1 i2 ⟨a, b, ed, ee, q⟩ R k => ?_⟩
  subst ed
  subst ee
  obtain rfl := is_str.mp i1
  obtain rfl := is_str.mp i2
  refine ⟨rfl, ?_⟩
  rw [dec_strV]
  exact k _ _ H (Le.refl H) (is_bl.mpr rfl) q
end
section
variable {X : Cx} {fr : Fr} {te : DTE} {tb : DTS} {pos p0 p1 p2 : Pos}
end
end OD

namespace OD
variable {Z : Hp}
open PySem PySem.Spec PyProof.Rows L2
section
variable {X : Cx} {pins : List (Addr × Obj)} {σ : St} {H : Hp} {s : Shared} {scope : Scope} {cl : List (Str × Addr)} {x : Str} {caps : List Str} {js : List Nat} {fp : List Addr}
end
section
variable {X : Cx} {fr : Fr} {osc scope : Scope} {x : Str} {caps : List Str} {js : List Nat} {N0 : List Str} {L : Addr} {a elt : Expr} {ta te : DTE} {px p0 pos pos1 : Pos}
end
section
variable {X : Cx} {a : Expr} {p0 pos : Pos}
end
end OD

namespace OD
variable {Z : Hp}
open PySem PySem.Spec PyProof.Rows L2
section
variable {X : Cx} {fr : Fr} {osc scope : Scope} {x : Str} {caps : List Str} {js : List Nat} {N0 : List Str} {L : Addr} {iter elt : Expr} {ta te : DTE} {px pos : Pos}
end
end OD

namespace L2
open PySem PySem.Spec PyProof.Rows
def K2 (h h' : Heap) : Prop := ∀ a o vs, h.get? a = some o → o.data = .fields vs → ∃ o' vs', h'.get? a = some o' ∧ o'.data = .fields vs' ∧ vs'[2]? = vs[2]?
theorem K2.refl (h : Heap) : K2 h h := fun _ o vs x y => ⟨o, vs, x, y, rfl⟩
theorem K2.trans {h1 h2 h3 : Heap} (x : K2 h1 h2) (y : K2 h2 h3) : K2 h1 h3 := fun a o vs p q =>
  let ⟨o', vs', p', q', r'⟩ := x a o vs p q
  let ⟨o2, vs2, p2, q2, r2⟩ := y a o' vs' p' q'
  ⟨o2, vs2, p2, q2, r2.trans r'⟩
theorem K2.keeps {h h' : Heap} (k : ∀ b o, h.get? b = some o → h'.get? b = some o) : K2 h h' := fun a o vs p q => ⟨o, vs, k a o p, q, rfl⟩
theorem K2.update {h : Heap} {a : Addr} {o : Obj} {f : Obj → Obj} (ho : h.get? a = some o) (hf : ∀ vs, o.data = .fields vs → ∃ vs', (f o).data = .fields vs' ∧ vs'[2]? = vs[2]?) : K2 h (h.update a f) := fun b o' vs p q => by
  by_cases e : a = b
  · subst e
    rw [ho] at p
    cases p
    obtain ⟨vs', z1, z2⟩ := hf vs q
    exact ⟨_, vs', Heap.get?_update_self f ho (Obj.isFreed_of_fields z1), z1, z2⟩
  · exact ⟨o', vs, (Heap.get?_update_other _ _ e).trans p, q, rfl⟩
def Kp2 {α : Type} (t : Sem α) : Prop := ∀ (M : Model) (Γ : PySem.Ctx) (Q : α → Pos → Shared → Prop) (E : Value → Pos → Shared → Prop) (p : Pos) (s : Shared), Sem.wp M Γ t Q E p s →
  Sem.wp M Γ t (fun a p' s' => Q a p' s' ∧ K2 s.heap s'.heap) (fun e p' s' => E e p' s' ∧ K2 s.heap s'.heap) p s
theorem kp_pure {α : Type} (a : α) : Kp2 (pure a : Sem α) := fun _ _ _ _ _ s h => ⟨h, K2.refl _⟩
theorem kp_uns {α : Type} (z : String) : Kp2 (unsupported z : Sem α) := fun _ _ _ _ _ s h => False.elim h
theorem kp_bind {α β : Type} {m : Sem α} {f : α → Sem β} (hm : Kp2 m) (hf : ∀ a, Kp2 (f a)) : Kp2 (m >>= f) := fun M Γ Q E p s h => by
  rw [Sem.wp_bind'] at h ⊢
  exact Sem.wp_mono M Γ m (fun a p' s' ⟨x, y⟩ => Sem.wp_mono M Γ (f a) (fun _ _ _ ⟨u, v⟩ => ⟨u, y.trans v⟩) (fun _ _ _ ⟨u, v⟩ => ⟨u, y.trans v⟩) p' s' (hf a M Γ Q E p' s' x)) (fun _ _ _ x => x) p s (hm M Γ _ _ p s h)
theorem kp_ite {α : Type} {c : Prop} [Decidable c] {a b : Sem α} (ha : Kp2 a) (hb : Kp2 b) : Kp2 (if c then a else b) := by split; exact ha; exact hb
theorem kp_load (a : Addr) : Kp2 (load a) := fun M Γ Q E p s ⟨o, x, y⟩ => ⟨o, x, y, K2.refl _⟩
theorem kp_stack : Kp2 PySem.stack := fun M Γ Q E p s h => ⟨h, K2.refl _⟩
theorem kp_alloc (o : Obj) : Kp2 (alloc o) := fun M Γ Q E p s h => ⟨h, K2.keeps fun _ _ => Heap.get?_push_of_some _⟩
theorem kp_update {a : Addr} {f : Obj → Obj} (hf : ∀ o vs, o.data = .fields vs → ∃ vs', (f o).data = .fields vs' ∧ vs'[2]? = vs[2]?) : Kp2 (update a f) := fun M Γ Q E p s ⟨x, y⟩ => by
  obtain ⟨o, ho⟩ := Option.isSome_iff_exists.mp x
  exact ⟨x, y, K2.update ho (hf o)⟩
theorem kp_fieldsOf (v : Value) : Kp2 (fieldsOf v) := by
  unfold fieldsOf
  split
  · refine kp_bind (kp_load _) fun o => ?_
    split
    · exact kp_pure _
    · exact kp_uns _
  · exact kp_uns _
theorem kp_field (v : Value) (i : Nat) : Kp2 (field v i) := by
  unfold field
  refine kp_bind (kp_fieldsOf v) fun vs => ?_
  split
  · exact kp_pure _
  · exact kp_uns _
theorem kp_setField (v : Value) (i : Nat) (x : Value) (hi : i ≠ 2) : Kp2 (setField v i x) := by
  unfold setField
  split
  · unfold updateField
    refine kp_bind (kp_load _) fun o => ?_
    split
    · refine kp_ite (kp_update fun o vs hd => ⟨_, Obj.data_mapFields hd _, Array.getElem?_setIfInBounds_ne hi⟩) (kp_uns _)
    · exact kp_uns _
  · exact kp_uns _
theorem kp_setFlight (e : Value) (f : Option Addr) : Kp2 (setFlight e f) := by
  unfold setFlight
  refine kp_bind (kp_field _ _) fun tb => kp_ite (kp_setField _ _ _ (by decide)) (kp_pure _)
theorem kp_behind (env : Env) (outer : List Env) : Kp2 (behindIsImport env outer) := by
  unfold behindIsImport
  refine kp_ite (kp_pure _) (kp_ite (kp_pure _) (kp_bind (kp_field _ _) fun _ => kp_pure _))
theorem kp_back (env : Env) (b : Bool) (l : List Env) : Kp2 (keptBack env b l) := by
  unfold keptBack
  split
  · refine kp_ite (kp_pure _) ?_
    unfold underTheClaimsCaller
    exact kp_bind (kp_bind kp_stack fun _ => kp_pure _) fun _ => kp_pure _
  · exact kp_pure _
theorem kp_ready : ∀ l : List Env, Kp2 (readyFrames l)
  | [] => kp_pure _
  | env :: outer => by
    unfold readyFrames
    split
    · refine kp_bind (kp_load _) fun o => kp_ite (kp_pure _) ?_
      refine kp_bind (kp_behind _ _) fun _ => kp_bind (kp_back _ _ _) fun _ => kp_bind (kp_update fun o vs hd => ⟨vs, hd, rfl⟩) fun _ => kp_ready outer
    · exact kp_uns _
theorem kp_frameOf (env : Env) : Kp2 (PySem.frameOf env) := by
  unfold PySem.frameOf
  refine kp_bind (by unfold frameEnvs; exact kp_bind kp_stack fun _ => kp_pure _) fun l => kp_bind ?_ fun r => ?_
  · unfold frameObject
    split
    · exact kp_pure _
    · exact kp_bind (kp_ready _) fun _ => kp_pure _
  · split
    · exact kp_pure _
    · exact kp_uns _
theorem kp_place (f : Addr) (b : Bool) : Kp2 (entryPlaceOf f b) := by
  unfold entryPlaceOf
  refine kp_bind kp_stack fun _ => ?_
  split
  · exact kp_pure _
  · exact kp_pure _
theorem kp_newEntry (a b c d e : Value) (l : List Value) : Kp2 (EntryCells.newEntry a b c d e l) := by
  unfold EntryCells.newEntry newFields newObj newObjAsIs
  have z : ∀ d : Data, Kp2 (do let a ← alloc { cls := .type "traceback", data := d }; pure (Value.ref a) : Sem Value) := fun d => kp_bind (kp_alloc _) fun _ => kp_pure _
  generalize ([a, b, c, d, e] ++ (if l.isEmpty then List.replicate 6 Value.none else l)) = q
  simp only []
  exact kp_ite (kp_bind (kp_uns _) fun _ => z _) (z _)
theorem kp_note (e : Value) (env : Env) : Kp2 (noteFrame e env) := by
  unfold noteFrame
  split
  · refine kp_bind (kp_field _ _) fun hd => ?_
    have z : ∀ f, Kp2 (do setField e 1 (← EntryCells.newEntry hd (← PySem.frameOf env) .none (rawInt f) .none (← entryPlaceOf f (hd != .none)))) := fun f => kp_bind (kp_frameOf _) fun _ => kp_bind (kp_place _ _) fun _ => kp_bind (kp_newEntry _ _ _ _ _ _) fun _ => kp_setField _ _ _ (by decide)
    refine kp_ite ?_ (z _)
    exact kp_bind (kp_field _ _) fun _ => kp_ite (kp_pure _) (kp_bind (kp_setField _ _ _ (by decide)) fun _ => z _)
  · exact kp_uns _
theorem kp_leaving (env : Env) (e : Value) : Kp2 (leaving env e) := kp_bind (kp_note _ _) fun _ => kp_setFlight _ _
theorem with2 {α : Type} {M : Model} {A : Around} {t : Sem α} {Q : α → Shared → Prop} {E : Value → Shared → Prop} {s : Shared} (k : Kp2 t) (h : wpAny M A t (fun a s' => K2 s.heap s'.heap → Q a s') (fun e s' => K2 s.heap s'.heap → E e s') s) : wpAny M A t Q E s := fun Γ p hΓ =>
  Sem.wp_mono M Γ t (fun _ _ _ ⟨x, y⟩ => x y) (fun _ _ _ ⟨x, y⟩ => x y) p s (k M Γ _ _ p s (h Γ p hΓ))
def Chn (h : Heap) : Nat → Value → Prop
  | 0, v => v = .none
  | n + 1, v => ∃ a o vs x, v = .ref a ∧ h.get? a = some o ∧ o.data = .fields vs ∧ vs[2]? = some x ∧ Chn h n x
theorem Chn.k2 {h h' : Heap} (k : K2 h h') : ∀ {n : Nat} {v : Value}, Chn h n v → Chn h' n v
  | 0, _, e => e
  | _ + 1, _, ⟨a, o, vs, x, e, ho, hd, hx, c⟩ =>
    let ⟨o', vs', ho', hd', hx'⟩ := k a o vs ho hd
    ⟨a, o', vs', x, e, ho', hd', hx'.trans hx, Chn.k2 k c⟩
end L2

namespace L2
open PySem PySem.Spec PyProof.Rows
section
variable {P : Program} {w : World} {H H' : Hp} {h B : Heap}
theorem HOk.part (x : HOk P w H h) (k : ∀ b u, H b ≠ none → h.get? b = some u → B.get? b = some u) : HOk P w H B := fun a o e =>
  (x a o e).stay (fun b u hb q => k b u (fun z => by rcases hb with rfl | y; (rw [e] at z; cases z); (rw [y] at z; cases z)) q) (fun _ q => q) fun _ _ q => q
theorem ObjOk.there {a : Addr} {o : HO} (x : ObjOk P w H h a o) : ∃ u, h.get? a = some u := by
  cases o with
  | lst xs => obtain ⟨_, _, _, _, e⟩ := x; exact ⟨_, e⟩
  | tup xs => obtain ⟨_, _, _, o, e, _⟩ := x; exact ⟨_, e⟩
  | dK kvs => obtain ⟨_, _, _, _, o, _, _, e, _⟩ := x; exact ⟨_, e⟩
  | dT kvs => obtain ⟨_, _, _, _, o, _, _, e, _⟩ := x; exact ⟨_, e⟩
  | set S n => obtain ⟨o, _, _, _, e, _⟩ := x; exact ⟨_, e⟩
  | ins C dx fs => obtain ⟨_, _, _, e, _⟩ := x; exact ⟨_, e⟩
  | own y => exact x
  | xd fs => obtain ⟨_, ⟨_, _, _, e, _⟩, _⟩ := x; exact ⟨_, e⟩
  | rng lo hi => obtain ⟨_, _, _, e⟩ := x; exact ⟨_, e⟩
  | frz ob u => obtain ⟨e, _⟩ := x; exact ⟨_, e⟩
  | tbl ps => exact ⟨_, (show h.get? a = some _ from x)⟩
  | met f y => exact ⟨_, (show h.get? a = some _ from x)⟩
  | ext φ => obtain ⟨_, e, _⟩ := x; exact e
end
structure FliesB (P : Program) (w : World) (stack : List Env) (H : Hp) (h0 : Heap) (H' : Hp) (e : Addr) (cls : Value) (h : Heap) : Prop where
  ex : ∃ B a0, Heap.FlyingW B stack e cls a0 h ∧ (∀ b o, h0.get? b = some o → H b = none → b ∉ frs stack → B.get? b = some o) ∧ (∀ b o, h0.get? b = some o → b ∉ frs stack → ∃ o', B.get? b = some o') ∧ HOk P w H' B
  slot : ∀ b o, h0.get? b = some o → b ∈ frs stack → ∃ sl, h.get? b = some { o with slots := sl }
  free : ∀ b o, h0.get? b = some o → H b = none → H' b = none
  tups : ∀ b xs, H b = some (.tup xs) → H' b = some (.tup xs)
  frzs : ∀ b o u, H b = some (.frz o u) → H' b = some (.frz o u)
  tbls : ∀ b ps, H b = some (.tbl ps) → ∃ more, H' b = some (.tbl (ps ++ more))
  new : h0.get? e = none
section
variable {P : Program} {w : World} {stack : List Env} {H H' : Hp} {h0 h : Heap} {e : Addr} {cls : Value}
theorem FliesB.un (f : FliesB P w stack H h0 H' e cls h) : Un (frs stack) [] H H' h0 h := by
  obtain ⟨B, a0, ⟨st, _, _, _⟩, k1, k2, _⟩ := f.ex
  refine ⟨fun b o q n hb _ => st b o (k1 b o q n hb), fun b o q _ hb _ => f.slot b o q hb, fun b o q n _ => f.free b o q n, fun b o q _ => ?_, f.tups, f.frzs, f.tbls⟩
  by_cases hb : b ∈ frs stack
  · obtain ⟨sl, z⟩ := f.slot b o q hb
    exact ⟨_, z⟩
  · obtain ⟨o', z⟩ := k2 b o q hb
    exact ⟨o', st b o' z⟩
theorem FliesB.hok (f : FliesB P w stack H h0 H' e cls h) : HOk P w H' h := by
  obtain ⟨B, a0, ⟨st, _, _, _⟩, _, _, k3⟩ := f.ex
  exact k3.kept st
theorem FliesB.go (f : FliesB P w stack H h0 H' e cls h) : ∃ B a0, Heap.FlyingW B stack e cls a0 h ∧ ∀ h', Heap.FlyingW B stack e cls a0 h' → h.UpToSlots h' → FliesB P w stack H h0 H' e cls h' := by
  obtain ⟨B, a0, fl, k1, k2, k3⟩ := f.ex
  refine ⟨B, a0, fl, fun h' fl' up => ⟨⟨B, a0, fl', k1, k2, k3⟩, fun b o q hb => ?_, f.free, f.tups, f.frzs, f.tbls, f.new⟩⟩
  obtain ⟨sl, z⟩ := f.slot b o q hb
  obtain ⟨_, ob, ho, hd⟩ := fl.2.2.1.mem hb
  rw [z] at ho
  cases ho
  obtain ⟨sl', z'⟩ := up b _ z hd
  exact ⟨sl', z'⟩
end
structure Flies (P : Program) (w : World) (stack : List Env) (H : Hp) (h0 : Heap) (H' : Hp) (e : Addr) (cls : Value) (h : Heap) : Prop extends FliesB P w stack H h0 H' e cls h where
  chn : ∃ n, Chn h n (.ref e)
section
variable {X : Cx} {pins : List (Addr × Obj)} {σ : St} {H H' : Hp} {s s' : Shared} {M : Model} {E : Value → Shared → Prop} {e : Addr} {cls : Value}
theorem Inv.neL (I : Inv X pins σ H s) {b : Addr} {o : Obj} (q : X.s₀.heap.get? b = some o) : b ≠ X.env.locals := Nat.ne_of_lt (Nat.lt_of_lt_of_le (Heap.lt_size q) I.ok.above)
theorem fly_made {vs : List Value} {h1 : Heap} {Q : Unit → Shared → Prop} (I : Inv X pins σ H s) (hstk : X.stack = X.env :: X.outer) (hf : X.env.frame = some X.env.locals) (hex : X.ex = []) (hx : Heap.MadeExcOf s.heap h1 e cls vs)
    (hQ : ∀ h', Flies X.prog X.w X.outer X.H₀ X.s₀.heap H e cls h' → Q () { s with heap := h' }) : wpAny M X.A (leaving X.env (.ref e)) Q E { s with heap := h1 } := by
  have hfr : X.A.frames = some (X.env :: X.outer) := by rw [← hstk]; exact I.ok.frames
  have hfs : frs X.stack = X.env.locals :: frs X.outer := by rw [hstk]; unfold frs; rw [List.filterMap_cons, hf]
  have hl : s.heap.FunFrames (PySem.W.hideAll s.heap (frs X.stack)) (X.env :: X.outer) := by
    have z := I.stack
    rw [hstk] at z
    refine PySem.W.funFrames_hide z fun env he a ha => ?_
    rw [hstk]
    exact List.mem_filterMap.mpr ⟨env, he, ha⟩
  have nx : ∀ b, b ∉ X.ex := fun b z => by rw [hex] at z; cases z
  have nst : ∀ b o, X.s₀.heap.get? b = some o → b ∉ frs X.outer → b ∉ frs X.stack := fun b o q nb z => by
    rw [hfs] at z
    rcases List.mem_cons.mp z with z | z
    · exact I.neL q z
    · exact nb z
  have c1 : Chn h1 1 (.ref e) := by
    obtain ⟨t, he, _⟩ := hx.there
    exact ⟨e, _, _, .none, rfl, he, rfl, rfl, rfl⟩
  refine with2 (kp_leaving _ _) ?_
  refine PySem.wpAny_leaves_madeW (s := { s with heap := h1 }) (h := s.heap) (base := PySem.W.hideAll s.heap (frs X.stack)) hfr hf (fun b o q => PySem.W.of_hideAll _ q) hl hx fun h' t x1 x2 x3 x4 k2 => hQ h' ⟨⟨⟨_, _, x1, fun b o q n nb => ?_, fun b o q nb => ?_, ?_⟩, fun b o q hb => ?_, fun b o q n => I.base.free b o q n (nx b), I.base.tups, I.base.frzs, I.base.tbls, ?_⟩, 1, c1.k2 k2⟩
  · exact PySem.W.hideAll_get _ (I.base.keep b o q n nb (nx b)) (nst b o q nb)
  · obtain ⟨o', z⟩ := I.base.there b o q (nx b)
    exact ⟨o', PySem.W.hideAll_get _ z (nst b o q nb)⟩
  · exact I.hok.part fun b u hb q => PySem.W.hideAll_get _ q fun z => hb (I.stkFree b z)
  · obtain ⟨sl, z⟩ := I.base.slot b o q (I.ok.frf b hb) hb (nx b)
    obtain ⟨_, ob, ho, hd⟩ := I.funs.mem hb
    rw [z] at ho
    cases ho
    obtain ⟨sl', z'⟩ := x4 b _ (hx.keeps b _ z) hd
    exact ⟨sl', z'⟩
  · cases q : X.s₀.heap.get? e with
    | none => rfl
    | some o =>
      obtain ⟨o', z⟩ := I.base.there e o q (nx e)
      rw [hx.new] at z; cases z
theorem fly_on {Q : Unit → Shared → Prop} (I : Inv X pins σ H s) (hstk : X.stack = X.env :: X.outer) (hf : X.env.frame = some X.env.locals) (hex : X.ex = []) (f : Flies X.prog X.w X.stack H s.heap H' e cls s'.heap)
    (hQ : ∀ h', Flies X.prog X.w X.outer X.H₀ X.s₀.heap H' e cls h' → Q () { s' with heap := h' }) : wpAny M X.A (leaving X.env (.ref e)) Q E s' := by
  have hfr : X.A.frames = some (X.env :: X.outer) := by rw [← hstk]; exact I.ok.frames
  have hfs : frs X.stack = X.env.locals :: frs X.outer := by rw [hstk]; unfold frs; rw [List.filterMap_cons, hf]
  have nx : ∀ b, b ∉ X.ex := fun b z => by rw [hex] at z; cases z
  have nst : ∀ b o, X.s₀.heap.get? b = some o → b ∉ frs X.outer → b ∉ frs X.stack := fun b o q nb z => by
    rw [hfs] at z
    rcases List.mem_cons.mp z with z | z
    · exact I.neL q z
    · exact nb z
  obtain ⟨B, a0, fl, k1, k2, k3⟩ := f.ex
  have fl' := fl
  rw [hstk] at fl'
  obtain ⟨cn, ch⟩ := f.chn
  refine with2 (kp_leaving _ _) ?_
  refine PySem.wpAny_leaves_onW hfr hf fl' fun h' x1 x2 k2' => hQ h' ⟨⟨⟨B, a0, x1, fun b o q n nb => ?_, fun b o q nb => ?_, k3⟩, fun b o q hb => ?_, fun b o q n => ?_, fun b xs q => f.tups b xs (I.base.tups b xs q), fun b o u q => f.frzs b o u (I.base.frzs b o u q), fun b ps q => ?_, ?_⟩, cn, ch.k2 k2'⟩
  · exact k1 b o (I.base.keep b o q n nb (nx b)) (I.base.free b o q n (nx b)) (nst b o q nb)
  · obtain ⟨o', z⟩ := I.base.there b o q (nx b)
    exact k2 b o' z (nst b o q nb)
  · obtain ⟨sl, z⟩ := I.base.slot b o q (I.ok.frf b hb) hb (nx b)
    have hb' : b ∈ frs X.stack := by rw [hfs]; exact List.mem_cons_of_mem _ hb
    obtain ⟨sl', z'⟩ := f.slot b _ z hb'
    obtain ⟨_, ob, ho, hd⟩ := fl.2.2.1.mem hb'
    rw [z'] at ho
    cases ho
    obtain ⟨sl2, z2⟩ := x2 b _ z' hd
    exact ⟨sl2, z2⟩
  · obtain ⟨o', z⟩ := I.base.there b o q (nx b)
    exact f.free b o' z (I.base.free b o q n (nx b))
  · obtain ⟨m1, e1⟩ := I.base.tbls b ps q
    obtain ⟨m2, e2⟩ := f.tbls b _ e1
    exact ⟨m1 ++ m2, by rw [e2, Array.append_assoc]⟩
  · cases q : X.s₀.heap.get? e with
    | none => rfl
    | some o =>
      obtain ⟨o', z⟩ := I.base.there e o q (nx e)
      rw [f.new] at z; cases z
end
def ExcK (K : PySem.W.Frag) (C : Addr) : Prop := PySem.W.excIn K C [.type "ValueError", .type "Exception", .type "BaseException", .type "object"] "ValueError.__new__" = true
theorem exc_obj {K : PySem.W.Frag} {h : Heap} {C : Addr} (X : K.In h) (q : ExcK K C) : ∃ bm N nm qn bs hdct sn sub ab col dd k0 k1 k2 k3 k5 mN, h.get? C = some (excClassObj nm qn C N bs bm hdct sn sub ab col dd k0 k1 k2 k3 k5 "ValueError.__new__") ∧ h.Ns N mN ∧ mN "__init__" = none ∧ OwnTail h [.type "ValueError", .type "Exception", .type "BaseException", .type "object"] bm := by
  unfold ExcK PySem.W.excIn at q
  split at q
  · rename_i d1 cl s1 look
    split at q
    · rename_i C1 tl w0 w1 w2 w3 nid w5 em es
      simp only [Bool.and_eq_true, Bool.not_eq_true', beq_iff_eq] at q
      obtain ⟨⟨⟨⟨⟨rfl, rfl⟩, q1⟩, q2⟩, q3⟩, q4⟩ := q
      obtain ⟨a1, a2, a3, a4, a5, a6, a7, a8, a9, b1, b2⟩ := cl
      dsimp only at em q1 q3 q4
      subst em q1
      obtain rfl : s1 = #[w0, w1, w2, w3, some (.builtin "ValueError.__new__"), w5] := by
        obtain ⟨l⟩ := s1
        simp only at es; rw [es]
      exact ⟨tl, a4, a1, a5, a2, a6, a7, a8, a9, b1, d1, w0, w1, w2, w3, w5, _, X _ _ look, .of_isNs (PySem.W.isNs_of_in X q3), PySem.W.nsMap_none_of_in X q3 q4, PySem.W.tail_of_in X q2⟩
    · cases q
  · cases q
def XOk (X : Cx) (C : Addr) (H : Hp) : Prop := ∀ (pins : List (Addr × Obj)) (σ : St) (s : Shared) (h1 : Heap) (e : Addr) (vs : List Value), Inv X pins σ H s → Heap.MadeExcOf s.heap h1 e (.ref C) vs → X.xe (.ref e) { s with heap := h1 }
def sRaise (X : Cx) (C : Addr) (te : TE) : TS := fun _ σ H => te σ H fun _ H1 => XOk X C H1
theorem ps_raise {X : Cx} {C : Addr} {x : Str} {a : Expr} {te : TE} {np cpos pos : Pos} (hc : X.calm = true) (hg : Gl X x) (hm : X.mg x = some (.ref C)) (hC : ExcK X.K C) (ha : PE X a te)
    (hdb : (x == ("__debug__" : Str)) = false := by decide) (he : starEach [a] X.env = (false, eval a X.env) :: starEach [] X.env := by rfl) : PS X (.Raise (some (.Call (.Name x np) [a] [] cpos)) none pos) (sRaise X C te) := by
  intro pins s σ H D I h
  obtain ⟨bm, N, nm, qn, bs, hdct, sn, sub, ab, col, dd, k0, k1, k2, k3, k5, mN, hO, hN, hni, T⟩ := exc_obj I.ok.mod.kin hC
  refine PySem.wpAny_Raise_call_subU (C := C) (nm := nm) (q := qn) (N := N) (bs := bs) (bm := bm) (hdct := hdct) (sn := sn) (sub := sub) (ab := ab) (col := col) (dd := dd) (k0 := k0) (k1 := k1) (k2 := k2) (k3 := k3) (k5 := k5)
    PySem.F.excBase_ValueError (by decide) PySem.F.excBase_ValueError (mN := mN) (T.hasType PySem.F.excBase_ValueError.hasBase) (I.ok.hd hc) (by rw [he]; rfl) hni (ld_glob I hg hm ⟨rfl, ?_⟩ hdb)
  have z := pa_cons ha pa_nil he cpos pins s σ H (fun us H1 => us.length = 1 ∧ XOk X C H1) I (show te σ H (fun x H1 => [x].length = 1 ∧ XOk X C H1) from by
    have h : te σ H (fun _ H1 => XOk X C H1) := h
    simpa using h)
  rw [he] at z ⊢
  refine Calls.evalArgs_plain (thn z fun vs s1 ⟨us, H1, I1, r, hl, q⟩ => ⟨rfl, ?_, I1.bk _ _ hO, hN.keeps I1.bk, T.keeps I1.bk, fun h' e hx => q pins σ s1 h' e vs I1 hx⟩)
  show vs.length ≤ _
  rw [← r.length, hl]
  decide
def CX1 (P : Program) (w : World) : CXT := fun outer H s E e s' => ∃ a C H', e = .ref a ∧ s'.os = s.os ∧ AllBare s'.gens ∧ Flies P w outer H s.heap H' a (.ref C) s'.heap ∧ E (.ref C) none H'
section
variable {P : Program} {w : World} {K : PySem.W.Frag} {mg : Str → Option Value} {base : Heap} {N : List Str} {qual : Str} {scope : Scope} {f C : Addr} {cd : Value} {A : Around} {outer : List Env} {s : Shared} {H H1 : Hp} {E : XK}
theorem xok_of (h : E (.ref C) none H1) : XOk (cxOf (CX1 P w) P w K mg base N qual scope f cd A outer s H E) C H1 := fun pins σ s' h1 e vs I hx =>
  fly_made (X := cxOf (CX1 P w) P w K mg base N qual scope f cd A outer s H E) I rfl rfl rfl hx fun h' fl => ⟨e, C, H1, rfl, I.os, I.bare, fl, h⟩
end
section
variable {X : Cx} {CX : CXT} {k : Nat} {f C : Addr} {fd : FuncData} {ps : List Str} {sp : Sp} {dvs : List V} {ds : List Value} {x y : Str} {p pos : Pos} {e : Expr} {es : List Expr} {t : TA}
end
abbrev TB := (St → Hp → Prop) → XK → St → Hp → Prop
section
variable {X : Cx} {pins : List (Addr × Obj)} {σ : St} {H : Hp} {s : Shared} {a : Addr}
end
section
variable {X : Cx} {t : TB} {th : TS} {y : Str} {c : Value} {py hpos pos : Pos} {body : List Stmt} {b₀ : Stmt} {suite : List Stmt}
end
section
variable {X : Cx} {pins : List (Addr × Obj)} {σ : St} {H : Hp} {s : Shared}
end
section
variable {X : Cx} {t : TB} {th : TS} {y n : Str} {j : Nat} {c : Value} {py hpos pos : Pos} {body : List Stmt} {b₀ : Stmt} {suite : List Stmt}
end
end L2
namespace L2
open PySem PySem.Spec PyProof.Rows PySem.W PySem.Builtin PySem.Builtin.ObjectAttr PySem.Builtin.Getset_descriptor
structure IsxOk (K : PySem.W.Frag) (C : Addr) : Prop where
  ga : PySem.W.findIn K (.ref C) "__getattribute__" = some (some (.builtin "BaseException.__getattribute__"))
  gn : PySem.W.findIn K (.ref C) "__getattr__" = some none
  ha : PySem.W.findIn K (.ref C) "__class__" = some (some (.builtin "object.__class__"))
  hn : PySem.W.specialIn K (.builtin "object.__class__") "__get__" = some (some (.builtin "getset_descriptor.__get__"))
  htk : PySem.W.takesIn K (.builtin "object.__class__") = some true
  hm : PySem.W.mroIn K C (.type "object") = some true
  hb : PySem.W.mroIn K C (.type "BaseException") = some true
section
variable {prog : Program} {w : World} {A : Around} {E : Value → Shared → Prop} {s : Shared} {K : PySem.W.Frag} {a C : Addr} {oa : Obj}
end
end L2
namespace OD
open PySem PySem.Spec PyProof.Rows L2
variable {Z : Hp}
def XOn (X : Cx) (C : Addr) (H' : Hp) : Prop := ∀ (pins : List (Addr × Obj)) (σ : L2.St) (H : Hp) (s : Shared) (a : Addr) (s' : Shared), Inv X pins σ H s → s'.os = s.os → AllBare s'.gens → Flies X.prog X.w X.stack H s.heap H' a (.ref C) s'.heap → X.xe (.ref a) s'
def Ecan (X : Cx) : XK := fun cls _ H' => ∃ C, cls = .ref C ∧ XOn X C H'
theorem pass_can {X : Cx} : Passes (CX1 X.prog X.w) X (Ecan X) := fun pins σ H s e s' I ⟨a, C, H', ee, os, bare, fl, C', ec, h⟩ => by
  cases ec
  subst ee
  exact h pins σ H s a s' I os bare fl
def Rz (X : Cx) (C : Addr) : Prop := ∀ H', Same (Zx X) H' → XOk X C H' ∧ XOn X C H'
section
variable {P : Program} {w : World} {K : PySem.W.Frag} {mg : Str → Option Value} {base : Heap} {N : List Str} {qual : Str} {scope : Scope} {f C : Addr} {cd : Value} {A : Around} {outer : List Env} {s : Shared} {H H1 : Hp} {E : XK}
theorem rz_of (h : ∀ H', Same H H' → E (.ref C) none H') : Rz (cxOf (CX1 P w) P w K mg base N qual scope f cd A outer s H E) C := fun H' z => by
  rw [zx_def] at z
  refine ⟨xok_of (h H' z), fun pins σ H2 s2 a s' I os bare fl => ?_⟩
  exact fly_on (X := cxOf (CX1 P w) P w K mg base N qual scope f cd A outer s H E) I rfl rfl rfl fl fun h' fl' => ⟨a, C, H', rfl, os.trans I.os, bare, fl', h H' z⟩
end
abbrev DSpX := List Dt → (Dt → Prop) → (Addr → Prop) → Prop
def PureSpX (K : PySem.W.Frag) (S : DSpX) : Sp := fun vs H Q E => ∃ (W : Vw) (ds : List Dt) (Qd : Dt → Prop) (Ed : Addr → Prop), W.h = H ∧ AllIs K W.g ds vs ∧ S ds Qd Ed ∧ (∀ d v W', Le W W' → Is K W'.g d v → Qd d → Q v W'.h) ∧ ∀ C H', Same W.h H' → Ed C → E (.ref C) none H'
def FreshSpX (K : PySem.W.Frag) (S : DSpX) : Sp := fun vs H Q E => ∃ (W : Vw) (ds : List Dt) (Qd : Dt → Prop) (Ed : Addr → Prop), W.h = H ∧ AllIs K W.g ds vs ∧ S ds Qd Ed ∧
  (∀ es p xs W', Le W W' → W.h p = none → W'.h p = some (.lst xs) → W'.g p = none → AllIs K W'.g es xs → Qd (.lst es) → Q (.ref p) W'.h) ∧ ∀ C H', Same W.h H' → Ed C → E (.ref C) none H'
structure DOkX (P : Program) (w : World) (K : PySem.W.Frag) (mg : Str → Option Value) (base : Heap) (n : Nat) (x : Str) (S : DSpX) : Prop where
  ex : ∃ f fd ps, mg x = some (.ref f) ∧ PySem.W.keepIn K (.ref f) = true ∧ Binds K fd ps [] ∧ FnOk P w K mg base (CX1 P w) n f fd ps (PureSpX K S)
structure FOkX (P : Program) (w : World) (K : PySem.W.Frag) (mg : Str → Option Value) (base : Heap) (n : Nat) (x : Str) (S : DSpX) : Prop where
  ex : ∃ f fd ps, mg x = some (.ref f) ∧ PySem.W.keepIn K (.ref f) = true ∧ Binds K fd ps [] ∧ FnOk P w K mg base (CX1 P w) n f fd ps (FreshSpX K S)
section
variable {P : Program} {w : World} {K : PySem.W.Frag} {mg : Str → Option Value} {base : Heap}
theorem Fun.okX {CX : CXT} {x qual : Str} {st : Stmt} {f : Addr} {fd : FuncData} {N ps : List Str} {k : Nat} {sp : Sp} (F : Fun K x qual st f fd) (S : FnScope N ps (defScope st)) (len : ∀ vs H Q E, sp vs H Q E → vs.length = ps.length)
    (hbody : ∀ (cdv : Value) (A : Around) (outer : List Env) (s : Shared) (H : Hp) (vs : List V) (Q : VK) (E : XK), Room k (A.deeper (envOfC qual (defScope st) s.heap.objs.size f cdv)) → sp vs H Q E →
      ∃ t, PSs (cxOf CX P w K mg base N qual (defScope st) f cdv A outer s H E) (defBody st) t ∧ t { nx := fun _ H' => Q .non H', rt := Q } (start N vs) H) : FnOk P w K mg base CX (k + 1) f fd ps sp := by
  obtain ⟨oc, od, kV, doc, pm, an, cdv, ct, osl, rfl, lk, hcd⟩ := F.ex
  exact fn_of lk hcd S len fun A outer s H vs Q E hr h => hbody cdv A outer s H vs Q E hr h
theorem okDX {x qual : Str} {st : Stmt} {f : Addr} {fd : FuncData} {N ps : List Str} {k : Nat} {S : DSpX} (F : Fun K x qual st f fd) (sc : FnScope N ps (defScope st)) (len : ∀ ds Q R, S ds Q R → ds.length = ps.length)
    (hbody : ∀ (cdv : Value) (A : Around) (outer : List Env) (s : Shared) (H : Hp) (E : XK), Room k (A.deeper (envOfC qual (defScope st) s.heap.objs.size f cdv)) → ∀ (ds : List Dt) (Q : Dt → Prop) (R : Addr → Prop), S ds Q R →
      (∀ C, R C → Rz (cxOf (CX1 P w) P w K mg base N qual (defScope st) f cdv A outer s H E) C) →
      ∃ t, DSs (cxOf (CX1 P w) P w K mg base N qual (defScope st) f cdv A outer s H E) .d (defBody st) t ∧ t { nx := fun _ => Q .non, rt := Q } (dstart N.length ds)) : FnOk P w K mg base (CX1 P w) (k + 1) f fd ps (PureSpX K S) := by
  refine Fun.okX F sc (fun vs H Q E h => ?_) (fun cdv A outer s H vs Q E hr h => ?_)
  · obtain ⟨W, ds, Qd, Ed, _, ia, hS, _⟩ := h
    rw [← ia.length]
    exact len ds Qd Ed hS
  obtain ⟨W, ds, Qd, Ed, rfl, ia, hS, kk, ke⟩ := h
  obtain ⟨t, ⟨ts, p, l⟩, ht⟩ := hbody cdv A outer s W.h E hr ds Qd Ed hS fun C hC => rz_of fun H' z => ke C H' z hC
  refine ⟨ts, p, l W W.g (dstart N.length ds) (start N vs) W { nx := fun _ => Qd .non, rt := Qd } _ (at_start ia (zx_stk (Nat.succ_ne_self _))) ⟨fun ρ σ W' a q => kk .non .non W' a.le (is_non.mpr rfl) q, fun d v W' s' i' q => kk d v W' s' i' q, fun _ _ _ _ q => q.elim, fun _ _ _ _ q => q.elim⟩ ht⟩
theorem DOkX.mk' {x qual : Str} {st : Stmt} {f : Addr} {fd : FuncData} {ps : List Str} {n : Nat} {S : DSpX} (F : Fun K x qual st f fd) (hm : mg x = some (.ref f)) (hb : Binds K fd ps []) (h : FnOk P w K mg base (CX1 P w) n f fd ps (PureSpX K S)) : DOkX P w K mg base n x S :=
  ⟨f, fd, ps, hm, F.kp, hb, h⟩
theorem FOkX.mk' {x qual : Str} {st : Stmt} {f : Addr} {fd : FuncData} {ps : List Str} {n : Nat} {S : DSpX} (F : Fun K x qual st f fd) (hm : mg x = some (.ref f)) (hb : Binds K fd ps []) (h : FnOk P w K mg base (CX1 P w) n f fd ps (FreshSpX K S)) : FOkX P w K mg base n x S :=
  ⟨f, fd, ps, hm, F.kp, hb, h⟩
theorem DOkX.mono {x : Str} {m n : Nat} {S : DSpX} (h : DOkX P w K mg base m x S) (hl : m ≤ n) : DOkX P w K mg base n x S :=
  let ⟨f, fd, ps, h1, h2, h3, h4⟩ := h.ex; ⟨f, fd, ps, h1, h2, h3, h4.mono hl⟩
theorem FOkX.mono {x : Str} {m n : Nat} {S : DSpX} (h : FOkX P w K mg base m x S) (hl : m ≤ n) : FOkX P w K mg base n x S :=
  let ⟨f, fd, ps, h1, h2, h3, h4⟩ := h.ex; ⟨f, fd, ps, h1, h2, h3, h4.mono hl⟩
end
section
variable {X : Cx} {e a : Expr} {es : List Expr} {t : DTA} {ta : DTE} {n : Nat} {x y : Str} {S : DSpX} {p pos np cpos : Pos} {fr : Fr} {C : Addr}
theorem rl_zx {F : Hp} {W : Vw} {ρ : DS} {σ : L2.St} {K : PySem.W.Frag} (r : Rl K Z F W ρ σ) : Same Z W.h := r.z.trans r.fr
def dCallX (X : Cx) (S : DSpX) (t : DTA) : DTE := fun ρ Q => t ρ fun ds => S ds Q (Rz X)
theorem de_callX (G : DOkX X.prog X.w X.K X.mg X.base n x S) (hr : Room n X.A) (hg : Gl X x) (ha : DA X (e :: es) t) (hdb : (x == ("__debug__" : Str)) = false := by decide)
    (he : starEach (e :: es) X.env = (false, eval e X.env) :: starEach es X.env := by rfl) (hpl : (backTo pos (starEach es X.env)).any (·.1) = false := by rfl) : DE X (.Call (.Name x p) (e :: es) [] pos) (dCallX X S t) := by
  obtain ⟨f, fd, ps, hm, hk, hb, F⟩ := G.ex
  obtain ⟨te, p1, l1⟩ := ha
  refine ⟨_, pe_call F hr hg hm hk hb .nil pass_can p1 hdb he hpl, fun ρ σ H Q r h R k => l1 ρ σ H _ r h _ fun ds vs H1 s1 i1 q1 => ?_⟩
  rw [List.append_nil]
  exact ⟨H1, ds, Q, Rz X, rfl, i1, q1, fun d v H2 s2 i2 q2 => k d v H2 (s1.trans s2) i2 q2, fun C H' s' hC => ⟨C, rfl, (hC H' (((rl_zx r).trans s1.h).trans s')).2⟩⟩
def dRaise (X : Cx) (C : Addr) (ta : DTE) : DTS := fun _ ρ => ta ρ fun _ => Rz X C
theorem ds_raise (hc : X.calm = true) (hg : Gl X x) (hm : X.mg x = some (.ref C)) (hC : ExcK X.K C) (ha : DE X a ta) (hdb : (x == ("__debug__" : Str)) = false := by decide)
    (he : starEach [a] X.env = (false, eval a X.env) :: starEach [] X.env := by rfl) : DSt X fr (.Raise (some (.Call (.Name x np) [a] [] cpos)) none pos) (dRaise X C ta) := by
  obtain ⟨te, p1, l1⟩ := ha
  exact ⟨_, ps_raise hc hg hm hC p1 hdb he, fun W0 G ρ σ W D D' at_ s h => l1 ρ σ W _ at_.rl h _ fun d v W1 s1 i1 q1 => (q1 W1.h ((rl_zx at_.rl).trans s1.h)).1⟩
def Vw.at (W : Vw) (H' : Hp) (s : Same W.h H') : Vw := ⟨W.g, H', W.sub.trans s⟩
variable {b₀ : Stmt} {suite : List Stmt} {th : DTS} {c : Value} {py hpos epos tpos : Pos}
end
theorem Rl.unset {K : PySem.W.Frag} {F : Hp} {W : Vw} {ρ : DS} {σ : L2.St} (r : Rl K Z F W ρ σ) (j : Nat) : Rl K Z F W (ρ.set j .none) (σ.set j none) := by
  refine ⟨by rw [List.length_set, List.length_set]; exact r.len, fun i d q => ?_, fun i ds q => ?_, fun i k ds es hik q1 q2 => ?_, r.fr, r.z, fun i c ds q => ?_, r.ob.set j _ (fun φ z => by cases z)⟩
  · rcases set_get q with ⟨_, _, e1⟩ | ⟨hij, q⟩
    · cases e1
    · rw [List.getElem?_set_ne hij]; exact r.at_ i d q
  · rcases set_get q with ⟨_, _, e1⟩ | ⟨hij, q⟩
    · cases e1
    · rw [List.getElem?_set_ne hij]; exact r.ow i ds q
  · rcases set_get q1 with ⟨_, _, e1⟩ | ⟨h1, q1⟩
    · cases e1
    rcases set_get q2 with ⟨_, _, e1⟩ | ⟨h2, q2⟩
    · cases e1
    rw [List.getElem?_set_ne h1, List.getElem?_set_ne h2]; exact r.ne i k ds es hik q1 q2
  · rcases set_get q with ⟨_, _, e1⟩ | ⟨hij, q⟩
    · cases e1
    obtain ⟨⟨ys', g1, g2⟩, k1, k2⟩ := r.ar i c ds q
    refine ⟨⟨ys', by rw [List.getElem?_set_ne hij]; exact g1, g2⟩, fun k es' q' => ?_, fun k c' es' q' => ?_⟩
    · rcases set_get q' with ⟨_, _, e1⟩ | ⟨hik, q'⟩
      · cases e1
      · rw [List.getElem?_set_ne hik]; exact k1 k es' q'
    · rcases set_get q' with ⟨_, _, e1⟩ | ⟨hik, q'⟩
      · cases e1
      exact k2 k c' es' q'
theorem At.unset {K : PySem.W.Frag} {W0 W : Vw} {G : Hp} {ρ : DS} {σ : L2.St} (a : At K Z W0 G W ρ σ) (j : Nat) : At K Z W0 G W (ρ.set j .none) (σ.set j none) := ⟨a.le, a.gs, a.rl.unset j⟩
section
variable {X : Cx} {e : Expr} {es : List Expr} {t : DTA} {n : Nat} {x y m : Str} {i j : Nat} {S : DSpX} {p pos py hpos epos tpos : Pos} {fr : Fr} {b₀ : Stmt} {suite : List Stmt} {th : DTS} {c : Value}
end
end OD

namespace OD
variable {Z : Hp}
open PySem PySem.Spec PyProof.Rows L2
def PC (X : Cx) (ifs : List Expr) (t : TT) : Prop :=
  ∀ (pins : List (Addr × Obj)) (s : Shared) (σ : St) (H : Hp) (Q : Bool → Hp → Prop) (E : Value → Shared → Prop), (∀ v s, X.xe v s → E v s) → Inv X pins σ H s → t σ H Q →
    wpAny (model X.prog X.w) X.A (forIn ifs true fun c r => if r = true then do let ok ← isTrue c X.env (eval c X.env); pure (ForInStep.yield ok) else pure (ForInStep.yield r)) (TP X pins σ Q) E s
section
variable {X : Cx} {pins : List (Addr × Obj)} {σ : St} {H : Hp} {s : Shared} {scope : Scope} {cl : List (Str × Addr)} {bs caps : List Str} {js : List Nat} {fp : List Addr}
end
end OD
namespace OD
variable {Z : Hp}
open PySem PySem.Spec PyProof.Rows L2
abbrev DTI := DS → (Nat → (Nat → Dt → Prop) → Prop) → Prop
section
variable {X : Cx} {fr : Fr} {osc scope : Scope} {bs caps : List Str} {js : List Nat} {N0 : List Str} {L : Addr} {tg iter elt a : Expr} {ifs : List Expr} {ta te : DTE} {di : DTI} {tt : DTT} {dg : Dt → List Dt → Prop} {gt : TG} {px p0 pos pos1 : Pos}
end
end OD

namespace OD
variable {Z : Hp}
open PySem PySem.Spec PyProof.Rows L2
section
variable {K : PySem.W.Frag} {F : Hp} {W W' W0 : Vw}
theorem NewL.mono {d : Dt} {v : V} (h : NewL K F W d v) (s : Le W W') : NewL K F W' d v := by
  obtain ⟨es, p, xs, h1, h2, h3, h4, h5, h6⟩ := h
  exact ⟨es, p, xs, h1, h2, h3, s.h _ _ h4, s.n p (by rw [h4]; intro z; cases z) h5, h6.mono s⟩
theorem Prt.mono {b : Bool} {d : Dt} {v : V} (h : Prt K F W b d v) (s : Le W W') : Prt K F W' b d v := by
  cases b with
  | false => exact Is.mono h s
  | true =>
    rcases h with h | ⟨h1, h2⟩
    · exact .inl (h.mono s)
    · exact .inr ⟨h1, Is.mono h2 s⟩
theorem Prt.frz {b : Bool} {d : Dt} {u : V} (le : Le W0 W) (h : Prt K W0.h W b d u) : ∃ W1 : Vw, W1.h = W.h ∧ Same W.g W1.g ∧ Le W0 W1 ∧ Is K W1.g d u ∧
    ∀ b2 d2 u2, Prt K W0.h W b2 d2 u2 → (∀ es fs, b = true → b2 = true → d = .lst es → d2 = .lst fs → u ≠ u2) → Prt K W0.h W1 b2 d2 u2 := by
  cases b with
  | false => exact ⟨W, rfl, Same.refl _, le, h, fun _ _ _ k _ => k⟩
  | true =>
    rcases h with ⟨es, p, xs, rfl, rfl, h3, h4, h5, h6⟩ | ⟨_, h2⟩
    · refine ⟨W.frz p _ h4, rfl, same_new h5 _, le_frz le h3 h4 h5, is_lst.mpr ⟨p, xs, rfl, upd_same, AllIs.mono0 (same_new h5 _) h6⟩, fun b2 d2 u2 k ne => ?_⟩
      cases b2 with
      | false => exact Is.mono0 (same_new h5 _) k
      | true =>
        rcases k with ⟨fs, q, ys, rfl, rfl, k3, k4, k5, k6⟩ | ⟨k1, k2⟩
        · have hq : q ≠ p := fun z => ne es fs rfl rfl rfl rfl (by rw [z])
          exact .inl ⟨fs, q, ys, rfl, rfl, k3, k4, (upd_ne hq).trans k5, AllIs.mono0 (same_new h5 _) k6⟩
        · exact .inr ⟨k1, Is.mono0 (same_new h5 _) k2⟩
    · exact ⟨W, rfl, Same.refl _, le, h2, fun _ _ _ k _ => k⟩
theorem Tld.frz {fr : Fr} {d : Dt} {v : V} (le : Le W0 W) (h : Tld K W0.h W fr d v) : ∃ W1 : Vw, W1.h = W.h ∧ Le W0 W1 ∧ Is K W1.g d v := by
  match fr, h with
  | .d, h => exact ⟨W, rfl, le, h⟩
  | .l, ⟨es, p, xs, e1, e2, h3, h4, h5, h6⟩ =>
    subst e1; subst e2
    exact ⟨W.frz p _ h4, rfl, le_frz le h3 h4 h5, is_lst.mpr ⟨p, xs, rfl, upd_same, AllIs.mono0 (same_new h5 _) h6⟩⟩
  | .t a b, ⟨d1, d2, q, u1, u2, e1, e2, hq, p1, p2, ne⟩ =>
    subst e1; subst e2
    obtain ⟨W1, e1, s1, le1, i1, k1⟩ := p1.frz le
    obtain ⟨W2, e2, s2, le2, i2, _⟩ := (k1 b d2 u2 p2 ne).frz le1
    exact ⟨W2, e2.trans e1, le2, is_tup.mpr ⟨q, _, rfl, s2 _ _ (s1 _ _ hq), allIs_cons.mpr ⟨u1, _, rfl, Is.mono0 s2 i1, allIs_cons.mpr ⟨u2, _, rfl, i2, allIs_nil.mpr rfl⟩⟩⟩⟩
end
def TldSp (K : PySem.W.Frag) (fr : Fr) (S : DSp) : Sp := fun vs H Q _ => ∃ (W : Vw) (ds : List Dt) (Qd : Dt → Prop), W.h = H ∧ AllIs K W.g ds vs ∧ S ds Qd ∧ ∀ d v W', Le W W' → Tld K W.h W' fr d v → Qd d → Q v W'.h
def TldSpX (K : PySem.W.Frag) (fr : Fr) (S : DSpX) : Sp := fun vs H Q E => ∃ (W : Vw) (ds : List Dt) (Qd : Dt → Prop) (Ed : Addr → Prop), W.h = H ∧ AllIs K W.g ds vs ∧ S ds Qd Ed ∧
  (∀ d v W', Le W W' → Tld K W.h W' fr d v → Qd d → Q v W'.h) ∧ ∀ C H', Same W.h H' → Ed C → E (.ref C) none H'
structure TOk (P : Program) (w : World) (K : PySem.W.Frag) (mg : Str → Option Value) (base : Heap) (n : Nat) (x : Str) (fr : Fr) (S : DSp) : Prop where
  ex : ∃ f fd ps, mg x = some (.ref f) ∧ PySem.W.keepIn K (.ref f) = true ∧ Binds K fd ps [] ∧ FnOk P w K mg base CX0 n f fd ps (TldSp K fr S)
structure TOkX (P : Program) (w : World) (K : PySem.W.Frag) (mg : Str → Option Value) (base : Heap) (n : Nat) (x : Str) (fr : Fr) (S : DSpX) : Prop where
  ex : ∃ f fd ps, mg x = some (.ref f) ∧ PySem.W.keepIn K (.ref f) = true ∧ Binds K fd ps [] ∧ FnOk P w K mg base (CX1 P w) n f fd ps (TldSpX K fr S)
section
variable {P : Program} {w : World} {K : PySem.W.Frag} {mg : Str → Option Value} {base : Heap} {fr : Fr}
theorem TOk.dok {x : Str} {n : Nat} {S : DSp} (h : TOk P w K mg base n x fr S) : DOk P w K mg base n x S :=
  let ⟨f, fd, ps, h1, h2, h3, h4⟩ := h.ex; ⟨f, fd, ps, h1, h2, h3, h4.imp fun vs H Q E ⟨W, ds, Qd, a, b, c, k⟩ => ⟨W, ds, Qd, a, b, c, fun d v W' le t q => by
    obtain ⟨W1, e1, le1, i1⟩ := t.frz le
    rw [← e1]
    exact k d v W1 le1 i1 q⟩⟩
theorem TOkX.dok {x : Str} {n : Nat} {S : DSpX} (h : TOkX P w K mg base n x fr S) : DOkX P w K mg base n x S :=
  let ⟨f, fd, ps, h1, h2, h3, h4⟩ := h.ex; ⟨f, fd, ps, h1, h2, h3, h4.imp fun vs H Q E ⟨W, ds, Qd, Ed, a, b, c, k, ke⟩ => ⟨W, ds, Qd, Ed, a, b, c, fun d v W' le t q => by
    obtain ⟨W1, e1, le1, i1⟩ := t.frz le
    rw [← e1]
    exact k d v W1 le1 i1 q, ke⟩⟩
theorem okT {x qual : Str} {st : Stmt} {f : Addr} {fd : FuncData} {N ps : List Str} {k : Nat} {S : DSp} (F : Fun K x qual st f fd) (sc : FnScope N ps (defScope st)) (len : ∀ ds Q, S ds Q → ds.length = ps.length)
    (hbody : ∀ (cdv : Value) (A : Around) (outer : List Env) (s : Shared) (H : Hp) (E : XK), Room k (A.deeper (envOfC qual (defScope st) s.heap.objs.size f cdv)) → ∀ (ds : List Dt) (Q : Dt → Prop), S ds Q →
      ∃ t, DSs (cxOf CX0 P w K mg base N qual (defScope st) f cdv A outer s H E).nox fr (defBody st) t ∧ t { nx := fun _ => False, rt := Q } (dstart N.length ds)) : FnOk P w K mg base CX0 (k + 1) f fd ps (TldSp K fr S) := by
  refine F.ok sc (fun vs H Q E h => ?_) (fun cdv A outer s H vs Q E hr h => ?_)
  · obtain ⟨W, ds, Qd, _, ia, hS, _⟩ := h
    rw [← ia.length]
    exact len ds Qd hS
  obtain ⟨W, ds, Qd, rfl, ia, hS, kk⟩ := h
  obtain ⟨t, ⟨ts, p, l⟩, ht⟩ := hbody cdv A outer s W.h E hr ds Qd hS
  exact ⟨ts, p, l W W.g (dstart N.length ds) (start N vs) W { nx := fun _ => False, rt := Qd } _ (at_start ia (zx_stk (Nat.succ_ne_self _))) ⟨fun ρ σ W' a q => q.elim, kk, fun _ _ _ _ q => q.elim, fun _ _ _ _ q => q.elim⟩ ht⟩
theorem TOk.mk' {x qual : Str} {st : Stmt} {f : Addr} {fd : FuncData} {ps : List Str} {n : Nat} {S : DSp} (F : Fun K x qual st f fd) (hm : mg x = some (.ref f)) (hb : Binds K fd ps []) (h : FnOk P w K mg base CX0 n f fd ps (TldSp K fr S)) : TOk P w K mg base n x fr S :=
  ⟨f, fd, ps, hm, F.kp, hb, h⟩
theorem TOkX.mk' {x qual : Str} {st : Stmt} {f : Addr} {fd : FuncData} {ps : List Str} {n : Nat} {S : DSpX} (F : Fun K x qual st f fd) (hm : mg x = some (.ref f)) (hb : Binds K fd ps []) (h : FnOk P w K mg base (CX1 P w) n f fd ps (TldSpX K fr S)) : TOkX P w K mg base n x fr S :=
  ⟨f, fd, ps, hm, F.kp, hb, h⟩
end
section
variable {X : Cx} {fr : Fr} {a b : Bool} {e e1 e2 : Expr} {es : List Expr} {t t1 t2 : DTE} {ta : DTA} {n : Nat} {x y : Str} {S : DSp} {SX : DSpX} {p pos p0 p1 p2 : Pos} {i j : Nat}
def dOwn (i : Nat) : DTE := fun ρ Q => ∃ ds, ρ[i]? = some (.own ds) ∧ Q (.lst ds)
def dRetT (t1 t2 : DTE) : DTS := fun D ρ => t1 ρ fun d1 => t2 ρ fun d2 => D.rt (.tup [d1, d2])
theorem ds_retOO {x1} (i j : Nat) (hij : i ≠ j := by decide) (hN : X.N[i]? = some x := by rfl) (hN2 : X.N[j]? = some y := by rfl) (hv : Vis X.env.scope x := by first | exact Or.inl rfl | exact Or.inr (Or.inl rfl) | exact Or.inr (Or.inr rfl)) (hv2 : Vis X.env.scope y := by first | exact Or.inl rfl | exact Or.inr (Or.inl rfl) | exact Or.inr (Or.inr rfl)) (hd : (x == ("__debug__" : Str)) = false := by decide)
    (hcd : (x == ("__classdict__" : Str)) = false := by decide) (hd2 : (y == ("__debug__" : Str)) = false := by decide) (hcd2 : (y == ("__classdict__" : Str)) = false := by decide)
    (hst : starEach [.Name x p1, .Name y p2] X.env = (false, eval (.Name x p1) X.env) :: starEach [.Name y p2] X.env := by rfl) (hst2 : starEach [.Name y p2] X.env = (false, eval (.Name y p2) X.env) :: starEach [] X.env := by rfl) :
    DSt X (.t true true) (.Return (some (.Tuple [.Name x p1, .Name y p2] x1 p0)) pos) (dRetT (dOwn i) (dOwn j)) := by
  refine ⟨_, ps_ret (pe_tup (pa_cons (pe_var hN hv hd hcd) (pa_cons (pe_var hN2 hv2 hd2 hcd2) pa_nil hst2) hst)), fun W0 G ρ σ W D D' at_ s h => ?_⟩
  obtain ⟨ds, e, es, e', h⟩ := h
  obtain ⟨c, xs, e1, k2, k3, k4, k5⟩ := at_.rl.ow i ds e
  obtain ⟨c', ys, e1', k2', k3', k4', k5'⟩ := at_.rl.ow j es e'
  refine ⟨.ref c, e1, .ref c', e1', by show 2 ≤ _; decide, fun p hp => ?_⟩
  have s3 := le_new hp (.tup [.ref c, .ref c'])
  have n1 : NewL X.K W0.h W (.lst ds) (.ref c) := ⟨ds, c, xs, rfl, rfl, k4, k2, k3, k5⟩
  have n2 : NewL X.K W0.h W (.lst es) (.ref c') := ⟨es, c', ys, rfl, rfl, k4', k2', k3', k5'⟩
  refine s.tl _ (.ref p) (W.new p (.tup [.ref c, .ref c'])) (at_.le.trans s3) ⟨_, _, p, _, _, rfl, rfl, upd_same, .inl (n1.mono s3), .inl (n2.mono s3), fun _ _ _ _ _ _ z => ?_⟩ h
  exact at_.rl.ne i j ds es hij e e' (by rw [e1, e1', z])
def slP : Bool → Dt → Sl
  | true, .lst es => .own es
  | _, d => .some d
theorem Rl.ownN {K : PySem.W.Frag} {F : Hp} {W : Vw} {ρ : DS} {σ : St} (r : Rl K Z F W ρ σ) {p : Addr} {xs : List V} {ds : List Dt} (i : Nat) (nep : ∀ (j : Nat) (es : List Dt), ρ[j]? = some (Sl.own es) → σ[j]? ≠ some (some (V.ref p))) (nea : ∀ (j : Nat) (a : Addr) (es : List Dt), ρ[j]? = some (Sl.arg a es) → a ≠ p)
    (hF : F p = none) (h1 : W.h p = some (.lst xs)) (h2 : W.g p = none) (h3 : AllIs K W.g ds xs) : Rl K Z F W (ρ.set i (.own ds)) (σ.set i (some (.ref p))) := by
  refine ⟨by rw [List.length_set, List.length_set]; exact r.len, fun j e q => ?_, fun j es q => ?_, fun j k es es' hjk q1 q2 => ?_, r.fr, r.z, fun j a fs q => ?_, r.ob.set i _ (fun φ z => by cases z)⟩
  · rcases set_get q with ⟨_, _, e1⟩ | ⟨hij, q⟩
    · cases e1
    · rw [List.getElem?_set_ne hij]
      exact r.at_ j e q
  · rcases set_get q with ⟨rfl, hl, e1⟩ | ⟨hij, q⟩
    · cases e1
      exact ⟨p, xs, by rw [List.getElem?_set_self (by rw [← r.len]; exact hl)], h1, h2, hF, h3⟩
    · rw [List.getElem?_set_ne hij]
      exact r.ow j es q
  · rcases set_get q1 with ⟨rfl, hl, e1⟩ | ⟨hij, q1⟩
    · rcases set_get q2 with ⟨rfl, _, _⟩ | ⟨hik, q2⟩
      · exact absurd rfl hjk
      · rw [List.getElem?_set_self (by rw [← r.len]; exact hl), List.getElem?_set_ne hik]
        exact fun z => nep k es' q2 z.symm
    · rcases set_get q2 with ⟨rfl, hl, _⟩ | ⟨hik, q2⟩
      · rw [List.getElem?_set_self (by rw [← r.len]; exact hl), List.getElem?_set_ne hij]
        exact nep j es q1
      · rw [List.getElem?_set_ne hij, List.getElem?_set_ne hik]
        exact r.ne j k es es' hjk q1 q2
  · rcases set_get q with ⟨_, _, e1⟩ | ⟨hij, q⟩
    · cases e1
    obtain ⟨⟨ys, g1, g2⟩, k1, k2⟩ := r.ar j a fs q
    refine ⟨⟨ys, by rw [List.getElem?_set_ne hij]; exact g1, g2⟩, fun k es q' => ?_, fun k c es q' => ?_⟩
    · rcases set_get q' with ⟨rfl, hl, e1⟩ | ⟨hik, q'⟩
      · rw [List.getElem?_set_self (by rw [← r.len]; exact hl)]
        intro z
        cases z
        exact nea j _ fs q rfl
      · rw [List.getElem?_set_ne hik]
        exact k1 k es q'
    · rcases set_get q' with ⟨_, _, e1⟩ | ⟨hik, q'⟩
      · cases e1
      exact k2 k c es q'
theorem Rl.part {K : PySem.W.Frag} {F F' : Hp} {W : Vw} {ρ : DS} {σ : St} (r : Rl K Z F W ρ σ) {b : Bool} {d : Dt} {v : V} (i : Nat) (h : Prt K F' W b d v) (hF : ∀ p, F' p = none → F p = none)
    (nep : ∀ (p : Addr) (j : Nat) (es fs : List Dt), b = true → d = .lst fs → v = .ref p → F' p = none → ρ[j]? = some (Sl.own es) → σ[j]? ≠ some (some (V.ref p))) (nea : ∀ (p : Addr) (j : Nat) (a : Addr) (es : List Dt), F' p = none → ρ[j]? = some (Sl.arg a es) → a ≠ p) :
    Rl K Z F W (ρ.set i (slP b d)) (σ.set i (some v)) := by
  cases b with
  | false => cases d <;> exact r.set i h
  | true =>
    rcases h with ⟨es, p, xs, rfl, rfl, h3, h4, h5, h6⟩ | ⟨z, h2⟩
    · exact r.ownN i (fun j fs e => nep p j fs es rfl rfl rfl h3 e) (fun j a fs e => nea p j a fs h3 e) (hF p h3) h4 h5 h6
    · cases d <;> first | exact r.set i h2 | cases z
end
end OD

namespace L2
open PySem PySem.Spec PyProof.Rows
def Cx.arg (X : Cx) : Cx := { X with fn := fun y => !(y == "") }
section
variable {X : Cx} {pins : List (Addr × Obj)} {σ : St} {H : Hp} {s : Shared}
theorem Inv.arg (I : Inv X pins σ H s) (hf : ∀ y, X.fn y = true) : Inv X.arg pins σ H s :=
  ⟨⟨I.ok.mod, I.ok.kind, I.ok.glob, I.ok.blt, I.ok.above, I.ok.inj, I.ok.has, fun x c _ => I.ok.cab x c (hf x), I.ok.hd, I.ok.frames, I.ok.stk, I.ok.exf, I.ok.bs, I.ok.bsz, I.ok.noex, I.ok.exfs, I.ok.funs, I.ok.frf⟩, I.os, I.bare, I.base, I.loc, I.cell, I.free, I.freeC, I.pin, I.hok, I.len⟩
end
end L2
namespace OD
variable {Z : Hp}
open PySem PySem.Spec PyProof.Rows L2
def Vw.del (W : Vw) (a : Addr) (hg : W.g a = none) : Vw := ⟨W.g, fun b => if b = a then none else W.h b, fun b o q => by
  have : b ≠ a := fun e => by rw [e, hg] at q; cases q
  show (if b = a then none else W.h b) = some o
  rw [if_neg this]
  exact W.sub _ _ q⟩
abbrev ASp := Dt → List Dt → List Dt → (List Dt → Prop) → Prop
def ArgSp (K : PySem.W.Frag) (S : ASp) : Sp := fun vs H Q _ => ∃ (W : Vw) (d0 : Dt) (es0 ds : List Dt) (Qd : List Dt → Prop) (v0 : V) (a : Addr) (xs vs' : List V) (hg : W.g a = none), W.h = H ∧ vs = v0 :: .ref a :: vs' ∧ W.h a = some (.lst xs) ∧ Is K W.g d0 v0 ∧ AllIs K W.g es0 xs ∧ AllIs K W.g ds vs' ∧ S d0 es0 ds Qd ∧
  ∀ es ys W', Le (W.del a hg) W' → W'.h a = some (.lst ys) → W'.g a = none → AllIs K W'.g es ys → Qd es → Q .non W'.h
structure AOk (P : Program) (w : World) (K : PySem.W.Frag) (mg : Str → Option Value) (base : Heap) (n : Nat) (x : Str) (S : ASp) : Prop where
  ex : ∃ f fd ps, mg x = some (.ref f) ∧ PySem.W.keepIn K (.ref f) = true ∧ Binds K fd ps [] ∧ FnOk P w K mg base CX0 n f fd ps (ArgSp K S)
section
variable {P : Program} {w : World} {K : PySem.W.Frag} {mg : Str → Option Value} {base : Heap}
theorem AOk.mk' {x qual : Str} {st : Stmt} {f : Addr} {fd : FuncData} {ps : List Str} {n : Nat} {S : ASp} (F : Fun K x qual st f fd) (hm : mg x = some (.ref f)) (hb : Binds K fd ps []) (h : FnOk P w K mg base CX0 n f fd ps (ArgSp K S)) : AOk P w K mg base n x S :=
  ⟨f, fd, ps, hm, F.kp, hb, h⟩
end
section
variable {X : Cx} {fr : Fr} {e e0 k : Expr} {es : List Expr} {t te tk : DTE} {ta : DTA} {n : Nat} {x y : Str} {S : ASp} {p pos p0 p1 p2 p3 : Pos} {i : Nat}
end
end OD

namespace OD
variable {Z : Hp}
open PySem PySem.Spec PyProof.Rows L2
section
variable {X : Cx} {tg : Expr}
variable {a b c : Expr} {ta : DTA} {p0 pos1 : Pos}
end
end OD

namespace L2
open PySem PySem.Spec PyProof.Rows
section
variable {X : Cx}
end
end L2
namespace OD
variable {Z : Hp}
open PySem PySem.Spec PyProof.Rows L2
abbrev DTB := Prop → (Addr → Prop) → DS → Prop
section
variable {X : Cx} {e : Expr} {es : List Expr} {t : DTA} {n : Nat} {x y m : Str} {j : Nat} {S : DSpX} {p pos py hpos epos tpos : Pos} {fr : Fr} {th : DTS} {c : Value} {b₀ : Stmt} {suite body : List Stmt} {d : DTB}
end
end OD

namespace OD
open PySem L2
variable {X : Cx} {e : Expr} {t : DTE}
end OD

namespace OD
open PySem L2 PyProof.Rows
section
variable {Z F : Hp} {K : PySem.W.Frag} {W W' W0 : Vw} {G : Hp} {ρ : DS} {σ : L2.St}
theorem snoc_get {α : Type} {l : List α} {x y : α} {i : Nat} (q : (l ++ [x])[i]? = some y) : l[i]? = some y ∨ (i = l.length ∧ x = y) := by
  rcases Nat.lt_trichotomy i l.length with h | h | h
  · rw [List.getElem?_append_left h] at q; exact .inl q
  · subst h
    rw [List.getElem?_append_right (Nat.le_refl _), Nat.sub_self] at q
    exact .inr ⟨rfl, Option.some.inj q⟩
  · rw [List.getElem?_eq_none (by rw [List.length_append]; show l.length + 1 ≤ i; omega)] at q
    cases q
theorem get_lt {α : Type} {l : List α} {y : α} {i : Nat} (q : l[i]? = some y) : i < l.length := by
  rcases Nat.lt_or_ge i l.length with h | h
  · exact h
  · rw [List.getElem?_eq_none h] at q; cases q
theorem snoc_ne {α : Type} {l : List α} {x : α} {i : Nat} (h : i < l.length) : (l ++ [x])[i]? = l[i]? := List.getElem?_append_left h
theorem Rl.push (r : Rl K Z F W ρ σ) : Rl K Z F W (ρ ++ [Sl.none]) (σ ++ [none]) := by
  have hs : ∀ i y, ρ[i]? = some y → (σ ++ [none])[i]? = σ[i]? := fun i y q => snoc_ne (by rw [← r.len]; exact get_lt q)
  have cl : ∀ i y, (ρ ++ [Sl.none])[i]? = some y → y ≠ Sl.none → ρ[i]? = some y := fun i y q hy => by
    rcases snoc_get q with q | ⟨_, e⟩
    · exact q
    · exact absurd e.symm hy
  refine ⟨by rw [List.length_append, List.length_append, r.len]; rfl, fun i d q => ?_, fun i ds q => ?_, fun i k ds es hik q1 q2 => ?_, r.fr, r.z, fun i c ds q => ?_, fun i φ q => ?_⟩
  · have q := cl i _ q (fun z => nomatch z)
    rw [hs i _ q]; exact r.at_ i d q
  · have q := cl i _ q (fun z => nomatch z)
    rw [hs i _ q]; exact r.ow i ds q
  · have q1 := cl i _ q1 (fun z => nomatch z)
    have q2 := cl k _ q2 (fun z => nomatch z)
    rw [hs i _ q1, hs k _ q2]; exact r.ne i k ds es hik q1 q2
  · have q := cl i _ q (fun z => nomatch z)
    obtain ⟨⟨xs, h1, h2⟩, k1, k2⟩ := r.ar i c ds q
    refine ⟨⟨xs, by rw [hs i _ q]; exact h1, h2⟩, fun k es q' => ?_, fun k b es q' => k2 k b es (cl k _ q' (fun z => nomatch z))⟩
    have q' := cl k _ q' (fun z => nomatch z)
    rw [hs k _ q']; exact k1 k es q'
  · have q := cl i _ q (fun z => nomatch z)
    obtain ⟨⟨a, o, h1, h2⟩, k⟩ := r.ob i φ q
    exact ⟨⟨a, o, by rw [hs i _ q]; exact h1, h2⟩, fun l ψ q' => k l ψ (cl l _ q' (fun z => nomatch z))⟩
structure TAt (K : PySem.W.Frag) (Z : Hp) (W0 : Vw) (G : Hp) (W : Vw) (ρ : DS) (σ : L2.St) (i : Nat) (es : List Dt) (d : Dt) : Prop where
  ex : ∃ p q v, At K Z W0 G W (ρ ++ [.own es]) (σ ++ [some (.ref p)]) ∧ σ[i]? = some (some (.ref q)) ∧ W.g q = some (.tup [.ref p, v]) ∧ Is K W.g d v
variable {i : Nat} {es : List Dt} {d : Dt}
theorem TAt.step (t : TAt K Z W0 G W ρ σ i es d) (s : Le W W') : TAt K Z W0 G W' ρ σ i es d :=
  let ⟨p, q, v, a, h1, h2, h3⟩ := t.ex; ⟨p, q, v, a.step s, h1, s.g _ _ h2, h3.mono s⟩
abbrev DTG := List Dt → Dt → DTS
end
section
variable {X : Cx} {fr : Fr} {st : Stmt} {rest : List Stmt} {t : DTE} {u : DTS} {ug : DTG} {e : Expr} {te : DTE} {pos p0 p1 p2 p3 pos' : Pos} {i j : Nat} {x y : Str}
end
end OD

namespace OD
open PySem L2
section
variable {js : List Nat} {ta te : DTE} {X : Cx} {e : Expr} {fr : Fr} {st : Stmt} {i : Nat}
end
end OD

namespace L2
open PySem PySem.Spec PyProof.Rows
section
variable {X : Cx} {o e : Expr} {es : List Expr} {n : Nat} {m x : Str} {pos p apos py epos : Pos} {i : Nat}
end
end L2
namespace OD
variable {Z : Hp}
open PySem PySem.Spec PyProof.Rows L2
structure MOkX (P : Program) (w : World) (K : PySem.W.Frag) (mg : Str → Option Value) (base : Heap) (n : Nat) (C : Addr) (m : Str) (S : DSpX) : Prop where
  cl : Cls K C
  ex : ∃ f fd ps, Meth K C m f ∧ Binds K fd ps [] ∧ FnOk P w K mg base (CX1 P w) n f fd ps (PureSpX K S)
theorem MOkX.mono {P : Program} {w : World} {K : PySem.W.Frag} {mg : Str → Option Value} {base : Heap} {C : Addr} {x : Str} {m n : Nat} {S : DSpX} (h : MOkX P w K mg base m C x S) (hl : m ≤ n) : MOkX P w K mg base n C x S :=
  let ⟨f, fd, ps, a, b, c⟩ := h.ex; ⟨h.cl, f, fd, ps, a, b, c.mono hl⟩
abbrev DTC := (DS → Prop) → (Addr → Prop) → DS → Prop
section
variable {X : Cx} {o e : Expr} {es : List Expr} {t : DTA} {ta : DTE} {n : Nat} {x y m z : Str} {i j : Nat} {S : DSpX} {p pos py hpos epos tpos apos : Pos} {fr : Fr} {th : DTS} {c : Value} {b₀ : Stmt} {suite body : List Stmt} {d : DTC}
end
end OD

namespace OD
variable {Z : Hp}
open PySem PySem.Spec PyProof.Rows L2
section
variable {X : Cx} {a b : Expr} {ta : DTA} {te : DTE} {p0 pos pos1 tpos : Pos} {elts : List Expr} {x1 : Nat}
end
end OD

namespace OD
open PySem L2 PyProof.Rows
def MvSp (K : PySem.W.Frag) (S : DSp) : Sp := fun vs H Q _ => ∃ (W : Vw) (d0 : Dt) (es0 ds : List Dt) (Qd : Dt → Prop) (v0 : V) (a : Addr) (xs vs' : List V) (hg : W.g a = none), W.h = H ∧ vs = v0 :: .ref a :: vs' ∧ W.h a = some (.lst xs) ∧ Is K W.g d0 v0 ∧ AllIs K W.g es0 xs ∧ AllIs K W.g ds vs' ∧ S (d0 :: .lst es0 :: ds) Qd ∧
  ∀ es p ys W', Le (W.del a hg) W' → (W.del a hg).h p = none → W'.h p = some (.lst ys) → W'.g p = none → AllIs K W'.g es ys → Qd (.lst es) → Q (.ref p) W'.h
structure VOk (P : Program) (w : World) (K : PySem.W.Frag) (mg : Str → Option Value) (base : Heap) (n : Nat) (x : Str) (S : DSp) : Prop where
  ex : ∃ f fd ps, mg x = some (.ref f) ∧ PySem.W.keepIn K (.ref f) = true ∧ Binds K fd ps [] ∧ FnOk P w K mg base CX0 n f fd ps (MvSp K S)
section
variable {P : Program} {w : World} {K : PySem.W.Frag} {mg : Str → Option Value} {base : Heap}
theorem VOk.mk' {x qual : Str} {st : Stmt} {f : Addr} {fd : FuncData} {ps : List Str} {n : Nat} {S : DSp} (F : Fun K x qual st f fd) (hm : mg x = some (.ref f)) (hb : Binds K fd ps []) (h : FnOk P w K mg base CX0 n f fd ps (MvSp K S)) : VOk P w K mg base n x S :=
  ⟨f, fd, ps, hm, F.kp, hb, h⟩
end
section
variable {X : Cx} {e0 e1 : Expr} {es : List Expr} {t tf : DTE} {ta : DTA} {n : Nat} {x : Str} {S : DSp} {p pos : Pos}
end
end OD

namespace L2
open PySem PySem.Spec PyProof.Rows
section
variable {X : Cx} {a b : Expr} {ta tb : TE} {x1 x2 : Str} {p1 p2 p3 p4 pos : Pos}
end
end L2
namespace OD
open PySem PySem.Spec PyProof.Rows L2
section
variable {X : Cx} {a b : Expr} {ta tb : DTE} {x1 x2 : Str} {p1 p2 p3 p4 pos : Pos}
end
section
variable {X : Cx} {e : Expr} {es : List Expr} {t : DTA} {n : Nat} {x : Str} {p pos : Pos}
end
section
variable {P : Program} {w : World} {K : PySem.W.Frag} {mg : Str → Option Value} {base : Heap}
end
end OD

namespace OD
variable {Z : Hp}
open PySem PySem.Spec PyProof.Rows L2
section
variable {X : Cx} {tg : Expr}
variable {a b c : Expr} {ta : DTA} {p0 pos1 : Pos}
end
end OD
namespace L2
open PySem PySem.Spec PyProof.Rows
section
variable {prog : Program} {w : World} {A : Around} {E : Value → Shared → Prop} {s : Shared}
end
section
variable {X : Cx} {pos : Pos}
end
end L2
namespace OD
open PySem PySem.Spec PyProof.Rows L2
section
variable {X : Cx} {fr : Fr} {e : Expr} {te : DTE} {pos : Pos}
end
end OD

namespace L2
open PySem PySem.Spec PyProof.Rows
section
variable {X : Cx}
end
end L2
namespace OD
open PySem PySem.Spec PyProof.Rows L2
section
variable {X : Cx} {a b e : Expr} {ta tb t : DTE} {p pos p0 : Pos} {x : Str}
variable {apos cpos : Pos}
end
end OD
namespace L2
open PySem PySem.Spec PyProof.Rows
section
variable {X : Cx} {tg : Expr}
end
end L2
namespace OD
open PySem PySem.Spec PyProof.Rows L2
section
variable {X : Cx} {fr : Fr} {te : DTE} {pos : Pos}
end
end OD

namespace OD
open PySem
local macro_rules | `(tactic| walk_at "ws") => `(tactic| any_goals (first | assumption | wp_step))
def isDg (c : Nat) : Prop := 48 ≤ c ∧ c ≤ 57
def Numl (l : List Nat) : Prop := l = [48] ∨ ∃ c r, 49 ≤ c ∧ c ≤ 57 ∧ (∀ x ∈ r, isDg x) ∧ (l = c :: r ∨ l = 45 :: c :: r)
theorem Numl.mem {l : List Nat} (h : Numl l) : ∀ c ∈ l, 45 ≤ c ∧ c ≤ 57 := by
  rcases h with rfl | ⟨c, r, c1, c2, hr, rfl | rfl⟩
  · intro c hc
    rw [List.mem_singleton.mp hc]; decide
  · intro x hx
    rcases List.mem_cons.mp hx with rfl | hx
    · omega
    · have := hr x hx
      unfold isDg at this; omega
  · intro x hx
    rcases List.mem_cons.mp hx with rfl | hx
    · decide
    rcases List.mem_cons.mp hx with rfl | hx
    · omega
    · have := hr x hx
      unfold isDg at this; omega
end OD
namespace L2
open PySem PySem.Spec PyProof.Rows
section
variable {X : Cx}
end
end L2
namespace OD
open PySem PySem.Spec PyProof.Rows L2
section
variable {X : Cx} {a b e : Expr} {ta tb t : DTE} {p pos p0 : Pos} {x : Str}
variable {apos cpos : Pos}
end
end OD

namespace PySem
open Sem (wp)
section
variable {A : Around} {R : Result → Shared → Prop} {s : Shared} {w : World} {prog : Program}
end
end PySem
namespace PySem
open Sem (wp)
section
variable {A : Around} {R : Result → Shared → Prop} {s : Shared} {w : World} {prog : Program}
end
end PySem
namespace L2
open PySem PySem.Spec PyProof.Rows
section
variable {X : Cx} {a : Expr} {p0 p1 pos pos1 : Pos}
end
end L2
namespace OD
open PySem PySem.Spec PyProof.Rows L2
section
variable {X : Cx} {a : Expr} {ta : DTE} {p0 p1 pos pos1 : Pos}
end
end OD
namespace PySem
open Sem (wp)
section
variable {A : Around} {R : Result → Shared → Prop} {s : Shared} {w : World} {prog : Program}
end
end PySem
namespace L2
open PySem PySem.Spec PyProof.Rows
section
variable {X : Cx}
end
end L2
namespace OD
open PySem PySem.Spec PyProof.Rows L2
section
variable {X : Cx}
end
end OD

namespace L2
open PySem PySem.Spec PyProof.Rows
theorem K2.sameBut {h h' : Heap} {C : Addr} (hC : ∃ m, h.Ns C m) (sb : Heap.SameBut C h h') : K2 h h' := fun b o vs hb hd => by
  obtain ⟨m, oC, es, ep, hoC, hdC, _⟩ := hC
  refine ⟨o, vs, (sb.2 b fun z => ?_).trans hb, hd, rfl⟩
  rw [z, hoC] at hb
  cases hb
  rw [hdC] at hd
  cases hd
section
variable {P : Program} {w : World} {stack : List Env} {H H' : Hp} {h0 h : Heap} {e L : Addr} {cls : Value}
end
section
variable {X : Cx} {pins : List (Addr × Obj)} {σ : St} {H H' : Hp} {s s' : Shared} {M : Model} {E : Value → Shared → Prop} {e : Addr} {cls : Value}
end
end L2
namespace OD
open PySem PySem.Spec PyProof.Rows L2
section
variable {X : Cx} {pins pins1 : List (Addr × Obj)} {σ σ1 : L2.St} {H3 H1 H' : Hp} {s3 s1 s' : Shared} {scope : Scope} {x : Str} {fp : List Addr} {C a : Addr} {cls : Value}
end
section
variable {P : Program} {w : World} {K : PySem.W.Frag} {mg : Str → Option Value} {base : Heap} {N : List Str} {qual : Str} {scope : Scope} {f C : Addr} {cd : Value} {A : Around} {outer : List Env} {s : Shared} {H H1 : Hp} {E : XK}
end
section
variable {X : Cx} {pins : List (Addr × Obj)} {σ : L2.St} {H : Hp} {s : Shared} {scope : Scope} {x : Str} {fp : List Addr}
end
section
variable {Z : Hp} {X : Cx} {fr : Fr} {scope : Scope} {x g : Str} {iter : Expr} {px pv pf pos cpos : Pos} {tl : DTE} {S : DSpX} {n : Nat}
end
section
variable {P : Program} {w : World} {K : PySem.W.Frag} {mg : Str → Option Value} {base : Heap}
end
section
variable {X : Cx} {fr : Fr} {a e : Expr} {tg : Expr} {ta : DTA} {te : DTE} {p0 pos pos1 rpos tpos : Pos} {h₀ : ExceptHandler} {hs : List ExceptHandler}
end
end OD

namespace L2
open PySem PySem.Spec PyProof.Rows
section
variable {X : Cx}
end
end L2
namespace OD
open PySem PySem.Spec PyProof.Rows L2
section
variable {X : Cx} {a : Expr} {ta : DTE} {p0 pos : Pos}
end
end OD

namespace L2
open PySem PySem.Spec PyProof.Rows
section
variable {prog : Program} {w : World} {A : Around} {s : Shared} {h0 : Heap} {e : Addr} {R : Result → Shared → Prop}
end
section
variable {X : Cx} {pins : List (Addr × Obj)} {σ : St} {H H' : Hp} {s s' : Shared} {M : Model} {A : Around} {E : Value → Shared → Prop} {e : Addr} {cls : Value}
end
end L2
namespace OD
open PySem PySem.Spec PyProof.Rows L2
section
variable {X : Cx} {k n : Nat} {f Cz : Addr} {fd : FuncData} {ps : List Str} {sp : Sp} {x y z m : Str} {p pos rpos py hpos np cpos mpos npos zpos tpos : Pos} {j j' : Nat} {e : Expr} {es : List Expr} {t : TA} {c : Value}
end
section
variable {P : Program} {w : World} {K : PySem.W.Frag} {mg : Str → Option Value} {base : Heap}
end
end OD
namespace L2
open PySem PySem.Spec PyProof.Rows
end L2
namespace OD
open PySem PySem.Spec PyProof.Rows L2
section
variable {X : Cx} {fr : Fr} {e : Expr} {te : DTE} {pos : Pos}
end
end OD
namespace OD
open PySem PySem.Spec PyProof.Rows L2
end OD
namespace OD
open PySem PySem.Spec PyProof.Rows L2
section
variable {X : Cx} {K : PySem.W.Frag} {y : Str} {a : Expr} {ta : DTE} {p0 p' pos : Pos} {D : Addr}
end
end OD

namespace L2
open PySem PySem.Spec PyProof.Rows
section
variable {prog : Program} {w : World} {A : Around} {E : Value → Shared → Prop} {s : Shared}
def IsNest (prog : Program) (w : World) (h : Heap) (k : List Int × Int) (a : Addr) : Prop :=
  ∃ o items n b tk, h.get? a = some o ∧ o.cls = .type "tuple" ∧ o.data = .seq items n ∧ items.toList = [.ref b, .int k.2 tk] ∧ IsTupleKey (intKind prog w) h k.1 b
theorem IsNest.ty {k : List Int × Int} {a : Addr} (x : IsNest prog w s.heap k a) : s.TypeIs (.ref a) "tuple" := let ⟨o, _, _, _, _, ho, hc, _⟩ := x; ⟨o, ho, hc⟩
def nestHash (prog : Program) (w : World) (k : List Int × Int) : Int := reduceHash (Builtin.Tuple.tupleHashOf [tupleKeyHash (intKind prog w) k.1, hashInt k.2])
theorem nest_hash {k : List Int × Int} {a : Addr} {Q : Int → Shared → Prop} (hu : A.units + 4 < cLine) (hk : IsNest prog w s.heap k a) (h : Q (nestHash prog w k) { s with toks := s.toks + (k.1.length + 3) }) :
    wpAny (model prog w) A (pyHash (.ref a)) Q E s := by
  have hT := hk.ty
  obtain ⟨o, items, n, b, tk, ho, _, hd, hi, hb⟩ := hk
  unfold pyHash
  first | unfold pyHashByItsType | skip
  first | refine wpAny_bind (wpAny_cRoomFor_or (.inr (show A.units < cLine by omega)) ?_) | skip
  refine wpAny_bind (wpAny_specialOf hT PySem.F.slot_tuple_hash.lookup ?_)
  rw [if_neg (by rw [beq_builtin_none]; exact Bool.false_ne_true)]
  refine wpAny_bind (wpAny_specialOf hT PySem.F.slot_tuple_hash.lookup (wpAny_bind ?_))
  refine wpAny_callSpecialIfBoundUnlessNone?_slot hT PySem.F.slot_tuple_hash (wpAny_call_entry PySem.F.slot_tuple_hash hT PySem.F.entry_tuple_hash ?_ (PySem.F.args_tuple_hash_1 _))
  refine wpAny_bind (m := Builtin.Tuple.tupleItemsOf (.ref a)) (wpAny_tupleItemsOf ho hd (wpAny_bind ?_))
  rw [← Array.forIn_toList, hi, List.forIn_cons]
  refine wpAny_bind (wpAny_bind (PySem.wpAny_pyHash_tuple (show A.units + 1 < cLine by omega) hb (wpAny_pure ?_)))
  dsimp only
  rw [List.forIn_cons]
  refine wpAny_bind (wpAny_bind ((intKind prog w).pyHash (k := k.2) (by simp [intKind, Value.isInt]) (wpAny_pure ?_)))
  dsimp only
  rw [List.forIn_nil]
  refine wpAny_pure (wpAny_ret_mkInt ?_)
  unfold nestHash reduceHash at h
  show wpAny _ _ (pyHashByItsType.reduced (Builtin.Tuple.tupleHashOf [tupleKeyHash (intKind prog w) k.1, hashInt k.2])) Q E _
  unfold pyHashByItsType.reduced
  have et : s.toks + (k.1.length + 3) = s.toks + (k.1.length + 1) + 1 + 1 := by omega
  rw [et] at h
  generalize Builtin.Tuple.tupleHashOf [tupleKeyHash (intKind prog w) k.1, hashInt k.2] = V at *
  split
  · rename_i c
    rw [if_pos c] at h
    exact wpAny_pure h
  · rename_i c
    rw [if_neg c] at h
    exact wpAny_bind (wpAny_rule (wpAny_pure h))
theorem IsNest.one {h : Heap} {a : Addr} {x y : List Int × Int} (hx : IsNest prog w h x a) (hy : IsNest prog w h y a) : x = y := by
  obtain ⟨o, items, n, b, tk, ho, _, hd, hi, hb⟩ := hx
  obtain ⟨o', items', n', b', tk', ho', _, hd', hi', hb'⟩ := hy
  rw [ho] at ho'
  cases ho'
  rw [hd] at hd'
  cases hd'
  rw [hi] at hi'
  have e1 : b = b' := by have := (List.cons.inj hi').1; cases this; rfl
  have e2 : x.2 = y.2 := by have := (List.cons.inj (List.cons.inj hi').2).1; injection this
  subst e1
  exact Prod.ext (hb.inj hb') e2
theorem IsNest.keep {h h' : Heap} {k : List Int × Int} {a d : Addr} {o : Obj} {es ep} (x : IsNest prog w h k a) (ho : h.get? d = some o) (hd : o.data = .dict es ep) (hs : Heap.SameBut d h h') : IsNest prog w h' k a := by
  obtain ⟨o', items, n, b, tk, ho', hc, hd', hi, hb⟩ := x
  refine ⟨o', items, n, b, tk, (hs.2 a fun e => ?_).trans ho', hc, hd', hi, hb.keeps ho hd hs⟩
  rw [e, ho] at ho'
  cases ho'
  rw [hd] at hd'
  cases hd'
theorem nest_eq_tree {x y : List Int × Int} {a b : Addr} {P : PySem.Fin → Shared → Prop} (hu : A.units + 2 < cLine) (hx : IsNest prog w s.heap x a) (hy : IsNest prog w s.heap y b) (h : P (.done (.ret (.bool (decide (x = y))))) s) :
    wpAny (model prog w) A (Builtin.«tuple.__eq__» ⟨[.ref a, .ref b], []⟩) P E s := by
  have hTb := hy.ty
  obtain ⟨oa, xs, na, ca, ta, hoa, _, hda, hia, ka⟩ := hx
  obtain ⟨ob, ys, nb, cb, tb, hob, _, hdb, hib, kb⟩ := hy
  refine wpAny_bind (m := isInstance (.ref b) (.type "tuple")) (wpAny_isInstance hTb isSubtype_tuple_tuple ?_)
  rw [if_neg (by decide)]
  refine wpAny_bind (wpAny_tupleItemsOf hoa hda (wpAny_bind (wpAny_tupleItemsOf hob hdb (wpAny_bind ?_))))
  rw [hia, hib]
  show wpAny _ _ (forIn [(Value.ref ca, Value.ref cb), (Value.int x.2 ta, Value.int y.2 tb)] _ _) _ _ _
  rw [List.forIn_cons]
  refine wpAny_bind (wpAny_bind (PySem.wpAny_eqBool_tuple (show A.units < cLine by omega) ka kb ?_))
  have szx : xs.size = 2 := by rw [← Array.length_toList, hia]; rfl
  have szy : ys.size = 2 := by rw [← Array.length_toList, hib]; rfl
  by_cases h1 : x.1 = y.1
  · rw [decide_eq_true h1, if_neg (by decide)]
    refine wpAny_pure ?_
    dsimp only
    rw [List.forIn_cons]
    refine wpAny_bind (wpAny_bind ((intKind prog w).eqBool (a := x.2) (b := y.2) (by simp [intKind, Value.isInt]) (by simp [intKind, Value.isInt]) ?_))
    by_cases h2 : x.2 = y.2
    · rw [decide_eq_true h2, if_neg (by decide)]
      refine wpAny_pure ?_
      dsimp only
      rw [List.forIn_nil]
      refine wpAny_pure ?_
      have e : decide (x = y) = true := decide_eq_true (Prod.ext h1 h2)
      rw [e] at h
      dsimp only
      rw [szx, szy]
      exact wpAny_pure h
    · have e : decide (x = y) = false := decide_eq_false fun z => h2 (by rw [z])
      rw [e] at h
      rw [decide_eq_false h2, if_pos (by decide)]
      exact wpAny_bind (wpAny_pure (wpAny_pure (wpAny_pure (wpAny_pure h))))
  · have e : decide (x = y) = false := decide_eq_false fun z => h1 (by rw [z])
    rw [e] at h
    rw [decide_eq_false h1, if_pos (by decide)]
    exact wpAny_bind (wpAny_pure (wpAny_pure (wpAny_pure (wpAny_pure h))))
theorem nest_eq {x y : List Int × Int} {a b : Addr} {Q : Bool → Shared → Prop} (hu : A.units + 4 < cLine) (hx : IsNest prog w s.heap x a) (hy : IsNest prog w s.heap y b) (h : Q (decide (x = y)) s) :
    wpAny (model prog w) A (eqBool (.ref a) (.ref b)) Q E s := by
  unfold eqBool
  try with_reducible refine wpAny_holding ?_
  by_cases hab : (Value.ref a == Value.ref b) = true
  · rw [if_pos hab]
    obtain rfl : a = b := by have := eq_of_beq hab; injection this
    rw [decide_eq_true (hx.one hy)] at h
    exact wpAny_bind (wpAny_rule (wpAny_pure h))
  · rw [if_neg hab]
    exact wpAny_bind (wpAny_richCompare_same_room (op := .Eq) hx.ty hy.ty PySem.F.slot_tuple_eq
      (wpAny_call_entry PySem.F.slot_tuple_eq hx.ty PySem.F.entry_tuple_eq (nest_eq_tree (show A.units + 1 + 2 < cLine by omega) hx hy ⟨_, rfl, (fun e => nomatch e), wpAny_truthy_bool h⟩) (PySem.F.args_tuple_eq_2 _ _)) (show A.units < cLine by omega))
theorem flat_quiet {ks : List Int} {a : Addr} {n : Nat} {Q : Bool → Shared → Prop} (hk : IsTupleKey (intKind prog w) s.heap ks a) (h : Q true s) : wpAny (model prog w) A (eqIsQuiet (n + 1) (.ref a)) Q E s := by
  have hT := hk.typeIs
  obtain ⟨o, items, m, ho, _, hd, hi⟩ := hk
  unfold eqIsQuiet
  refine wpAny_bind (wpAny_specialOf hT PySem.F.slot_tuple_eq.lookup ?_)
  refine wpAny_bind (m := isInstance (.ref a) (.type "tuple")) (wpAny_isInstance hT isSubtype_tuple_tuple ?_)
  rw [if_neg (by decide)]
  refine wpAny_bind (wpAny_seqItems ho hd (wpAny_bind ?_))
  show wpAny _ _ (forIn items _ _) _ _ s
  rw [← Array.forIn_toList]
  have key : ∀ (l : List Value), (∀ v ∈ l, carriedByValue v = true) → wpAny (model prog w) A (forIn l (none, ()) fun y (_ : Option Bool × Unit) => do
      if (!(← eqIsQuiet n y)) = true then pure (ForInStep.done (some false, ())) else pure (ForInStep.yield (none, ()))) (fun r s' => r = (none, ()) ∧ s' = s) E s := fun l => by
    induction l with
    | nil => intro _; exact wpAny_pure ⟨rfl, rfl⟩
    | cons v l ih =>
      intro hall
      rw [List.forIn_cons, eqIsQuiet_byValue _ (hall v List.mem_cons_self)]
      exact ih fun u hu' => hall u (List.mem_cons_of_mem _ hu')
  refine wpAny_mono (key _ hi.byValue) (fun r s' ⟨e1, e2⟩ => ?_) fun _ _ z => z
  subst e1
  subst e2
  exact wpAny_pure h
theorem nest_quiet {k : List Int × Int} {a : Addr} {Q : Bool → Shared → Prop} (hk : IsNest prog w s.heap k a) (h : Q true s) : wpAny (model prog w) A (eqIsQuiet 8 (.ref a)) Q E s := by
  have hT := hk.ty
  obtain ⟨o, items, m, b, tk, ho, _, hd, hi, hb⟩ := hk
  unfold eqIsQuiet
  refine wpAny_bind (wpAny_specialOf hT PySem.F.slot_tuple_eq.lookup ?_)
  refine wpAny_bind (m := isInstance (.ref a) (.type "tuple")) (wpAny_isInstance hT isSubtype_tuple_tuple ?_)
  rw [if_neg (by decide)]
  refine wpAny_bind (wpAny_seqItems ho hd (wpAny_bind ?_))
  show wpAny _ _ (forIn items _ _) _ _ s
  rw [← Array.forIn_toList, hi, List.forIn_cons]
  refine wpAny_bind (wpAny_bind (flat_quiet hb ?_))
  rw [if_neg (by decide)]
  refine wpAny_pure ?_
  dsimp only
  rw [List.forIn_cons]
  refine wpAny_bind (wpAny_bind (wpAny_pure ?_))
  rw [if_neg (by decide)]
  refine wpAny_pure ?_
  dsimp only
  rw [List.forIn_nil]
  exact wpAny_pure (wpAny_pure h)
end
def nestKind (prog : Program) (w : World) : HeapKind prog w (List Int × Int) where
  is := IsNest prog w
  hash := nestHash prog w
  draws := fun k => k.1.length + 3
  room := fun A => A.units + 4 < cLine
  inj := fun hx hy => hx.one hy
  keeps := fun x ho hd hs => x.keep ho hd hs
  pyHash := fun hu hk h => nest_hash hu hk h
  eqBool := fun hu hx hy h => nest_eq hu hx hy h
  quiet := fun hk h => nest_quiet hk h
end L2

namespace L2
open PySem PySem.Spec PyProof.Rows
def dictI (P : Program) (w : World) (a : Addr) (ks : List (Int × Value)) : Heap → Prop := fun h => (a == sysModules) = false ∧ ks.length ≤ sizeLine ∧ h.DictOf (intKind P w) a ks
def dictH {P : Program} {w : World} {K : Type} [DecidableEq K] (knd : HeapKind P w K) (a : Addr) (xs : List (K × Addr × Value)) : Heap → Prop := fun h => (a == sysModules) = false ∧ xs.length ≤ sizeLine ∧
  ∃ o es ep, h.get? a = some o ∧ o.ExactDict ∧ o.data = .dict es ep ∧ es.toList = xs.map (entryOfKey knd) ∧ (xs.map (·.1)).Nodup
theorem dictI_ok {P : Program} {w : World} {a : Addr} {ks : List (Int × Value)} {H : Hp} {h : Heap} (x : dictI P w a ks h) : ObjOk P w H h a (.ext (dictI P w a ks)) := by
  refine ⟨x, ?_, fun h1 h2 ⟨y1, y2, o, es, ep, z1, z2⟩ k => ⟨y1, y2, o, es, ep, k o z1, z2⟩⟩
  obtain ⟨_, _, o, _, _, e, _⟩ := x
  exact ⟨o, e⟩
theorem dictH_ok {P : Program} {w : World} {K : Type} [DecidableEq K] {knd : HeapKind P w K} {a : Addr} {xs : List (K × Addr × Value)} {H : Hp} {h : Heap} (x : dictH knd a xs h) : ObjOk P w H h a (.ext (dictH knd a xs)) := by
  refine ⟨x, ?_, fun h1 h2 ⟨y1, y2, o, es, ep, z1, z2⟩ k => ⟨y1, y2, o, es, ep, k o z1, z2⟩⟩
  obtain ⟨_, _, o, _, _, e, _⟩ := x
  exact ⟨o, e⟩
def FK (H : Hp) (l : List Int) (b : Addr) : Prop := H b = some (.tup (l.map V.int))
def NK (H : Hp) (k : List Int × Int) (b : Addr) : Prop := ∃ c, H b = some (.tup [.ref c, .int k.2]) ∧ FK H k.1 c
section
variable {P : Program} {w : World} {H : Hp} {h : Heap}
theorem items_int : ∀ {l : List Int} {its : List Value}, Vals (l.map V.int) its → ItemsAre (intKind P w) l its
  | [], _, .nil => .nil
  | n :: l, _, .cons ⟨t, e⟩ r => by
    subst e
    exact .cons (by simp [intKind, Value.isInt]) (items_int r)
theorem FK.is {l : List Int} {b : Addr} (ok : HOk P w H h) (x : FK H l b) : (tupleKind (intKind P w)).is h l b := by
  obtain ⟨_, its, r, o, h1, h2, n, h3⟩ := (show ObjOk P w H h b (.tup (l.map V.int)) from ok b _ x)
  exact ⟨o, its.toArray, n, h1, h2, h3, items_int r⟩
theorem NK.is {k : List Int × Int} {b : Addr} (ok : HOk P w H h) (x : NK H k b) : (nestKind P w).is h k b := by
  obtain ⟨c, hb, hc⟩ := x
  obtain ⟨_, its, r, o, h1, h2, n, h3⟩ := (show ObjOk P w H h b (.tup [.ref c, .int k.2]) from ok b _ hb)
  cases r with
  | cons r1 r =>
    cases r with
    | cons r2 r =>
      cases r
      obtain ⟨t, e2⟩ := r2
      obtain rfl := r1
      subst e2
      exact ⟨o, _, n, c, t, h1, h2, h3, rfl, FK.is ok hc⟩
def DIn (P : Program) (w : World) (H : Hp) (a : Addr) (y : V) (r : Bool) : Prop :=
  (∃ ks n, H a = some (.ext (dictI P w a ks)) ∧ y = .int n ∧ r = (valueAt ks n).isSome) ∨
  (∃ xs b l, H a = some (.ext (dictH (tupleKind (intKind P w)) a xs)) ∧ y = .ref b ∧ FK H l b ∧ (∀ x ∈ xs, FK H x.1 x.2.1) ∧ r = (atKey xs l).isSome) ∨
  ∃ xs b k, H a = some (.ext (dictH (nestKind P w) a xs)) ∧ y = .ref b ∧ NK H k b ∧ (∀ x ∈ xs, NK H x.1 x.2.1) ∧ r = (atKey xs k).isSome
def DPt (P : Program) (w : World) (H : Hp) (a : Addr) (y v : V) (R : HO → Prop) : Prop :=
  (∃ ks n, H a = some (.ext (dictI P w a ks)) ∧ y = .int n ∧ valueAt ks n = none ∧ ks.length < sizeLine ∧ ∀ r, RelV v r → R (.ext (dictI P w a (ks ++ [(n, r)])))) ∨
  (∃ xs b l, H a = some (.ext (dictH (tupleKind (intKind P w)) a xs)) ∧ y = .ref b ∧ FK H l b ∧ (∀ x ∈ xs, FK H x.1 x.2.1) ∧ atKey xs l = none ∧ xs.length < sizeLine ∧ ∀ r, RelV v r → R (.ext (dictH (tupleKind (intKind P w)) a (xs ++ [(l, b, r)])))) ∨
  ∃ xs b k, H a = some (.ext (dictH (nestKind P w) a xs)) ∧ y = .ref b ∧ NK H k b ∧ (∀ x ∈ xs, NK H x.1 x.2.1) ∧ atKey xs k = none ∧ xs.length < sizeLine ∧ ∀ r, RelV v r → R (.ext (dictH (nestKind P w) a (xs ++ [(k, b, r)])))
end
section
variable {X : Cx} {pins : List (Addr × Obj)} {σ : St} {H : Hp} {s : Shared} {a : Addr} {y v : V} {u r : Value} {A : Around} {E : Value → Shared → Prop}
theorem dictH_at {K : Type} [DecidableEq K] {knd : HeapKind X.prog X.w K} {xs : List (K × Addr × Value)} (I : Inv X pins σ H s) (e : H a = some (.ext (dictH knd a xs))) (hk : ∀ x ∈ xs, knd.is s.heap x.1 x.2.1) :
    (a == sysModules) = false ∧ xs.length ≤ sizeLine ∧ s.heap.DictOfH knd a xs := by
  obtain ⟨⟨z1, z2, o, es, ep, h1, h2, h3, h4, h5⟩, _, _⟩ := (show ObjOk X.prog X.w H s.heap a (.ext (dictH knd a xs)) from I.hok a _ e)
  exact ⟨z1, z2, o, es, ep, h1, h2, h3, h4, hk, h5⟩
theorem dictI_at {ks : List (Int × Value)} (I : Inv X pins σ H s) (e : H a = some (.ext (dictI X.prog X.w a ks))) : dictI X.prog X.w a ks s.heap :=
  (show ObjOk X.prog X.w H s.heap a (.ext (dictI X.prog X.w a ks)) from I.hok a _ e).1
theorem di_notIn {b : Bool} {Q : Value → Shared → Prop} (hu : A.units + 9 < cLine) (I : Inv X pins σ H s) (g : DIn X.prog X.w H a y b) (ry : RelV y u) (h : ∀ s', Inv X pins σ H s' → Q (.bool (!b)) s') :
    wpAny (model X.prog X.w) A (compareOp .NotIn u (.ref a)) Q E s := by
  rcases g with ⟨ks, n, e, ey, l⟩ | ⟨xs, c, k, e, ey, hk, hx, l⟩ | ⟨xs, c, k, e, ey, hk, hx, l⟩
  · subst ey
    obtain ⟨t, e2⟩ := ry
    subst e2
    obtain ⟨z1, z2, dd⟩ := dictI_at I e
    refine wpAny_notIn_of (knd := intKind X.prog X.w) (k := n) (by simp [intKind, Value.isInt]) z1 dd.mapOf ?_
    rw [← l]
    exact h _ (I.tok _)
  · subst ey
    cases (show u = Value.ref c from ry)
    obtain ⟨z1, z2, dd⟩ := dictH_at I e fun x q => (hx x q).is I.hok
    refine PyProof.Rows.wpAny_notIn_heap (show A.units + 1 < cLine by omega) (hk.is I.hok) z1 dd ?_
    rw [← l]
    exact h _ (I.tok _)
  · subst ey
    cases (show u = Value.ref c from ry)
    obtain ⟨z1, z2, dd⟩ := dictH_at I e fun x q => (hx x q).is I.hok
    refine PyProof.Rows.wpAny_notIn_heap (knd := nestKind X.prog X.w) (show A.units + 1 + 4 < cLine by omega) (hk.is I.hok) z1 dd ?_
    rw [← l]
    exact h _ (I.tok _)
theorem di_set {R : HO → Prop} {Q : Unit → Shared → Prop} (hu : A.units + 9 < cLine) (I : Inv X pins σ H s) (g : DPt X.prog X.w H a y v R) (ry : RelV y u) (rv : RelV v r) (h : ∀ o s', R o → Inv X pins σ (upd H a o) s' → Q () s') :
    wpAny (model X.prog X.w) A (setItem (.ref a) u r) Q E s := by
  rcases g with ⟨ks, n, e, ey, l, hl, hR⟩ | ⟨xs, c, k, e, ey, hk, hx, l, hl, hR⟩ | ⟨xs, c, k, e, ey, hk, hx, l, hl, hR⟩
  · subst ey
    obtain ⟨t, e2⟩ := ry
    subst e2
    obtain ⟨z1, z2, dd⟩ := dictI_at I e
    refine wpAny_setItem_pairs (knd := intKind X.prog X.w) (k := n) (hsz := z2) (by simp [intKind, Value.isInt]) dd fun h' dd' hs => h _ _ (hR r rv) ?_
    have es : stored ks n r = ks ++ [(n, r)] := by
      unfold stored
      rw [if_neg]
      intro z
      obtain ⟨kv, h1, h2⟩ := List.any_eq_true.mp z
      unfold valueAt at l
      rw [Option.map_eq_none_iff, List.find?_eq_none] at l
      exact l kv h1 h2
    rw [es] at dd'
    have he : ∃ q, h'.get? a = some q := let ⟨q, _, _, hq, _⟩ := dd'; ⟨q, hq⟩
    exact I.write (x := a) (e := a) (by rw [e]; exact True.intro) (.inl rfl) (fun b q hb z => (hs.2 b hb).trans z) he (dictI_ok ⟨z1, by rw [List.length_append]; show _ + 1 ≤ _; omega, dd'⟩)
  · subst ey
    cases (show u = Value.ref c from ry)
    obtain ⟨z1, z2, dd⟩ := dictH_at I e fun x q => (hx x q).is I.hok
    refine PySem.wpAny_setItem_heap (hsz := z2) (show A.units + 1 < cLine by omega) (hk.is I.hok) dd fun h' dd' hs => h _ _ (hR r rv) ?_
    rw [storedH_new l] at dd'
    obtain ⟨q, es, ep, hq, h2, h3, h4, _, h5⟩ := dd'
    exact I.write (x := a) (e := a) (by rw [e]; exact True.intro) (.inl rfl) (fun b q hb z => (hs.2 b hb).trans z) ⟨q, hq⟩ (dictH_ok ⟨z1, by rw [List.length_append]; show _ + 1 ≤ _; omega, q, es, ep, hq, h2, h3, h4, h5⟩)
  · subst ey
    cases (show u = Value.ref c from ry)
    obtain ⟨z1, z2, dd⟩ := dictH_at I e fun x q => (hx x q).is I.hok
    refine PySem.wpAny_setItem_heap (knd := nestKind X.prog X.w) (hsz := z2) (show A.units + 1 + 4 < cLine by omega) (hk.is I.hok) dd fun h' dd' hs => h _ _ (hR r rv) ?_
    rw [storedH_new l] at dd'
    obtain ⟨q, es, ep, hq, h2, h3, h4, _, h5⟩ := dd'
    exact I.write (x := a) (e := a) (by rw [e]; exact True.intro) (.inl rfl) (fun b q hb z => (hs.2 b hb).trans z) ⟨q, hq⟩ (dictH_ok ⟨z1, by rw [List.length_append]; show _ + 1 ≤ _; omega, q, es, ep, hq, h2, h3, h4, h5⟩)
end
end L2

namespace L2
open PySem PySem.Spec PyProof.Rows
def tDNI (P : Program) (w : World) (ty td : TE) : TE := fun σ H Q => ty σ H fun y H1 => td σ H1 fun x H2 => ∃ a r, x = .ref a ∧ DIn P w H2 a y r ∧ Q (.bl (!r)) H2
def sDPt (P : Program) (w : World) (td ty tv : TE) : TS := fun D σ H => tv σ H fun v H1 => td σ H1 fun x H2 => ty σ H2 fun y H3 => ∃ a, x = .ref a ∧ DPt P w H3 a y v fun o => D.nx σ (upd H3 a o)
section
variable {X : Cx} {i o e value : Expr} {pos pos' : Pos} {td ty tv : TE}
theorem pc_dni (hu : X.A.units + 9 < cLine) (hi : PE X i ty) (ho : PE X o td) : PC X .NotIn i o (tDNI X.prog X.w ty td) := by
  intro pins s σ H Q I h
  refine thn (hi pins s σ H _ I h) fun iv s1 ⟨y, H1, I1, ry, q1⟩ => thn (ho pins s1 σ H1 _ I1 q1) fun u s2 ⟨x, H2, I2, rx, a, r, ex, g, q2⟩ => ?_
  subst ex
  cases (show u = Value.ref a from rx)
  exact di_notIn hu I2 g ry fun s3 I3 => ⟨.bl (!r), H2, I3, rfl, q2⟩
theorem ps_dpt (hu : X.A.units + 9 < cLine) (ho : PE X o td) (hi : PE X i ty) (hv : PE X value tv) (hs : swapsWith value (some (.Subscript o i pos')) pos.line X.env = pure false) :
    PS X (.Assign [.Subscript o i pos'] value pos) (sDPt X.prog X.w td ty tv) := by
  intro pins s σ H D I h
  refine wpAny_Assign_Subscript (thn (hv pins s σ H _ I h) fun r s1 ⟨v, H1, I1, rv, q1⟩ => thn (ho pins s1 σ H1 _ I1 q1) fun u s2 ⟨x, H2, I2, rx, q2⟩ => thn (hi pins s2 σ H2 _ I2 q2) fun iv s3 ⟨y, H3, I3, ry, a, ex, g⟩ => ?_) hs
  subst ex
  cases (show u = Value.ref a from rx)
  exact di_set hu I3 g ry rv fun o s4 hR I4 => ⟨σ, _, I4, hR⟩
def tDN0 (P : Program) (w : World) (mk : Addr → HO) : TE := fun _ H Q => ∀ p, H p = none → Q (.ref p) (upd H p (mk p))
theorem pe_dn0 {K : Type} [DecidableEq K] {knd : HeapKind X.prog X.w K} : PE X (.Dict [] [] pos) (tDN0 X.prog X.w fun p => .ext (dictH knd p [])) := fun pins s σ H Q I h => by
  have hb : sysModules < s.heap.objs.size := Nat.lt_trans (by decide) (I.mod.glob.keeps I.bk).lt
  refine wpAny_Dict_empty ⟨.ref s.heap.objs.size, _, I.laid (a := s.heap.objs.size) (o := .ext (dictH knd s.heap.objs.size [])) (t' := s.toks) (fun _ _ q => Heap.get?_push_of_some _ q) (Nat.le_refl _) (dictH_ok ⟨beq_eq_false_iff_ne.mpr (Ne.symm (Nat.ne_of_lt hb)), Nat.zero_le _, ?_⟩), rfl, h _ (I.hok.fresh (Nat.le_refl _))⟩
  exact ⟨_, #[], 0, Heap.get?_push_size _ rfl, ⟨rfl, rfl, rfl⟩, rfl, rfl, List.nodup_nil⟩
def tDN1 (P : Program) (w : World) (tk tv : TE) : TE := fun σ H Q => ∀ p, H p = none →
  (tk σ (upd H p (.ext (dictI P w p []))) fun y H1 => tv σ H1 fun v H2 => ∃ n, H2 p = some (.ext (dictI P w p [])) ∧ y = .int n ∧ ∀ r, RelV v r → Q (.ref p) (upd H2 p (.ext (dictI P w p [(n, r)])))) ∨
  (tk σ (upd H p (.ext (dictH (tupleKind (intKind P w)) p []))) fun y H1 => tv σ H1 fun v H2 => ∃ b l, H2 p = some (.ext (dictH (tupleKind (intKind P w)) p [])) ∧ y = .ref b ∧ FK H2 l b ∧ ∀ r, RelV v r → Q (.ref p) (upd H2 p (.ext (dictH (tupleKind (intKind P w)) p [(l, b, r)]))))
theorem pe_dn1 {k v : Expr} {tk tv : TE} (hu : X.A.units + 9 < cLine) (hk : PE X k tk) (hv : PE X v tv) : PE X (.Dict [some k] [v] pos) (tDN1 X.prog X.w tk tv) := by
  intro pins s σ H Q I h
  have hb : sysModules < s.heap.objs.size := Nat.lt_trans (by decide) (I.mod.glob.keeps I.bk).lt
  have hm : (s.heap.objs.size == sysModules) = false := beq_eq_false_iff_ne.mpr (Ne.symm (Nat.ne_of_lt hb))
  rcases h _ (I.hok.fresh (Nat.le_refl s.heap.objs.size)) with h | h
  · have I1 := I.laid (a := s.heap.objs.size) (o := .ext (dictI X.prog X.w s.heap.objs.size [])) (h' := s.heap.push { cls := .type "dict", data := .dict #[] }) (t' := s.toks) (fun _ _ q => Heap.get?_push_of_some _ q) (Nat.le_refl _) (dictI_ok ⟨hm, Nat.zero_le _, Heap.DictOf.new s.heap⟩)
    refine wpAny_Dict_any rfl rfl (fun z => nomatch z) (by show 1 ≤ 15; decide) (pairTrees_cons_walk (thn (hk pins _ σ _ _ I1 h) fun ku s1 ⟨y, H1, J1, ry, q1⟩ => thn (hv pins s1 σ H1 _ J1 q1) fun vu s2 ⟨x, H2, J2, rx, n, e, ey, q2⟩ => pairTrees_nil_walk ?_))
    subst ey
    obtain ⟨t, e2⟩ := ry
    subst e2
    obtain ⟨z1, z2, dd⟩ := dictI_at J2 e
    refine wpAny_bind (wpAny_bind (wpAny_dictSet_pairs (knd := intKind X.prog X.w) (k := n) (hsz := z2) (by simp [intKind, Value.isInt]) dd fun h' dd' hs => wpAny_pure (wpAny_pure ⟨.ref s.heap.objs.size, _, ?_, rfl, q2 vu rx⟩)))
    have he : ∃ q, h'.get? s.heap.objs.size = some q := let ⟨q, _, _, hq, _⟩ := dd'; ⟨q, hq⟩
    exact J2.write (x := s.heap.objs.size) (e := s.heap.objs.size) (by rw [e]; exact True.intro) (.inl rfl) (fun b q hb z => (hs.2 b hb).trans z) he (dictI_ok ⟨z1, by show 1 ≤ sizeLine; decide, dd'⟩)
  · have I1 := I.laid (a := s.heap.objs.size) (o := .ext (dictH (tupleKind (intKind X.prog X.w)) s.heap.objs.size [])) (h' := s.heap.push { cls := .type "dict", data := .dict #[] }) (t' := s.toks) (fun _ _ q => Heap.get?_push_of_some _ q) (Nat.le_refl _)
      (dictH_ok ⟨hm, Nat.zero_le _, _, #[], 0, Heap.get?_push_size _ rfl, ⟨rfl, rfl, rfl⟩, rfl, rfl, List.nodup_nil⟩)
    refine wpAny_Dict_any rfl rfl (fun z => nomatch z) (by show 1 ≤ 15; decide) (pairTrees_cons_walk (thn (hk pins _ σ _ _ I1 h) fun ku s1 ⟨y, H1, J1, ry, q1⟩ => thn (hv pins s1 σ H1 _ J1 q1) fun vu s2 ⟨x, H2, J2, rx, b, l, e, ey, hf, q2⟩ => pairTrees_nil_walk ?_))
    subst ey
    cases (show ku = Value.ref b from ry)
    obtain ⟨z1, z2, dd⟩ := dictH_at J2 e (fun x q => nomatch q)
    refine wpAny_bind (wpAny_bind (PySem.wpAny_dictSet_heap (hsz := z2) (show X.A.units < cLine by omega) (hf.is J2.hok) dd fun h' dd' hs => wpAny_pure (wpAny_pure ⟨.ref s.heap.objs.size, _, ?_, rfl, q2 vu rx⟩)))
    obtain ⟨q, es, ep, hq, h2, h3, h4, _, h5⟩ := dd'
    exact J2.write (x := s.heap.objs.size) (e := s.heap.objs.size) (by rw [e]; exact True.intro) (.inl rfl) (fun b q hb z => (hs.2 b hb).trans z) ⟨q, hq⟩ (dictH_ok ⟨z1, by show 1 ≤ sizeLine; decide, q, es, ep, hq, h2, h3, h4, h5⟩)
end
end L2
namespace OD
open PySem PySem.Spec PyProof.Rows L2
inductive KD where | ki (n : Int) | kp (l : List Int) | kn (l : List Int) (t : Int)
deriving DecidableEq
inductive KM where | mi | mp | mn
def KD.md : KD → KM
  | .ki _ => .mi | .kp _ => .mp | .kn _ _ => .mn
def KD.dt : KD → Dt
  | .ki n => .int n | .kp l => .tup (l.map Dt.int) | .kn l t => .tup [.tup (l.map Dt.int), .int t]
abbrev DKV := List (KD × Dt)
def lookD (kvs : DKV) (k : KD) : Option Dt := (kvs.find? fun x => decide (x.1 = k)).map (·.2)
def VIs (K : PySem.W.Frag) (g : Hp) (e : Dt) (u : Value) : Prop := ∃ v, RelV v u ∧ Is K g e v
section
variable {P : Program} {w : World} {K : PySem.W.Frag} {g g' : Hp}
def dictIs (P : Program) (w : World) (K : PySem.W.Frag) (kvs : DKV) (g : Hp) (a : Addr) (o : HO) : KM → Prop
  | .mi => ∃ ks, o = .ext (dictI P w a ks) ∧ Paired (fun (x : KD × Dt) (q : Int × Value) => x.1 = .ki q.1 ∧ VIs K g x.2 q.2) kvs ks
  | .mp => ∃ xs, o = .ext (dictH (tupleKind (intKind P w)) a xs) ∧ Paired (fun (x : KD × Dt) (q : List Int × Addr × Value) => x.1 = .kp q.1 ∧ FK g q.1 q.2.1 ∧ VIs K g x.2 q.2.2) kvs xs
  | .mn => ∃ xs, o = .ext (dictH (nestKind P w) a xs) ∧ Paired (fun (x : KD × Dt) (q : (List Int × Int) × Addr × Value) => x.1 = .kn q.1.1 q.1.2 ∧ NK g q.1 q.2.1 ∧ VIs K g x.2 q.2.2) kvs xs
theorem VIs.mono {e : Dt} {u : Value} (s : Same g g') (h : VIs K g e u) : VIs K g' e u := let ⟨v, h1, h2⟩ := h; ⟨v, h1, Is.mono0 s h2⟩
theorem FK.mono {l : List Int} {b : Addr} (s : Same g g') (h : FK g l b) : FK g' l b := s _ _ h
theorem NK.mono {k : List Int × Int} {b : Addr} (s : Same g g') (h : NK g k b) : NK g' k b := let ⟨c, h1, h2⟩ := h; ⟨c, s _ _ h1, FK.mono s h2⟩
theorem dictIs.mono {m : KM} {kvs : DKV} {a : Addr} {o : HO} (s : Same g g') (h : dictIs P w K kvs g a o m) : dictIs P w K kvs g' a o m := by
  cases m with
  | mi => obtain ⟨ks, e, r⟩ := h; exact ⟨ks, e, Paired.mapP r fun x q z => ⟨z.1, z.2.mono s⟩⟩
  | mp => obtain ⟨ks, e, r⟩ := h; exact ⟨ks, e, Paired.mapP r fun x q z => ⟨z.1, FK.mono s z.2.1, z.2.2.mono s⟩⟩
  | mn => obtain ⟨ks, e, r⟩ := h; exact ⟨ks, e, Paired.mapP r fun x q z => ⟨z.1, NK.mono s z.2.1, z.2.2.mono s⟩⟩
def dictP (P : Program) (w : World) (K : PySem.W.Frag) (m : KM) (kvs : DKV) : ObP := ⟨fun g a o => dictIs P w K kvs g a o m, fun s h => dictIs.mono s h⟩
theorem dict_nl {m : KM} {kvs : DKV} {a : Addr} {o : HO} (h : dictIs P w K kvs g a o m) : ∀ xs, o ≠ .lst xs := by
  intro xs e
  cases m with
  | mi => obtain ⟨ks, e', _⟩ := h; rw [e'] at e; cases e
  | mp => obtain ⟨ks, e', _⟩ := h; rw [e'] at e; cases e
  | mn => obtain ⟨ks, e', _⟩ := h; rw [e'] at e; cases e
theorem is_ints : ∀ {l : List Int} {xs : List V}, AllIs K g (l.map Dt.int) xs → xs = l.map V.int
  | [], _, h => allIs_nil.mp h
  | n :: l, _, h => by
    obtain ⟨x, r, rfl, h1, h2⟩ := allIs_cons.mp h
    rw [is_int.mp h1, is_ints h2]; rfl
theorem key_i {n : Int} {y : V} (h : Is K g (KD.dt (.ki n)) y) : y = .int n := is_int.mp h
theorem key_p {l : List Int} {y : V} (h : Is K g (KD.dt (.kp l)) y) : ∃ b, y = .ref b ∧ FK g l b := by
  obtain ⟨a, xs, rfl, h1, h2⟩ := is_tup.mp h
  rw [is_ints h2] at h1
  exact ⟨a, rfl, h1⟩
theorem key_n {l : List Int} {t : Int} {y : V} (h : Is K g (KD.dt (.kn l t)) y) : ∃ b, y = .ref b ∧ NK g (l, t) b := by
  obtain ⟨a, xs, rfl, h1, h2⟩ := is_tup.mp h
  obtain ⟨x, r, rfl, h3, h4⟩ := allIs_cons.mp h2
  obtain ⟨x', r', rfl, h5, h6⟩ := allIs_cons.mp h4
  obtain ⟨c, e, hc⟩ := key_p (l := l) h3
  rw [e, is_int.mp h5, allIs_nil.mp h6] at h1
  exact ⟨a, rfl, c, h1, hc⟩
theorem look_i {kvs : DKV} {ks : List (Int × Value)} (r : Paired (fun (x : KD × Dt) (q : Int × Value) => x.1 = .ki q.1 ∧ VIs K g x.2 q.2) kvs ks) (n : Int) : (valueAt ks n).isSome = (lookD kvs (.ki n)).isSome := by
  unfold valueAt lookD
  rw [Option.isSome_map, Option.isSome_map]
  induction r with
  | nil => rfl
  | @cons x q xs qs h t ih =>
    rw [List.find?_cons, List.find?_cons, h.1]
    by_cases e : q.1 = n
    · rw [decide_eq_true e, decide_eq_true (by rw [e])]; rfl
    · rw [decide_eq_false e, decide_eq_false (fun z => e (KD.ki.inj z))]; exact ih
def VOp (K : PySem.W.Frag) (g : Hp) : Option Dt → Option (Addr × Value) → Prop
  | none, none => True
  | some e, some (_, u) => VIs K g e u
  | _, _ => False
theorem look_p {kvs : DKV} {xs : List (List Int × Addr × Value)} (r : Paired (fun (x : KD × Dt) (q : List Int × Addr × Value) => x.1 = .kp q.1 ∧ FK g q.1 q.2.1 ∧ VIs K g x.2 q.2.2) kvs xs) (l : List Int) : VOp K g (lookD kvs (.kp l)) (atKey xs l) := by
  unfold atKey lookD
  induction r with
  | nil => trivial
  | @cons x q xs qs h t ih =>
    rw [List.find?_cons, List.find?_cons, h.1]
    by_cases e : q.1 = l
    · rw [decide_eq_true e, decide_eq_true (show KD.kp q.1 = KD.kp l by rw [e])]; exact h.2.2
    · rw [decide_eq_false e, decide_eq_false (show ¬ KD.kp q.1 = KD.kp l from fun z => e (KD.kp.inj z))]; exact ih
theorem look_n {kvs : DKV} {xs : List ((List Int × Int) × Addr × Value)} (r : Paired (fun (x : KD × Dt) (q : (List Int × Int) × Addr × Value) => x.1 = .kn q.1.1 q.1.2 ∧ NK g q.1 q.2.1 ∧ VIs K g x.2 q.2.2) kvs xs) (l : List Int) (m : Int) : VOp K g (lookD kvs (.kn l m)) (atKey xs (l, m)) := by
  unfold atKey lookD
  induction r with
  | nil => trivial
  | @cons x q xs qs h t ih =>
    rw [List.find?_cons, List.find?_cons, h.1]
    by_cases e : q.1 = (l, m)
    · rw [decide_eq_true e, decide_eq_true (show KD.kn q.1.1 q.1.2 = KD.kn l m by rw [e])]; exact h.2.2
    · rw [decide_eq_false e, decide_eq_false (show ¬ KD.kn q.1.1 q.1.2 = KD.kn l m from fun z => e (Prod.ext (KD.kn.inj z).1 (KD.kn.inj z).2))]; exact ih
theorem VOp.some_ {a : Option Dt} {b : Option (Addr × Value)} (h : VOp K g a b) : b.isSome = a.isSome := by
  cases a <;> cases b <;> first | rfl | exact h.elim
theorem paired_all {α β : Type} {F : α → β → Prop} {xs : List α} {ys : List β} (r : Paired F xs ys) : ∀ y ∈ ys, ∃ x, F x y := by
  induction r with
  | nil => intro y hy; exact nomatch hy
  | cons h t ih =>
    intro y hy
    rcases List.mem_cons.mp hy with rfl | hy
    · exact ⟨_, h⟩
    · exact ih y hy
theorem paired_snoc {α β : Type} {F : α → β → Prop} {xs : List α} {ys : List β} {x : α} {y : β} (r : Paired F xs ys) (h : F x y) : Paired F (xs ++ [x]) (ys ++ [y]) := by
  induction r with
  | nil => exact .cons h .nil
  | cons h' _ ih => exact .cons h' ih
theorem paired_len {α β : Type} {F : α → β → Prop} {xs : List α} {ys : List β} (r : Paired F xs ys) : xs.length = ys.length := by
  induction r with
  | nil => rfl
  | cons _ _ ih => rw [List.length_cons, List.length_cons, ih]
theorem dict_in {W : Vw} {m : KM} {kvs : DKV} {a : Addr} {o : HO} {k : KD} {y : V} (h : dictIs P w K kvs W.g a o m) (ho : W.h a = some o) (hk : k.md = m) (hy : Is K W.g k.dt y) : DIn P w W.h a y (lookD kvs k).isSome := by
  subst hk
  cases k with
  | ki n =>
    obtain ⟨ks, rfl, r⟩ := h
    exact .inl ⟨ks, n, ho, key_i hy, (look_i r n).symm⟩
  | kp l =>
    obtain ⟨xs, rfl, r⟩ := h
    obtain ⟨b, rfl, hb⟩ := key_p hy
    exact .inr (.inl ⟨xs, b, l, ho, rfl, FK.mono W.sub hb, fun q hq => let ⟨_, z⟩ := paired_all r q hq; FK.mono W.sub z.2.1, (look_p r l).some_.symm⟩)
  | kn l t =>
    obtain ⟨xs, rfl, r⟩ := h
    obtain ⟨b, rfl, hb⟩ := key_n hy
    exact .inr (.inr ⟨xs, b, (l, t), ho, rfl, NK.mono W.sub hb, fun q hq => let ⟨_, z⟩ := paired_all r q hq; NK.mono W.sub z.2.1, (look_n r l t).some_.symm⟩)
theorem dict_put {W : Vw} {m : KM} {kvs : DKV} {a : Addr} {o : HO} {k : KD} {e : Dt} {y v : V} {R : HO → Prop} (h : dictIs P w K kvs W.g a o m) (ho : W.h a = some o) (hk : k.md = m) (hy : Is K W.g k.dt y) (hv : Is K W.g e v) (hn : lookD kvs k = none) (hl : kvs.length < 16777216)
    (hR : ∀ o', dictIs P w K (kvs ++ [(k, e)]) W.g a o' m → R o') : DPt P w W.h a y v R := by
  subst hk
  cases k with
  | ki n =>
    obtain ⟨ks, rfl, r⟩ := h
    refine .inl ⟨ks, n, ho, key_i hy, ?_, by rw [← paired_len r, sizeLine_eq]; exact hl, fun u hu => hR _ ⟨_, rfl, paired_snoc r ⟨rfl, v, hu, hv⟩⟩⟩
    have := look_i r n
    rw [hn] at this
    exact Option.not_isSome_iff_eq_none.mp (by rw [this]; decide)
  | kp l =>
    obtain ⟨xs, rfl, r⟩ := h
    obtain ⟨b, rfl, hb⟩ := key_p hy
    have z := (look_p r l).some_
    rw [hn] at z
    exact .inr (.inl ⟨xs, b, l, ho, rfl, FK.mono W.sub hb, fun q hq => let ⟨_, z⟩ := paired_all r q hq; FK.mono W.sub z.2.1, Option.not_isSome_iff_eq_none.mp (by rw [z]; decide), by rw [← paired_len r, sizeLine_eq]; exact hl, fun u hu => hR _ ⟨_, rfl, paired_snoc r ⟨rfl, hb, v, hu, hv⟩⟩⟩)
  | kn l t =>
    obtain ⟨xs, rfl, r⟩ := h
    obtain ⟨b, rfl, hb⟩ := key_n hy
    have z := (look_n r l t).some_
    rw [hn] at z
    exact .inr (.inr ⟨xs, b, (l, t), ho, rfl, NK.mono W.sub hb, fun q hq => let ⟨_, z⟩ := paired_all r q hq; NK.mono W.sub z.2.1, Option.not_isSome_iff_eq_none.mp (by rw [z]; decide), by rw [← paired_len r, sizeLine_eq]; exact hl, fun u hu => hR _ ⟨_, rfl, paired_snoc r ⟨rfl, hb, v, hu, hv⟩⟩⟩)
end
end OD

namespace OD
open PySem PySem.Spec PyProof.Rows L2
def noObj (ρ : DS) : Bool := ρ.all fun s => match s with | .obj _ => false | _ => true
theorem noObj_at {ρ : DS} {j : Nat} {ψ : ObP} (h : noObj ρ = true) (q : ρ[j]? = some (.obj ψ)) : False := by
  have := List.all_eq_true.mp h _ (List.mem_of_getElem? q)
  cases this
section
variable {K : PySem.W.Frag} {Z F : Hp} {W W' : Vw} {ρ : DS} {σ : L2.St}
theorem Rl.obj (r : Rl K Z F W ρ σ) (s : Le W W') {p : Addr} {o : HO} {φ : ObP} (i : Nat) (hone : noObj (ρ.set i .none) = true) (h0 : W.h p = none) (h1 : W'.h p = some o) (nl : ∀ xs, o ≠ .lst xs) (h2 : W'.g p = none) (h3 : φ.is W'.g p o) :
    Rl K Z F W' (ρ.set i (.obj φ)) (σ.set i (some (.ref p))) := by
  have u := (r.unset i).mono s
  have hs : ∀ j, j ≠ i → (σ.set i (some (V.ref p)))[j]? = (σ.set i none)[j]? := fun j hj => by rw [List.getElem?_set_ne (fun z => hj z.symm), List.getElem?_set_ne (fun z => hj z.symm)]
  have cl : ∀ (j : Nat) (y : Sl), (ρ.set i (.obj φ))[j]? = some y → (∀ ψ, y ≠ Sl.obj ψ) → j ≠ i ∧ (ρ.set i Sl.none)[j]? = some y := fun j y q hy => by
    rcases set_get q with ⟨_, _, e1⟩ | ⟨hij, q⟩
    · exact absurd e1.symm (hy φ)
    · exact ⟨fun z => hij z.symm, by rw [List.getElem?_set_ne hij]; exact q⟩
  refine ⟨by rw [List.length_set, List.length_set]; exact r.len, fun j d q => ?_, fun j ds q => ?_, fun j k ds es hjk q1 q2 => ?_, u.fr, r.z, fun j c ds q => ?_, fun j ψ q => ?_⟩
  · obtain ⟨hj, q⟩ := cl j _ q (fun ψ z => nomatch z)
    rw [hs j hj]; exact u.at_ j d q
  · obtain ⟨hj, q⟩ := cl j _ q (fun ψ z => nomatch z)
    rw [hs j hj]; exact u.ow j ds q
  · obtain ⟨hj, q1⟩ := cl j _ q1 (fun ψ z => nomatch z)
    obtain ⟨hk, q2⟩ := cl k _ q2 (fun ψ z => nomatch z)
    rw [hs j hj, hs k hk]; exact u.ne j k ds es hjk q1 q2
  · obtain ⟨hj, q⟩ := cl j _ q (fun ψ z => nomatch z)
    obtain ⟨⟨xs, g1, g2⟩, k1, k2⟩ := u.ar j c ds q
    refine ⟨⟨xs, by rw [hs j hj]; exact g1, g2⟩, fun k es q' => ?_, fun k b es q' => k2 k b es (cl k _ q' (fun ψ z => nomatch z)).2⟩
    obtain ⟨hk, q'⟩ := cl k _ q' (fun ψ z => nomatch z)
    rw [hs k hk]; exact k1 k es q'
  · rcases set_get q with ⟨rfl, hl, e1⟩ | ⟨hij, q⟩
    · cases e1
      refine ⟨⟨p, o, by rw [List.getElem?_set_self (by rw [← r.len]; exact hl)], h1, nl, h2, r.fr.free h0, h3⟩, fun k ψ' q' => ?_⟩
      rcases set_get q' with ⟨e, _, _⟩ | ⟨hik, q'⟩
      · exact e.symm
      · exact (noObj_at hone (by rw [List.getElem?_set_ne hik]; exact q')).elim
    · exact (noObj_at hone (by rw [List.getElem?_set_ne hij]; exact q)).elim
theorem Rl.objPut (r : Rl K Z F W ρ σ) {i : Nat} {φ ψ : ObP} {a : Addr} {o o' : HO} (hi : ρ[i]? = some (.obj φ)) (ha : σ[i]? = some (some (.ref a))) (ho : W.h a = some o) (nl : ∀ xs, o ≠ .lst xs) (hg : W.g a = none) (hF : F a = none) (nl' : ∀ xs, o' ≠ .lst xs) (h3 : ψ.is W.g a o') :
    Rl K Z F (W.mine a o' hg) (ρ.set i (.obj ψ)) σ := by
  have ne : ∀ b xs, W.h b = some (.lst xs) → b ≠ a := fun b xs q e => by rw [e, ho] at q; exact nl xs (Option.some.inj q)
  have cl : ∀ (j : Nat) (y : Sl), (ρ.set i (.obj ψ))[j]? = some y → (∀ χ, y ≠ Sl.obj χ) → ρ[j]? = some y := fun j y q hy => by
    rcases set_get q with ⟨_, _, e1⟩ | ⟨_, q⟩
    · exact absurd e1.symm (hy ψ)
    · exact q
  refine ⟨by rw [List.length_set]; exact r.len, fun j d q => r.at_ j d (cl j _ q (fun ψ z => nomatch z)), fun j ds q => ?_, fun j k ds es hjk q1 q2 => r.ne j k ds es hjk (cl j _ q1 (fun ψ z => nomatch z)) (cl k _ q2 (fun ψ z => nomatch z)), fun p u q => ?_, r.z, fun j c ds q => ?_, fun j χ q => ?_⟩
  · obtain ⟨b, xs, e1, e2, e3⟩ := r.ow j ds (cl j _ q (fun ψ z => nomatch z))
    exact ⟨b, xs, e1, (upd_ne (ne b xs e2)).trans e2, e3⟩
  · have e : p ≠ a := fun e => by rw [e, hF] at q; cases q
    exact (upd_ne (H := W.h) (o := o') e).trans (r.fr p u q)
  · obtain ⟨⟨xs, g1, g2, g3⟩, k1, k2⟩ := r.ar j c ds (cl j _ q (fun ψ z => nomatch z))
    exact ⟨⟨xs, g1, (upd_ne (ne c xs g2)).trans g2, g3⟩, fun k es q' => k1 k es (cl k _ q' (fun ψ z => nomatch z)), fun k b es q' => k2 k b es (cl k _ q' (fun ψ z => nomatch z))⟩
  · have one := (r.ob i φ hi).2
    rcases set_get q with ⟨rfl, hl, e1⟩ | ⟨hij, q⟩
    · cases e1
      refine ⟨⟨a, o', ha, upd_same, nl', hg, hF, h3⟩, fun k ψ' q' => ?_⟩
      rcases set_get q' with ⟨e, _, _⟩ | ⟨_, q'⟩
      · exact e.symm
      · exact one k ψ' q'
    · exact absurd (one j χ q).symm hij
end
section
variable {X : Cx} {fr : Fr} {e k : Expr} {te tk : DTE} {x : Str} {p0 p1 pos pos' dpos : Pos}
def dNotIn (P : Program) (w : World) (K : PySem.W.Frag) (i : Nat) (tk : DTE) : DTT := fun ρ Q => tk ρ fun d => ∃ m kvs k, ρ[i]? = some (.obj (dictP P w K m kvs)) ∧ d = KD.dt k ∧ k.md = m ∧ Q (!(lookD kvs k).isSome)
theorem dt_notin (i : Nat) (hu : X.A.units + 9 < cLine) (h : DE X k tk) (hN : X.N[i]? = some x := by rfl) (hv : Vis X.env.scope x := by first | exact Or.inl rfl | exact Or.inr (Or.inl rfl) | exact Or.inr (Or.inr rfl)) (hd : (x == ("__debug__" : Str)) = false := by decide)
    (hcd : (x == ("__classdict__" : Str)) = false := by decide) (hm : behindInMarks .NotIn (.Name x p0) = false := by rfl) : DT X (.Compare k [.NotIn] [.Name x p0] pos) (dNotIn X.prog X.w X.K i tk) := by
  obtain ⟨tt, p, l⟩ := h
  refine ⟨_, pt_cmp (pc_dni hu p (pe_var hN hv hd hcd)) hm, fun ρ σ W Q r h R kk => l ρ σ W _ r h _ fun d v W1 s1 i1 ⟨m, kvs, kd, ei, ed, em, q⟩ => ?_⟩
  subst ed
  obtain ⟨⟨a, o, e1, e2, e3, e4, e5, e6⟩, _⟩ := (r.mono s1).ob i _ ei
  exact ⟨.ref a, e1, a, _, rfl, dict_in e6 e2 em i1, _, rfl, kk _ W1 s1 q⟩
def dDPut (P : Program) (w : World) (K : PySem.W.Frag) (i : Nat) (tk te : DTE) : DTS := fun D ρ => ∃ m kvs, ρ[i]? = some (.obj (dictP P w K m kvs)) ∧ te ρ fun d => tk ρ fun z => ∃ k, z = KD.dt k ∧ k.md = m ∧ lookD kvs k = none ∧ kvs.length < 16777216 ∧
  D.nx (ρ.set i (.obj (dictP P w K m (kvs ++ [(k, d)]))))
theorem ds_dput (i : Nat) (hu : X.A.units + 9 < cLine) (hk : DE X k tk) (h : DE X e te) (hN : X.N[i]? = some x := by rfl) (hv : Vis X.env.scope x := by first | exact Or.inl rfl | exact Or.inr (Or.inl rfl) | exact Or.inr (Or.inr rfl)) (hd : (x == ("__debug__" : Str)) = false := by decide)
    (hcd : (x == ("__classdict__" : Str)) = false := by decide) (hs : swapsWith e (some (.Subscript (.Name x p0) k p1)) pos.line X.env = pure false := by rfl) : DSt X fr (.Assign [.Subscript (.Name x p0) k p1] e pos) (dDPut X.prog X.w X.K i tk te) := by
  obtain ⟨tt, p, l⟩ := h
  obtain ⟨tu, pk, lk⟩ := hk
  refine ⟨_, ps_dpt hu (pe_var hN hv hd hcd) pk p hs, fun W0 G ρ σ W D D' at_ s h => ?_⟩
  obtain ⟨m, kvs, ei, h⟩ := h
  refine l ρ σ W _ at_.rl h _ fun d v W1 s1 i1 q1 => ?_
  have a1 := at_.step s1
  obtain ⟨⟨a, o, e1, e2, e3, e4, e5, e6⟩, _⟩ := a1.rl.ob i _ ei
  refine ⟨.ref a, e1, lk ρ σ W1 _ a1.rl q1 _ fun z u W2 s2 i2 ⟨kd, ez, em, hn, hl, q2⟩ => ?_⟩
  subst ez
  have a2 := a1.step s2
  have hg2 : W2.g a = none := s2.n a (by rw [e2]; intro z; cases z) e4
  refine ⟨a, rfl, dict_put (dictIs.mono s2.g e6) (s2.h _ _ e2) em i2 (i1.mono s2) hn hl fun o' ho' => ?_⟩
  have b := a2.le
  refine s.nx _ _ (W2.mine a o' hg2) ⟨⟨b.g, fun c o q => ?_, b.n⟩, a2.gs, a2.rl.objPut ei e1 (s2.h _ _ e2) e3 hg2 e5 (dict_nl ho') ho'⟩ q2
  have : c ≠ a := fun z => by rw [z, e5] at q; cases q
  show upd W2.h a o' c = some o
  rw [upd_ne this]; exact b.h _ _ q
theorem le_over {W W2 : Vw} {p : Addr} {o o' : HO} (h0 : W.h p = none) (s : Le (W.mine p o (W.sub.free h0)) W2) (hg : W2.g p = none) : Le W (W2.mine p o' hg) := by
  have s0 := (le_mine h0 o).trans s
  refine ⟨s0.g, fun b u q => ?_, s0.n⟩
  have : b ≠ p := fun z => by rw [z, h0] at q; cases q
  show upd W2.h p o' b = some u
  rw [upd_ne this]; exact s0.h _ _ q
def dDN1 (P : Program) (w : World) (K : PySem.W.Frag) (i : Nat) (tk te : DTE) : DTS := fun D ρ => noObj (ρ.set i .none) = true ∧ ∃ b : Bool, tk ρ fun z => te ρ fun d => ∃ k, z = KD.dt k ∧ k.md = (if b = true then .mi else .mp) ∧ D.nx (ρ.set i (.obj (dictP P w K (if b = true then .mi else .mp) [(k, d)])))
theorem ds_dn1 {i : Nat} (hu : X.A.units + 9 < cLine) (hN : X.N.Nodup) (hi : X.N[i]? = some x) (hx : Loc X.env.scope x) (hk : DE X k tk) (h : DE X e te) (hs : swapsWith (.Dict [some k] [e] dpos) (some (.Name x pos')) pos.line X.env = pure false := by rfl)
    (hf : X.fn x = true ∨ X.env.scope.names.lookup x = some .local := by first | exact .inl rfl | exact .inr rfl | assumption) : DSt X fr (.Assign [.Name x pos'] (.Dict [some k] [e] dpos) pos) (dDN1 X.prog X.w X.K i tk te) := by
  obtain ⟨tt, p, l⟩ := h
  obtain ⟨tu, pk, lk⟩ := hk
  refine ⟨_, ps_set hN hi hx (pe_dn1 hu pk p) hs hf, fun W0 G ρ σ W D D' at_ s ⟨h1, b, h⟩ q hq => ?_⟩
  have g0 := W.sub.free hq
  cases b with
  | true =>
    refine .inl (lk ρ σ (W.mine q (.ext (dictI X.prog X.w q [])) g0) _ (at_.rl.mono (le_mine hq _)) h _ fun z y W1 s1 i1 q1 => l ρ σ W1 _ ((at_.rl.mono (le_mine hq _)).mono s1) q1 _ fun d v W2 s2 i2 ⟨kd, ez, em, q2⟩ => ?_)
    subst ez
    cases kd with
    | ki n =>
      have s3 := s1.trans s2
      have hp : W2.h q = some (.ext (dictI X.prog X.w q [])) := s3.h _ _ upd_same
      have hg : W2.g q = none := s3.n q (by show upd _ _ _ q ≠ none; rw [upd_same]; intro z; cases z) g0
      refine ⟨n, hp, key_i i1, fun r hr => ?_⟩
      have le := le_over (o' := .ext (dictI X.prog X.w q [(n, r)])) hq s3 hg
      have hd : dictIs X.prog X.w X.K [(KD.ki n, d)] W2.g q (.ext (dictI X.prog X.w q [(n, r)])) .mi := ⟨_, rfl, .cons ⟨rfl, v, hr, i2⟩ .nil⟩
      exact s.nx _ _ (W2.mine q _ hg) ⟨at_.le.trans le, at_.gs.trans le.g, at_.rl.obj le i h1 hq upd_same (dict_nl hd) hg hd⟩ q2
    | kp _ => cases em
    | kn _ _ => cases em
  | false =>
    refine .inr (lk ρ σ (W.mine q (.ext (dictH (tupleKind (intKind X.prog X.w)) q [])) g0) _ (at_.rl.mono (le_mine hq _)) h _ fun z y W1 s1 i1 q1 => l ρ σ W1 _ ((at_.rl.mono (le_mine hq _)).mono s1) q1 _ fun d v W2 s2 i2 ⟨kd, ez, em, q2⟩ => ?_)
    subst ez
    cases kd with
    | kp n =>
      have s3 := s1.trans s2
      have hp : W2.h q = some (.ext (dictH (tupleKind (intKind X.prog X.w)) q [])) := s3.h _ _ upd_same
      have hg : W2.g q = none := s3.n q (by show upd _ _ _ q ≠ none; rw [upd_same]; intro z; cases z) g0
      obtain ⟨b, ey, hb⟩ := key_p (i1.mono s2)
      refine ⟨b, n, hp, ey, FK.mono W2.sub hb, fun r hr => ?_⟩
      have le := le_over (o' := .ext (dictH (tupleKind (intKind X.prog X.w)) q [(n, b, r)])) hq s3 hg
      have hd : dictIs X.prog X.w X.K [(KD.kp n, d)] W2.g q (.ext (dictH (tupleKind (intKind X.prog X.w)) q [(n, b, r)])) .mp := ⟨_, rfl, .cons ⟨rfl, hb, v, hr, i2⟩ .nil⟩
      exact s.nx _ _ (W2.mine q _ hg) ⟨at_.le.trans le, at_.gs.trans le.g, at_.rl.obj le i h1 hq upd_same (dict_nl hd) hg hd⟩ q2
    | ki _ => cases em
    | kn _ _ => cases em
end
end OD

namespace OD
open PySem PySem.Spec PyProof.Rows L2
def refP (p : Addr) : DtP := ⟨fun _ v => v = .ref p, fun _ h => h, fun h => ⟨p, h⟩⟩
def frzP (φ : ObP) : DtP := ⟨fun g v => ∃ a o, v = .ref a ∧ g a = some o ∧ φ.is g a o, fun s ⟨a, o, h1, h2, h3⟩ => ⟨a, o, h1, s a o h2, φ.mono (fun a o q => s a o q) h3⟩, fun ⟨a, _, h, _⟩ => ⟨a, h⟩⟩
def objP3 (K : PySem.W.Frag) (C : Addr) (f1 f2 f3 : Str) (d1 d2 d3 : Dt) : DtP :=
  ⟨fun g v => ∃ a dx x1 x2 x3, v = .ref a ∧ g a = some (.ins C dx [(f1, x1), (f2, x2), (f3, x3)]) ∧ Is K g d1 x1 ∧ Is K g d2 x2 ∧ Is K g d3 x3,
   fun s ⟨a, dx, x1, x2, x3, h1, h2, h3, h4, h5⟩ => ⟨a, dx, x1, x2, x3, h1, s a _ h2, Is.mono0 (fun a o q => s a o q) h3, Is.mono0 (fun a o q => s a o q) h4, Is.mono0 (fun a o q => s a o q) h5⟩, fun ⟨a, _, _, _, _, h, _⟩ => ⟨a, h⟩⟩
def spMk3 (K : PySem.W.Frag) (C : Addr) (f1 f2 f3 : Str) (S : DSpX) : Sp := fun vs H Q E => ∃ (W : Vw) (p dx : Addr) (ds : List Dt) (Qd : Dt → Prop) (Ed : Addr → Prop) (vs' : List V), vs = .ref p :: vs' ∧ W.h = H ∧ W.g p = none ∧ H p = some (.ins C dx []) ∧ AllIs K W.g ds vs' ∧ S ds Qd Ed ∧
  (∀ (d1 d2 d3 : Dt) (x1 x2 x3 : V) (W' : Vw), Same W.g W'.g → (∀ b o, W.h b = some o → b ≠ p → W'.h b = some o) → (∀ a, W.h a ≠ none → W.g a = none → W'.g a = none) → W'.h p = some (.ins C dx [(f1, x1), (f2, x2), (f3, x3)]) → Is K W'.g d1 x1 → Is K W'.g d2 x2 → Is K W'.g d3 x3 → Qd (.tup [d1, d2, d3]) → Q .non W'.h) ∧
  ∀ D H', Same W.h H' → Ed D → E (.ref D) none H'
structure KOk3 (P : Program) (w : World) (K : PySem.W.Frag) (mg : Str → Option Value) (base : Heap) (n : Nat) (x : Str) (C : Addr) (f1 f2 f3 : Str) (S : DSpX) : Prop where
  ex : ∃ g fd ps, mg x = some (.ref C) ∧ Mk K C g ∧ Binds K fd ps [] ∧ FnOk P w K mg base (CX1 P w) n g fd ps (spMk3 K C f1 f2 f3 S)
section
variable {X : Cx} {e : Expr} {es : List Expr} {t : DTA} {n : Nat} {x : Str} {p pos : Pos}
def dMake3 (X : Cx) (C : Addr) (f1 f2 f3 : Str) (S : DSpX) (t : DTA) : DTE := fun ρ Q => t ρ fun ds => S ds (fun d => ∃ d1 d2 d3, d = .tup [d1, d2, d3] ∧ Q (.opq (objP3 X.K C f1 f2 f3 d1 d2 d3))) (Rz X)
theorem de_make3 {C : Addr} {f1 f2 f3 : Str} {S : DSpX} (G : KOk3 X.prog X.w X.K X.mg X.base n x C f1 f2 f3 S) (hr : Room (n + 1) X.A) (hg : Gl X x) (ha : DA X (e :: es) t) (hdb : (x == ("__debug__" : Str)) = false := by decide)
    (he : starEach (e :: es) X.env = (false, eval e X.env) :: starEach es X.env := by rfl) (hpl : (backTo pos (starEach es X.env)).any (·.1) = false := by rfl) : DE X (.Call (.Name x p) (e :: es) [] pos) (dMake3 X C f1 f2 f3 S t) := by
  obtain ⟨g, fd, ps, hm, M, hb, F⟩ := G.ex
  obtain ⟨te, p1, l1⟩ := ha
  refine ⟨_, pe_make M F hr hg hm hb .nil pass_can p1 hdb he hpl, fun ρ σ H Q r h R k => l1 ρ σ H _ r h _ fun ds vs H1 s1 i1 hS y dy ny ndy ne => ?_⟩
  rw [List.append_nil]
  have gy : H1.g y = none := H1.sub.free ny
  have keep0 : Same H1.h (upd (upd H1.h dy (.own y)) y (.ins C dy [])) := fun b o hb => by rw [upd_ne (ne_of_none hb ny), upd_ne (ne_of_none hb ndy)]; exact hb
  refine ⟨⟨H1.g, upd (upd H1.h dy (.own y)) y (.ins C dy []), H1.sub.trans keep0⟩, y, dy, ds, _, _, vs, rfl, rfl, gy, upd_same, i1, hS, fun d1 d2 d3 x1 x2 x3 W' sg sh sn hp j1 j2 j3 ⟨d1', d2', d3', ed, q⟩ => ⟨rfl, ?_⟩, fun D H' s' hD => ⟨D, rfl, (hD H' ?_).2⟩⟩
  · cases ed
    have gy' : W'.g y = none := sn y (by show upd _ _ _ y ≠ none; rw [upd_same]; intro z; cases z) gy
    have keep : Same H1.h W'.h := fun b o hb => sh b o (keep0 b o hb) (ne_of_none hb ny)
    have sgy : Same W'.g (upd W'.g y (.ins C dy [(f1, x1), (f2, x2), (f3, x3)])) := same_new gy' _
    refine k (.opq (objP3 X.K C f1 f2 f3 d1 d2 d3)) (.ref y) (W'.frz y _ hp) (s1.trans ⟨sg.trans sgy, keep, fun a z1 z2 => ?_⟩) (is_opq.mpr ⟨y, dy, x1, x2, x3, rfl, upd_same, Is.mono0 sgy j1, Is.mono0 sgy j2, Is.mono0 sgy j3⟩) q
    have hay : a ≠ y := fun e => z1 (e ▸ ny)
    show upd W'.g y _ a = none
    rw [upd_ne hay]
    exact sn a (fun z => z1 (keep0.free z)) z2
  · exact ((rl_zx r).trans s1.h).trans fun b o hb => s' b o (keep0 b o hb)
def dFld3 (K : PySem.W.Frag) (C : Addr) (f1 f2 f3 : Str) (j : Nat) (f : Str) (ta : DTE) : DTE := fun ρ Q => ta ρ fun d => ∃ d1 d2 d3, d = .opq (objP3 K C f1 f2 f3 d1 d2 d3) ∧ Cls K C ∧ NoAttr K C f ∧ ∃ e, [d1, d2, d3][j]? = some e ∧ [f1, f2, f3][j]? = some f ∧ f1 ≠ f2 ∧ f1 ≠ f3 ∧ f2 ≠ f3 ∧ Q e
end
section
variable {X : Cx} {o : Expr} {ta : DTE} {f f1 f2 f3 : Str} {pos : Pos} {C : Addr} {j : Nat}
theorem de_fld3 (ha : DE X o ta) (hbase : attributeBase o f X.env (eval o X.env) = eval o X.env := by rfl) : DE X (.Attribute o f pos) (dFld3 X.K C f1 f2 f3 j f ta) := by
  obtain ⟨tt, p, l⟩ := ha
  refine ⟨_, pe_fld p hbase, fun ρ σ W Q r h R k => l ρ σ W _ r h _ fun d v W1 s1 i1 ⟨d1, d2, d3, ed, hc, hn, e, he, hf, n1, n2, n3, q⟩ => ?_⟩
  subst ed
  obtain ⟨a, dx, x1, x2, x3, rfl, h1, h2, h3, h4⟩ := is_opq.mp i1
  have h1' := W1.sub _ _ h1
  match j, he, hf with
  | 0, he, hf =>
    cases he
    cases hf
    exact ⟨a, C, dx, _, x1, rfl, h1', hc, hn, by rw [List.lookup_cons_self], k _ _ W1 s1 h2 q⟩
  | 1, he, hf =>
    cases he
    cases hf
    exact ⟨a, C, dx, _, x2, rfl, h1', hc, hn, by simp [List.lookup, beq_eq_false_iff_ne.mpr (Ne.symm n1)], k _ _ W1 s1 h3 q⟩
  | 2, he, hf =>
    cases he
    cases hf
    exact ⟨a, C, dx, _, x3, rfl, h1', hc, hn, by simp [List.lookup, beq_eq_false_iff_ne.mpr (Ne.symm n2), beq_eq_false_iff_ne.mpr (Ne.symm n3)], k _ _ W1 s1 h4 q⟩
end
section
variable {P : Program} {w : World} {K : PySem.W.Frag} {mg : Str → Option Value} {base : Heap}
theorem rl_self {W : Vw} {N : List Str} {p : Addr} {ds : List Dt} {vs : List V} (ia : AllIs K W.g ds vs) : Rl K W.h W.h W (dstart N.length (.opq (refP p) :: ds)) (L2.start N (.ref p :: vs)) :=
  Rl.start (allIs_cons.mpr ⟨_, _, rfl, is_opq.mpr rfl, ia⟩) (Same.refl _)
theorem tup2_at {W : Vw} {d1 d2 : Dt} {v : V} (h : Is K W.g (.tup [d1, d2]) v) : ∃ t x1 x2, v = .ref t ∧ W.g t = some (.tup [x1, x2]) ∧ Is K W.g d1 x1 ∧ Is K W.g d2 x2 := by
  obtain ⟨t, xs, rfl, h1, h2⟩ := is_tup.mp h
  obtain ⟨x1, x2, rfl, j1, j2⟩ := h2.two
  exact ⟨t, x1, x2, rfl, h1, j1, j2⟩
theorem init3 {qual lf n1 n2 n3 m f1 f2 f3 : Str} {st s1 s2 s3 : Stmt} {g C : Addr} {fd : FuncData} {k nl : Nat} {S : DSpX} {Sl : DSp} {q1 q2 q3 q4 q5 q6 r1 r2 r3 r4 r5 r6 u1 u2 u3 u4 u5 u6 u7 u8 : Pos} {j0 j1 j2 : Nat} (F : Fun K "__init__" qual st g fd) (sc : FnScope ["self", n1, n2, n3, m] ["self", n1, n2, n3] (defScope st)) (cl : Cls K C) (a1 : NoAttr K C f1) (a2 : NoAttr K C f2) (a3 : NoAttr K C f3)
    (h12 : f1 ≠ f2) (h13 : f1 ≠ f3) (h23 : f2 ≠ f3)
    (len : ∀ ds Q R, S ds Q R → ds.length = 3) (G : DOk P w K mg base nl lf Sl) (hnl : nl ≤ k) (v0 : Vis (defScope st) "self") (vm : Vis (defScope st) m) (hm1 : (m == ("__debug__" : Str)) = false) (hm2 : (m == ("__classdict__" : Str)) = false) (hlf : (lf == ("__debug__" : Str)) = false)
    (hgl : ∀ (cdv : Value) (A : Around) (outer : List Env) (s : Shared) (H : Hp) (E : XK), Gl (cxOf (CX1 P w) P w K mg base ["self", n1, n2, n3, m] qual (defScope st) g cdv A outer s H E) lf)
    (hst : defBody st = [s1, s2, s3, .Assign [.Attribute (.Name "self" q1) f1 q2] (.Subscript (.Name m q3) (.Constant (.int 0) j0 q4) q5) q6, .Assign [.Attribute (.Name "self" r1) f2 r2] (.Subscript (.Name m r3) (.Constant (.int 1) j1 r4) r5) r6,
      .Assign [.Attribute (.Name "self" u1) f3 u2] (.Call (.Name lf u3) [.Subscript (.Name m u4) (.Constant (.int 1) j2 u5) u6] [] u7) u8])
    (hbody : ∀ (cdv : Value) (A : Around) (outer : List Env) (s : Shared) (H : Hp) (E : XK), Room k (A.deeper (envOfC qual (defScope st) s.heap.objs.size g cdv)) → ∀ (p : Addr) (ds : List Dt) (Q : Dt → Prop) (R : Addr → Prop), S ds Q R →
      (∀ D, R D → Rz (cxOf (CX1 P w) P w K mg base ["self", n1, n2, n3, m] qual (defScope st) g cdv A outer s H E) D) →
      ∃ t1 t2 t3, DSt (cxOf (CX1 P w) P w K mg base ["self", n1, n2, n3, m] qual (defScope st) g cdv A outer s H E) .d s1 t1 ∧ DSt (cxOf (CX1 P w) P w K mg base ["self", n1, n2, n3, m] qual (defScope st) g cdv A outer s H E) .d s2 t2 ∧ DSt (cxOf (CX1 P w) P w K mg base ["self", n1, n2, n3, m] qual (defScope st) g cdv A outer s H E) .d s3 t3 ∧
        dSeq t1 (dSeq t2 t3) { nx := fun ρ => ∃ d1 d2, ρ[0]? = some (.some (.opq (refP p))) ∧ ρ[4]? = some (.some (.tup [d1, d2])) ∧ Sl [d2] fun d3 => Q (.tup [d1, d2, d3]), rt := fun _ => False } (dstart 5 (.opq (refP p) :: ds))) :
    FnOk P w K mg base (CX1 P w) (k + 1) g fd ["self", n1, n2, n3] (spMk3 K C f1 f2 f3 S) := by
  refine Fun.okX F sc (fun vs H Q E h => ?_) (fun cdv A outer s H vs Q E hr h => ?_)
  · obtain ⟨W, p, dx, ds, Qd, Ed, vs', rfl, _, _, _, ia, hS, _⟩ := h
    rw [List.length_cons, ← ia.length, len ds Qd Ed hS]; rfl
  obtain ⟨W, p, dx, ds, Qd, Ed, vs', rfl, rfl, hg, hp, ia, hS, kk, ke⟩ := h
  obtain ⟨t1, t2, t3, ⟨v1, p1, l1⟩, ⟨v2, p2, l2⟩, ⟨v3, p3, l3⟩, ht⟩ := hbody cdv A outer s W.h E hr p ds Qd Ed hS fun D hD => rz_of fun H' z => ke D H' z hD
  rw [zx_def] at l1 l2 l3
  rw [hst]
  obtain ⟨fl, fdl, pl, hml, hkl, hbl, Fl⟩ := G.ex
  refine ⟨_, pss_cons p1 (pss_cons p2 (pss_cons p3 (pss_cons (ps_fld (pe_var (i := 0) rfl v0) (pe_ix ix_tup (pe_var (i := 4) rfl vm hm1 hm2) pe_int (fun _ _ => rfl)) rfl)
    (pss_cons (ps_fld (pe_var (i := 0) rfl v0) (pe_ix ix_tup (pe_var (i := 4) rfl vm hm1 hm2) pe_int (fun _ _ => rfl)) rfl)
      (pss_one (ps_fld (pe_var (i := 0) rfl v0) (pe_call Fl (hr.mono hnl) (hgl cdv A outer s W.h E) hml hkl hbl .nil pass0 (pa_cons (pe_ix ix_tup (pe_var (i := 4) rfl vm hm1 hm2) pe_int (fun _ _ => rfl)) pa_nil rfl) hlf rfl rfl) rfl)))))), ?_⟩
  refine l1 W W.g _ _ W { nx := dSeq t2 t3 _, rt := fun _ => False } _ ⟨Le.refl W, Same.refl _, rl_self (N := ["self", n1, n2, n3, m]) ia⟩ ⟨fun ρ σ W1 at1 q => ?_, fun _ _ _ _ _ z => z.elim, fun _ _ _ _ z => z.elim, fun _ _ _ _ z => z.elim⟩ ht
  refine l2 W W.g ρ σ W1 { nx := t3 _, rt := fun _ => False } _ at1 ⟨fun ρ σ W2 at2 q => ?_, fun _ _ _ _ _ z => z.elim, fun _ _ _ _ z => z.elim, fun _ _ _ _ z => z.elim⟩ q
  refine l3 W W.g ρ σ W2 { nx := fun ρ => ∃ d1 d2, ρ[0]? = some (.some (.opq (refP p))) ∧ ρ[4]? = some (.some (.tup [d1, d2])) ∧ Sl [d2] fun d3 => Qd (.tup [d1, d2, d3]), rt := fun _ => False } _ at2 ⟨fun ρ σ W3 at3 q => ?_, fun _ _ _ _ _ z => z.elim, fun _ _ _ _ z => z.elim, fun _ _ _ _ z => z.elim⟩ q
  obtain ⟨d1, d2, e0, e4, hS2⟩ := q
  obtain ⟨v, e0', iv⟩ := at3.rl.at_ 0 _ e0
  obtain rfl : v = .ref p := is_opq.mp iv
  obtain ⟨v4, e4', i4⟩ := at3.rl.at_ 4 _ e4
  obtain ⟨t, x1, x2, rfl, hT, j1, j2⟩ := tup2_at i4
  have hp3 : W3.h p = some (.ins C dx []) := at3.le.h _ _ hp
  have hg3 : W3.g p = none := at3.le.n p (by rw [hp]; intro z; cases z) hg
  have hT3 : W3.h t = some (.tup [x1, x2]) := W3.sub _ _ hT
  have ntp : t ≠ p := fun z => by rw [z, hp3] at hT3; cases hT3
  have pf : putF f2 x2 (putF f1 x1 []) = [(f1, x1), (f2, x2)] := by show (if f1 = f2 then _ else _) = _; rw [if_neg h12]; rfl
  have pf3 : ∀ x3, putF f3 x3 [(f1, x1), (f2, x2)] = [(f1, x1), (f2, x2), (f3, x3)] := fun x3 => by show (if f1 = f3 then _ else _ :: (if f2 = f3 then _ else _)) = _; rw [if_neg h13, if_neg h23]; rfl
  refine ⟨.ref t, e4', t, [x1, x2], 0, x1, rfl, rfl, .of hT3, rfl, .ref p, e0', p, C, dx, [], rfl, hp3, cl, a1, (by show 0 < 1000; decide), ?_⟩
  refine ⟨.ref t, e4', t, [x1, x2], 1, x2, rfl, rfl, .of ((upd_ne ntp).trans hT3), rfl, .ref p, e0', p, C, dx, _, rfl, upd_same, cl, a2, (by show 1 < 1000; decide), ?_⟩
  rw [pf]
  let W5 : Vw := (W3.mine p (.ins C dx (putF f1 x1 [])) hg3).mine p (.ins C dx [(f1, x1), (f2, x2)]) hg3
  refine ⟨.ref t, e4', t, [x1, x2], 1, x2, rfl, rfl, .of ((upd_ne ntp).trans ((upd_ne ntp).trans hT3)), rfl, W5, [d2], _, rfl, allIs_cons.mpr ⟨x2, [], rfl, j2, allIs_nil.mpr rfl⟩, hS2, fun d3 v3 W6 s6 i6 q6 => ?_⟩
  have hp6 : W6.h p = some (.ins C dx [(f1, x1), (f2, x2)]) := s6.h _ _ upd_same
  have hg6 : W6.g p = none := s6.n p (by show upd _ _ _ p ≠ none; rw [upd_same]; intro z; cases z) hg3
  refine ⟨.ref p, e0', p, C, dx, _, rfl, hp6, cl, a3, (by show 2 < 1000; decide), ?_⟩
  rw [pf3]
  refine kk d1 d2 d3 x1 x2 v3 (W6.mine p _ hg6) (at3.le.g.trans s6.g) (fun b o hb hne => ?_) (fun a z1 z2 => ?_) upd_same (Is.mono0 s6.g j1) (Is.mono0 s6.g j2) i6 q6
  · show upd W6.h p _ b = some o
    rw [upd_ne hne]
    exact s6.h _ _ ((upd_ne hne).trans ((upd_ne hne).trans (at3.le.h _ _ hb)))
  · refine s6.n a (fun z => ?_) (at3.le.n a z1 z2)
    by_cases hap : a = p
    · subst hap
      have z : upd _ a _ a = none := z
      rw [upd_same] at z
      cases z
    · have z : upd _ p _ a = none := z
      rw [upd_ne hap] at z
      have z : upd W3.h p _ a = none := z
      rw [upd_ne hap] at z
      exact z1 (at3.le.h.free z)
end
end OD

namespace OD
open PySem PySem.Spec PyProof.Rows L2
section
variable {X : Cx} {fr : Fr} {pos p0 p1 : Pos}
theorem call_isiT : CallR X (.builtin "isinstance") (fun xs H Q => ∃ a C dx fs tp D1 D2 b, xs = [.ref a, .ref tp] ∧ H a = some (.ins C dx fs) ∧ IsiOk X.K C ∧ H tp = some (.tup [.ref D1, .ref D2]) ∧ PySem.W.kitAny X.K (.ref C) [.ref D1, .ref D2] = some b ∧ Q (.bl b) H) := by
  intro pins s σ H xs us Q I r h
  obtain ⟨a, C, dx, fs, tp, D1, D2, b, rfl, ha, ok, htp, hk, q⟩ := h
  cases r with
  | cons r1 r2 =>
    cases r2 with
    | cons r3 r4 =>
      cases r4
      cases (show _ = Value.ref a from r1)
      cases (show _ = Value.ref tp from r3)
      obtain ⟨_, its, rv, ⟨oc, od, odat, osl⟩, h1, h2, n, h3⟩ := (show ObjOk X.prog X.w H s.heap tp (.tup [.ref D1, .ref D2]) from I.hok tp _ htp)
      cases rv with
      | cons g1 rv =>
        cases rv with
        | cons g2 rv =>
          cases rv
          cases g1
          cases g2
          obtain rfl : oc = .type "tuple" := h2
          obtain rfl : odat = .seq _ n := h3
          obtain ⟨mA, O, _⟩ := ins_get I.hok ha
          obtain ⟨od', J, _⟩ := O.look
          exact PySem.W.kia_tup (PySem.W.kitx_own (ok.cl.get _) ok.cl.hd ok.ha ok.hn ok.htk ok.hm) I.kIn J h1 hk (fun z => nomatch z) fun tk => ⟨.bl b, H, I.tok _, rfl, q⟩
def dIsiT (K : PySem.W.Frag) (D1 D2 : Addr) (ta : DTE) : DTE := fun ρ Q => ta ρ fun d => ∃ C f n b1 b2, d = .way C f n ∧ IsiOk K C ∧ PySem.W.kitOne K (.ref C) (.ref D1) = some b1 ∧ PySem.W.kitOne K (.ref C) (.ref D2) = some b2 ∧ Q (.bl (b1 || b2))
theorem de_isiT {a : Expr} {t : DTE} {y z : Str} {py pz pt : Pos} {kt : Nat} {D1 D2 : Addr} (hm : X.mg "isinstance" = none) (hm1 : X.mg y = some (.ref D1)) (hm2 : X.mg z = some (.ref D2)) (ha : DE X a t)
    (hg : Gl X "isinstance" := by rfl) (hg1 : Gl X y := by rfl) (hg2 : Gl X z := by rfl) (hd1 : (y == ("__debug__" : Str)) = false := by decide) (hd2 : (z == ("__debug__" : Str)) = false := by decide)
    (hs : starEach [a, .Tuple [.Name y py, .Name z pz] kt pt] X.env = (false, eval a X.env) :: starEach [.Tuple [.Name y py, .Name z pz] kt pt] X.env := by rfl) (hs2 : starEach [.Tuple [.Name y py, .Name z pz] kt pt] X.env = (false, eval (.Tuple [.Name y py, .Name z pz] kt pt) X.env) :: starEach [] X.env := by rfl)
    (hs3 : starEach [.Name y py, .Name z pz] X.env = (false, eval (.Name y py) X.env) :: starEach [.Name z pz] X.env := by rfl) (hs4 : starEach [.Name z pz] X.env = (false, eval (.Name z pz) X.env) :: starEach [] X.env := by rfl)
    (hpl : (backTo pos (starEach [.Tuple [.Name y py, .Name z pz] kt pt] X.env)).any (·.1) = false := by rfl) :
    DE X (.Call (.Name "isinstance" p0) [a, .Tuple [.Name y py, .Name z pz] kt pt] [] pos) (dIsiT X.K D1 D2 t) := by
  obtain ⟨te, p1, l1⟩ := ha
  have c1 : PE X (.Name y py) (tC (.ref D1)) := pe_glob hg1 hm1 rfl hd1
  have c2 : PE X (.Name z pz) (tC (.ref D2)) := pe_glob hg2 hm2 rfl hd2
  refine ⟨_, pe_callB call_isiT hg hm boot_isinstance (pa_cons p1 (pa_cons (pe_tup (pa_cons c1 (pa_cons c2 pa_nil hs4) hs3)) pa_nil hs2) hs) (by decide) (by decide) hs hpl, fun ρ σ H Q r h R k => l1 ρ σ H _ r h _ fun d v H1 s1 i1 ⟨C, f, n, b1, b2, ed, ok, e1, e2, q⟩ => ?_⟩
  subst ed
  obtain ⟨p, dx, rfl, hp⟩ := is_way.mp i1
  refine ⟨by show 2 ≤ sizeLine; decide, fun tp htp => ⟨p, C, dx, [(f, .int n)], tp, D1, D2, b1 || b2, rfl, ?_, ok, upd_same, ?_, ?_⟩⟩
  · have hp' := H1.sub _ _ hp
    rw [upd_ne (ne_of_none hp' htp)]
    exact hp'
  · unfold PySem.W.kitAny PySem.W.kitAny PySem.W.kitAny
    rw [e1, e2]
    cases b1 <;> cases b2 <;> rfl
  · exact k _ _ (H1.new tp (.tup [.ref D1, .ref D2])) (s1.trans (le_new htp _)) (is_bl.mpr rfl) q
end
section
variable {X : Cx} {fr : Fr} {x : Str} {p0 pos pos' dpos : Pos}
def dDN0 (P : Program) (w : World) (K : PySem.W.Frag) (i : Nat) : DTS := fun D ρ => noObj (ρ.set i .none) = true ∧ ∃ b : Bool, D.nx (ρ.set i (.obj (dictP P w K (if b = true then .mp else .mn) [])))
def tDN0' (P : Program) (w : World) : TE := fun _ H Q => (∀ p, H p = none → Q (.ref p) (upd H p (.ext (dictH (tupleKind (intKind P w)) p [])))) ∨ ∀ p, H p = none → Q (.ref p) (upd H p (.ext (dictH (nestKind P w) p [])))
theorem pe_dn0' : PE X (.Dict [] [] pos) (tDN0' X.prog X.w) := fun pins s σ H Q I h => by
  rcases h with h | h
  · exact pe_dn0 (knd := tupleKind (intKind X.prog X.w)) pins s σ H Q I h
  · exact pe_dn0 (knd := nestKind X.prog X.w) pins s σ H Q I h
theorem ds_dn0 {i : Nat} (hN : X.N.Nodup) (hi : X.N[i]? = some x) (hx : Loc X.env.scope x) (hs : swapsWith (.Dict [] [] dpos) (some (.Name x pos')) pos.line X.env = pure false := by rfl)
    (hf : X.fn x = true ∨ X.env.scope.names.lookup x = some .local := by first | exact .inl rfl | exact .inr rfl | assumption) : DSt X fr (.Assign [.Name x pos'] (.Dict [] [] dpos) pos) (dDN0 X.prog X.w X.K i) := by
  refine ⟨_, ps_set hN hi hx pe_dn0' hs hf, fun W0 G ρ σ W D D' at_ s ⟨h1, b, h⟩ => ?_⟩
  cases b with
  | true =>
    refine .inl fun q hq => ?_
    have g0 := W.sub.free hq
    have hd : dictIs X.prog X.w X.K [] W.g q (.ext (dictH (tupleKind (intKind X.prog X.w)) q [])) .mp := ⟨_, rfl, .nil⟩
    exact s.nx _ _ (W.mine q _ g0) ⟨at_.le.trans (le_mine hq _), at_.gs, at_.rl.obj (le_mine hq _) i h1 hq upd_same (dict_nl hd) g0 hd⟩ h
  | false =>
    refine .inr fun q hq => ?_
    have g0 := W.sub.free hq
    have hd : dictIs X.prog X.w X.K [] W.g q (.ext (dictH (nestKind X.prog X.w) q [])) .mn := ⟨_, rfl, .nil⟩
    exact s.nx _ _ (W.mine q _ g0) ⟨at_.le.trans (le_mine hq _), at_.gs, at_.rl.obj (le_mine hq _) i h1 hq upd_same (dict_nl hd) g0 hd⟩ h
def dRetB (i : Nat) : DTS := fun D ρ => ∃ φ, ρ[i]? = some (.obj φ) ∧ D.rt (.opq (frzP φ))
theorem ds_retB (i : Nat) (hN : X.N[i]? = some x := by rfl) (hv : Vis X.env.scope x := by first | exact Or.inl rfl | exact Or.inr (Or.inl rfl) | exact Or.inr (Or.inr rfl)) (hd : (x == ("__debug__" : Str)) = false := by decide)
    (hcd : (x == ("__classdict__" : Str)) = false := by decide) : DSt X .d (.Return (some (.Name x p0)) pos) (dRetB i) := by
  refine ⟨_, ps_ret (pe_var hN hv hd hcd), fun W0 G ρ σ W D D' a s h => ?_⟩
  obtain ⟨φ, e, q⟩ := h
  obtain ⟨⟨b, o, e1, e2, e3, e4, e5, e6⟩, _⟩ := a.rl.ob i φ e
  exact ⟨.ref b, e1, s.tl (.opq (frzP φ)) (.ref b) (W.frz b o e2) (le_frz a.le e5 e2 e4) (is_opq (K := X.K).mpr ⟨b, o, rfl, upd_same, φ.mono (same_new e4 o) e6⟩) q⟩
end
end OD
namespace OD
open PySem PySem.Spec PyProof.Rows L2
section
variable {X : Cx} {o : Expr} {ta : DTE} {pos apos : Pos} {n : Nat} {m : Str}
def dMeth03 (X : Cx) (n : Nat) (m : Str) (ta : DTE) : DTE := fun ρ Q => ta ρ fun d => ∃ C f1 f2 f3 d1 d2 d3 S, d = .opq (objP3 X.K C f1 f2 f3 d1 d2 d3) ∧ ((m == f1) = false ∧ (m == f2) = false ∧ (m == f3) = false) ∧ FMOk X.prog X.w X.K X.mg X.base n C m S ∧ S [d] Q
theorem df_meth03 {pl : Sem Bool} (hr : Room n X.A) (he : DE X o ta)
    (ht : eval (.Call (.Attribute o m apos) [] [] pos) X.env = (do
      let ov ← eval o X.env
      standAt apos.atName
      let (f, first) ← holding [ov] (getMethod ov m pl)
      callWith pos f first (backTo pos (starEach [] X.env)) (backToKw pos (keywordEach [] X.env))) := by rfl) :
    DF X (.Call (.Attribute o m apos) [] [] pos) (dMeth03 X n m ta) := by
  obtain ⟨te, p0, l0⟩ := he
  refine ⟨_, pe_methD0 (pl := pl) p0 hr ht, fun ρ σ H Q r h R k => l0 ρ σ H _ r h _ fun d v H1 s1 i1 ⟨C, f1, f2, f3, d1, d2, d3, S, ed, ⟨n1, n2, n3⟩, M, q1⟩ => ?_⟩
  subst ed
  obtain ⟨a, dx, x1, x2, x3, rfl, ha, h2, h3, h4⟩ := is_opq.mp i1
  obtain ⟨g, fd, ps, hm, hb, F⟩ := M.ex
  refine ⟨a, dx, _, C, g, fd, ps, _, rfl, H1.sub _ _ ha, by simp [List.lookup, n1, n2, n3], M.cl, hm, hb, F, ?_⟩
  exact ⟨H1, [.opq (objP3 X.K C f1 f2 f3 d1 d2 d3)], Q, rfl, allIs_cons.mpr ⟨_, _, rfl, i1, allIs_nil.mpr rfl⟩, q1, fun es p xs H2 s2 h0 h1 h2 i2 q2 => k es p xs H2 (s1.trans s2) (s1.h.free h0) h1 h2 i2 q2⟩
end
end OD

namespace L2
open PySem PySem.Spec PyProof.Rows
section
variable {X : Cx} {C f : Addr} {fd : FuncData} {ps : List Str} {sp : Sp} {k : Nat} {e : Expr} {es : List Expr} {x m : Str} {p pos py epos : Pos} {t : TA} {i : Nat}
end
end L2
namespace OD
open PySem PySem.Spec PyProof.Rows L2
section
variable {X : Cx} {fr : Fr} {e : Expr} {es : List Expr} {t : DTA} {te : DTE} {n : Nat} {x m : Str} {i : Nat} {p pos py epos p0 p1 p2 : Pos}
def dAppB (i : Nat) (te : DTE) : DTS := fun D ρ => ∃ ds, ρ[i]? = some (.own ds) ∧ te ρ fun d => ds.length ≤ 16000000 ∧ D.nx (ρ.set i (.own (ds ++ [d])))
theorem ds_appB (i : Nat) (h : DE X e te) (hN : X.N[i]? = some x := by rfl) (hv : Vis X.env.scope x := by first | exact Or.inl rfl | exact Or.inr (Or.inl rfl) | exact Or.inr (Or.inr rfl)) (hd : (x == ("__debug__" : Str)) = false := by decide)
    (hcd : (x == ("__classdict__" : Str)) = false := by decide) (hst : starEach [e] X.env = (false, eval e X.env) :: starEach [] X.env := by rfl) (hpl : (backTo p2 (starEach [] X.env)).any (·.1) = false := by rfl)
    (hfew : ((backTo p2 (starEach [e] X.env)).all (fun x => !x.1) && (backToKw p2 (keywordEach [] X.env)).all (fun x => x.1.isSome)
      && decide ([e].length + ([] : List Keyword).length + (if ([] : List Keyword).isEmpty then 0 else 1) < 30)) = true := by rfl)
    (hbase : attributeBase (.Name x p0) "append" X.env (eval (.Name x p0) X.env) = eval (.Name x p0) X.env := by rfl) (hline : (p1.endLine == p2.line) = true := by rfl)
    (hs : swapsWith (.Call (.Attribute (.Name x p0) "append" p1) [e] [] p2) none pos.line X.env = pure false := by rfl) :
    DSt X fr (.Expr (.Call (.Attribute (.Name x p0) "append" p1) [e] [] p2) pos) (dAppB i te) := by
  obtain ⟨tt, p, l⟩ := h
  refine ⟨_, ps_expr (pe_bm PySem.F.plainAttrs_list PySem.F.slot_list_append PySem.F.type_list_append mt_append (pe_var hN hv hd hcd) (pa_cons p pa_nil hst) hbase hfew hline hst hpl) hs, fun W0 G ρ σ W D D' at_ s h => ?_⟩
  obtain ⟨ds, ei, h⟩ := h
  obtain ⟨b, xs, e1, e2, e3, e4, e5⟩ := at_.rl.ow i ds ei
  refine ⟨.ref b, e1, .inl ⟨rfl, xs, .of e2⟩, l ρ σ W _ at_.rl h _ fun d v W1 s1 i1 ⟨hl, q1⟩ => ?_⟩
  have a1 := at_.step s1
  have hg1 : W1.g b = none := s1.n b (by rw [e2]; intro z; cases z) e3
  refine ⟨b, xs, v, rfl, rfl, s1.h _ _ e2, by rw [← e5.length]; exact Nat.lt_of_le_of_lt hl (by decide), ?_⟩
  exact s.nx _ _ _ (a1.put ei e1 hg1 e4 ((e5.mono s1).append (allIs_cons.mpr ⟨v, [], rfl, i1, allIs_nil.mpr rfl⟩))) q1
end
end OD
theorem L2.Room.u9 {k : Nat} {A : PySem.Around} (h : L2.Room k A) : A.units + 9 < PySem.cLine := by have := h.un; omega

namespace My
open PySem L2 OD

local macro_rules | `(tactic| walk_at "sc") => `(tactic| exact ⟨rfl, rfl, rfl, by decide +kernel, rfl, by decide +kernel, by decide +kernel⟩)
local macro_rules | `(tactic| walk_at "ln") => `(tactic| (intros; rename_i h; repeat (first | (obtain ⟨e, _⟩ := h; subst e; rfl) | obtain ⟨_, h⟩ := h)))
local macro_rules | `(tactic| walk_at "rd1") => `(tactic| first | refine ⟨_, rfl, ?_⟩ | refine ⟨_, _, rfl, rfl, ?_⟩ | refine ⟨_, _, _, _, rfl, rfl, rfl, ?_⟩ | refine ⟨_, _, _, rfl, rfl, rfl, ?_⟩ | refine iteT ?_ | refine iteF ?_ | refine ⟨rfl, rfl, ?_⟩ | refine ⟨rfl, ?_⟩ | refine ⟨cdivN (by decide), ?_⟩ | refine ⟨cmodN (by decide), ?_⟩ | refine ⟨cpowN (by decide), ?_⟩ | refine ⟨mulR (by decide), ?_⟩ | refine ⟨mulL (by decide), ?_⟩ | refine ⟨_, _, rfl, ?_⟩)
local macro_rules | `(tactic| walk_at "rd") => `(tactic| repeat (walk_at "rd1"))
theorem ifT {b : Bool} {A B : Prop} (e : b = true) (h : A) : if b = true then A else B := by rw [if_pos e]; exact h
theorem ifF {b : Bool} {A B : Prop} (e : b = false) (h : B) : if b = true then A else B := by rw [if_neg (by rw [e]; exact Bool.false_ne_true)]; exact h
theorem ifB {b : Bool} {A B : Prop} (h1 : b = true → A) (h2 : b = false → B) : if b = true then A else B := by
  cases b with
  | true => exact ifT rfl (h1 rfl)
  | false => exact ifF rfl (h2 rfl)
theorem eqI {a b : Int} (h : a = b) : eqD (.int a) (.int b) = true := by rw [eqD_int]; exact beq_iff_eq.mpr h
theorem nT {b : Bool} (h : b = true) : (!b) = false := by rw [h]; rfl
theorem of_nT {b : Bool} (h : (!b) = true) : b = false := by cases b <;> first | rfl | cases h
theorem of_nF {b : Bool} (h : (!b) = false) : b = true := by cases b <;> first | rfl | cases h
def S_cell : DSp := fun ds Q => ∃ ns k, ds = [.scr ns, .int k] ∧ 0 ≤ k ∧ ∀ z : Int, Q (.int z)
def S_law : DSp := fun ds Q => ∃ ns : List Int, ds = [.scr ns] ∧ ns.length ≤ 63 ∧ Q (.bl true)
theorem atI_row {xs : List Int} {k : Int} (h0 : 0 ≤ k) (h : k < xs.length) : atI (xs.map Dt.int) k = some (.int (xs.getD k.toNat 0)) := by
  have e : ((k.toNat : Nat) : Int) = k := Int.toNat_of_nonneg h0
  have hl : k.toNat < xs.length := by omega
  have := atI_nat (j := k.toNat) (xs := xs.map Dt.int) (v := .int (xs.getD k.toNat 0)) (by
    rw [List.getElem?_map, List.getElem?_eq_getElem hl, List.getD_eq_getElem?_getD, List.getElem?_eq_getElem hl]
    rfl)
  rwa [e] at this
inductive Kd where | plain | below | balanced | growing | falling | pairs
def Kd.num : Kd → Int
  | .plain => 0 | .below => 1 | .balanced => 2 | .growing => 3 | .falling => 4 | .pairs => 5
def Kd.fld : Kd → Str
  | .plain => "base" | .below => "base" | .balanced => "half" | .growing => "first" | .falling => "most" | .pairs => "most"
def Kd.lo : Kd → Int
  | .plain => 2 | .below => 2 | .balanced => 1 | .growing => 2 | .falling => 1 | .pairs => 1
def Kd.hi : Kd → Int
  | .plain => 60 | .below => 60 | .balanced => 30 | .growing => 60 | .falling => 9 | .pairs => 9
def Kd.ok (k : Kd) (n : Int) : Prop := k.lo ≤ n ∧ n ≤ k.hi
def whole : Dt → Option Bool
  | .int _ => some true
  | .bl _ => some false
  | .tup _ => some false
  | .lst _ => some false
  | _ => none
def S_whole : DSp := fun ds Q => ∃ d b, ds = [d] ∧ whole d = some b ∧ Q (.bl b)
def S_bounded : DSp := fun ds Q => ∃ n lo hi, ds = [.int n, .int lo, .int hi] ∧ lo ≤ n ∧ n ≤ hi ∧ Q (.int n)
inductive Nm where | i (n : Int) | p (a b : Int)
deriving DecidableEq
def Nm.dt : Nm → Dt
  | .i n => .int n
  | .p a b => .tup [.int a, .int b]
def Nm.re : Nm → Int
  | .i n => n
  | .p a _ => a
def Nm.im : Nm → Int
  | .i _ => 0
  | .p _ b => b
def Nm.mul : Nm → Nm → Nm
  | .i a, .i b => .i (a * b)
  | m, n => .p (m.re * n.re - m.im * n.im) (m.re * n.im + m.im * n.re)
def Nm.mulOk (m n : Nm) : Prop := IntMulOk m.re n.re ∧ IntMulOk m.im n.im ∧ IntMulOk m.re n.im ∧ IntMulOk m.im n.re
def numD : Dt → Option Nm
  | .int a => some (.i a)
  | .tup [.int a, .int b] => some (.p a b)
  | _ => none
def S_as_pair : DSp := fun ds Q => ∃ d m, ds = [d] ∧ numD d = some m ∧ Q (.tup [.int m.re, .int m.im])
def S_mult : DSp := fun ds Q => ∃ d e m n, ds = [d, e] ∧ numD d = some m ∧ numD e = some n ∧ m.mulOk n ∧ Q (m.mul n).dt
theorem numD_dt {d : Dt} {m : Nm} (h : numD d = some m) : d = m.dt := by
  unfold numD at h
  split at h
  · cases h; rfl
  · cases h; rfl
  · cases h
theorem numD_of (m : Nm) : numD m.dt = some m := by cases m <;> rfl
theorem small {n : Int} (h0 : -1000000 ≤ n) (h1 : n ≤ 1000000) (c : Int) : IntMulOk c n := mulR (by rw [decide_eq_true_iff]; omega)
theorem small' {n : Int} (h0 : -1000000 ≤ n) (h1 : n ≤ 1000000) (c : Int) : IntMulOk n c := mulL (by rw [decide_eq_true_iff]; omega)
def Kd.four : Kd → Bool
  | .plain => true | .below => true | .balanced => true | .growing => true | _ => false
def Kd.five : Kd → Bool
  | .falling => false | _ => true
def Kd.low : Kd → Int → Int → Int
  | .balanced, n, _ => -n
  | _, _, _ => 0
def Kd.high : Kd → Int → Int → Int
  | .plain, n, _ => n - 1
  | .below, n, _ => n - 1
  | .balanced, n, _ => n
  | .growing, n, p => n + p - 1
  | .falling, n, _ => n
  | .pairs, n, _ => n * n
def Kd.rat : Kd → Int → Int → Int
  | .plain, n, _ => n
  | .below, n, _ => -n
  | .balanced, n, _ => 2 * n + 1
  | .growing, n, p => n + p
  | _, _, _ => 0
def Kd.ratN : Kd → Int → Int → Nm
  | .pairs, n, _ => .p (-n) 1
  | k, n, p => .i (k.rat n p)
def Nm.add : Nm → Nm → Nm
  | .i a, .i b => .i (a + b)
  | m, n => .p (m.re + n.re) (m.im + n.im)
def S_added : DSp := fun ds Q => ∃ d e m n, ds = [d, e] ∧ numD d = some m ∧ numD e = some n ∧ Q (m.add n).dt
def Kd.zero : Kd → Nm
  | .pairs => .p 0 0
  | _ => .i 0
theorem ok_bd {k : Kd} {n : Int} (h : k.ok n) : 1 ≤ n ∧ n ≤ 60 := by
  obtain ⟨h1, h2⟩ := h
  cases k <;> simp only [Kd.lo, Kd.hi] at * <;> omega
def sF (k : Kd) (n : Int) (j : Nat) (t : Nm) : Int := match k with
  | .pairs => (t.re + n * t.im).fmod (n * n + 1)
  | k => k.low n j + (t.re - k.low n j).fmod (k.high n j - k.low n j + 1)
def sC (k : Kd) (n : Int) (j : Nat) (t : Nm) : Nm := match k with
  | .pairs => .p (((t.re - sF .pairs n j t) * (-n) - t.im * (-1)).fdiv (n * n + 1)) (((t.re - sF .pairs n j t) * (-1) + t.im * (-n)).fdiv (n * n + 1))
  | k => .i ((t.re - sF k n j t).fdiv (k.rat n j))
def Nm.ty (k : Kd) (m : Nm) : Prop := match k with
  | .pairs => ∃ a b, m = .p a b
  | _ => ∃ a, m = .i a
def tot (k : Kd) (m : Nm) : Prop := k ≠ .pairs → ∃ a, m = .i a
theorem add_re (m n : Nm) : (m.add n).re = m.re + n.re := by cases m <;> cases n <;> simp [Nm.add, Nm.re]
theorem add_im (m n : Nm) : (m.add n).im = m.im + n.im := by cases m <;> cases n <;> simp [Nm.add, Nm.im]
theorem mul_re' (r w : Nm) : (r.mul w).re = r.re * w.re - r.im * w.im := by cases r <;> cases w <;> simp [Nm.mul, Nm.re, Nm.im]
theorem mul_im' (r w : Nm) : (r.mul w).im = r.re * w.im + r.im * w.re := by cases r <;> cases w <;> simp [Nm.mul, Nm.re, Nm.im]
theorem ty_i {k : Kd} {m : Nm} (h : k ≠ .pairs) (t : m.ty k) : ∃ a, m = .i a := by
  cases k <;> first | exact t | exact absurd rfl h
theorem ty_of_i {k : Kd} {a : Int} (h : k ≠ .pairs) : (Nm.i a).ty k := by
  cases k <;> first | exact ⟨_, rfl⟩ | exact absurd rfl h
theorem zero_ty (k : Kd) : (k.zero).ty k := by cases k <;> first | exact ⟨_, rfl⟩ | exact ⟨_, _, rfl⟩
theorem nm_ext {k : Kd} {m m' : Nm} (t : m.ty k) (t' : m'.ty k) (h1 : m.re = m'.re) (h2 : m.im = m'.im) : m = m' := by
  by_cases hk : k = .pairs
  · subst hk
    obtain ⟨a, b, rfl⟩ := t
    obtain ⟨a', b', rfl⟩ := t'
    simp only [Nm.re, Nm.im] at h1 h2
    rw [h1, h2]
  · obtain ⟨a, rfl⟩ := ty_i hk t
    obtain ⟨a', rfl⟩ := ty_i hk t'
    simp only [Nm.re] at h1
    rw [h1]
theorem sC_ty (k : Kd) (n : Int) (j : Nat) (t : Nm) : (sC k n j t).ty k := by
  cases k <;> first | exact ⟨_, rfl⟩ | exact ⟨_, _, rfl⟩
theorem add_ty {k : Kd} {c t : Nm} (h : c.ty k) (h' : tot k t) : (c.add t).ty k := by
  by_cases hk : k = .pairs
  · subst hk
    obtain ⟨a, b, rfl⟩ := h
    cases t <;> exact ⟨_, _, rfl⟩
  · obtain ⟨a, rfl⟩ := ty_i hk h
    obtain ⟨b, rfl⟩ := h' hk
    exact ty_of_i hk
theorem split_pos {lo t n : Int} (hn : 0 < n) : lo ≤ lo + (t - lo).fmod n ∧ lo + (t - lo).fmod n ≤ lo + n - 1 ∧ (lo + (t - lo).fmod n) + ((t - (lo + (t - lo).fmod n)).fdiv n) * n = t := by
  have h0 := Int.fmod_nonneg_of_pos (t - lo) hn
  have h1 := Int.fmod_lt_of_pos (t - lo) hn
  have e : t - (lo + (t - lo).fmod n) = n * (t - lo).fdiv n := by
    have := Int.fmod_def (t - lo) n
    omega
  refine ⟨by omega, by omega, ?_⟩
  have d : (t - (lo + (t - lo).fmod n)).fdiv n = (t - lo).fdiv n := by
    rw [e]
    exact Int.mul_fdiv_cancel_left _ (by omega)
  rw [d, Int.mul_comm]
  omega
theorem split_neg {lo t n : Int} (hn : 0 < n) : lo ≤ lo + (t - lo).fmod n ∧ lo + (t - lo).fmod n ≤ lo + n - 1 ∧ (lo + (t - lo).fmod n) + ((t - (lo + (t - lo).fmod n)).fdiv (-n)) * (-n) = t := by
  have h0 := Int.fmod_nonneg_of_pos (t - lo) hn
  have h1 := Int.fmod_lt_of_pos (t - lo) hn
  have e : t - (lo + (t - lo).fmod n) = (-n) * (-((t - lo).fdiv n)) := by
    have := Int.fmod_def (t - lo) n
    rw [Int.neg_mul_neg]
    omega
  refine ⟨by omega, by omega, ?_⟩
  have d : (t - (lo + (t - lo).fmod n)).fdiv (-n) = -((t - lo).fdiv n) := by
    rw [e]
    exact Int.mul_fdiv_cancel_left _ (by omega)
  rw [d, Int.neg_mul_neg, Int.mul_comm]
  have := Int.fmod_def (t - lo) n
  omega
theorem split_pair {a b m : Int} (N : Int) (hN : N = m * m + 1) (f : Int) (hf : f = (a + m * b).fmod N) (t0 t1 : Int) (h0 : t0 = (a - f) * (-m) - b * (-1)) (h1 : t1 = (a - f) * (-1) + b * (-m)) :
    0 ≤ f ∧ f ≤ m * m ∧ f - m * (t0.fdiv N) - t1.fdiv N = a ∧ t0.fdiv N - m * (t1.fdiv N) = b := by
  have sq : 0 ≤ m * m := by
    rcases Int.le_total 0 m with h | h
    · exact Int.mul_nonneg h h
    · exact Int.mul_nonneg_of_nonpos_of_nonpos h h
  have hp : 0 < N := by omega
  have g0 := Int.fmod_nonneg_of_pos (a + m * b) hp
  have g1 := Int.fmod_lt_of_pos (a + m * b) hp
  have e := Int.fmod_def (a + m * b) N
  rw [← hf] at e g0 g1
  generalize (a + m * b).fdiv N = q at e
  have e0 : t0 = N * (b - m * q) := by subst hN; grind
  have e1 : t1 = N * (-q) := by subst hN; grind
  have d0 : t0.fdiv N = b - m * q := by rw [e0]; exact Int.mul_fdiv_cancel_left _ (by omega)
  have d1 : t1.fdiv N = -q := by rw [e1]; exact Int.mul_fdiv_cancel_left _ (by omega)
  rw [d0, d1]
  refine ⟨g0, by omega, ?_, ?_⟩ <;> subst hN <;> grind
def Kd.size : Kd → Int → Int → Int
  | .plain, n, _ => n
  | .below, n, _ => n
  | .balanced, n, _ => 2 * n + 1
  | .growing, n, p => n + p
  | _, _, _ => 0
theorem four_of {k : Kd} (h5 : k.five = true) (hk : k ≠ .pairs) : k.four = true := by
  cases k <;> first | rfl | exact absurd rfl hk | cases h5
theorem size_eq {k : Kd} (h : k.four = true) (n p : Int) : k.high n p - k.low n p + 1 = k.size n p ∧ (k.rat n p = k.size n p ∨ k.rat n p = -(k.size n p)) := by
  cases k <;> cases h <;> simp only [Kd.high, Kd.low, Kd.size, Kd.rat] <;> refine ⟨by omega, ?_⟩ <;> first | exact .inl rfl | exact .inr rfl | exact .inr trivial | exact .inl trivial
theorem size_pos {k : Kd} {n : Int} (h : k.four = true) (hn : k.ok n) (j : Nat) : 2 ≤ k.size n j := by
  obtain ⟨h1, h2⟩ := hn
  cases k <;> cases h <;> simp only [Kd.lo, Kd.hi, Kd.size] at * <;> omega
theorem split_ok {k : Kd} {n : Int} {j : Nat} {t : Nm} (h5 : k.five = true) (hn : k.ok n) (ht : t.ty k) :
    k.low n j ≤ sF k n j t ∧ sF k n j t ≤ k.high n j ∧ t.re = sF k n j t + ((k.ratN n j).mul (sC k n j t)).re ∧ t.im = ((k.ratN n j).mul (sC k n j t)).im := by
  by_cases hk : k = .pairs
  · subst hk
    obtain ⟨g1, g2, g3, g4⟩ := split_pair (a := t.re) (b := t.im) (m := n) (n * n + 1) rfl _ rfl _ _ rfl rfl
    refine ⟨g1, g2, ?_, ?_⟩
    · rw [mul_re']
      show t.re = _ + (-n * _ - 1 * _)
      unfold sC sF Nm.re Nm.im at *
      dsimp only at *
      grind
    · rw [mul_im']
      show t.im = (-n * _ + 1 * _)
      unfold sC sF Nm.re Nm.im at *
      dsimp only at *
      grind
  · have h4 := four_of h5 hk
    obtain ⟨e1, e2⟩ := size_eq h4 n j
    have hp := size_pos h4 hn j
    obtain ⟨a, rfl⟩ := ty_i hk ht
    have eF : sF k n j (.i a) = k.low n j + (a - k.low n j).fmod (k.size n j) := by rw [← e1]; cases k <;> first | rfl | exact absurd rfl hk
    have eC : sC k n j (.i a) = .i ((a - sF k n j (.i a)).fdiv (k.rat n j)) := by cases k <;> first | rfl | exact absurd rfl hk
    have eR : k.ratN n j = .i (k.rat n j) := by cases k <;> first | rfl | exact absurd rfl hk
    have s1 := split_pos (lo := k.low n j) (t := a) (n := k.size n j) (by omega)
    have s2 := split_neg (lo := k.low n j) (t := a) (n := k.size n j) (by omega)
    rw [eC, eR, eF]
    refine ⟨s1.1, by have := s1.2.1; omega, ?_, rfl⟩
    show a = _ + k.rat n j * _
    rw [Int.mul_comm (k.rat n j)]
    rcases e2 with e | e
    · rw [e]; exact s1.2.2.symm
    · rw [e]; exact s2.2.2.symm
def mNx (k : Kd) (n : Int) (c : Nm) (t : Int) : Nm := sC k n 0 (c.add (.i t))
def mFg (k : Kd) (n : Int) (c : Nm) (t : Int) : Int := sF k n 0 (c.add (.i t))
abbrev MR := Nm × Int × Int × Nm
def mRow (k : Kd) (n : Int) (c : Nm) (t : Int) : MR := (c, t, mFg k n c t, mNx k n c t)
def mDt (r : MR) : Dt := .tup [r.1.dt, .int r.2.1, .int r.2.2.1, r.2.2.2.dt]
def mTot (lo hi : Int) : List Int := (List.range (hi + 1 - lo).toNat).map fun (i : Nat) => lo + (i : Int)
def mRows (k : Kd) (n lo hi : Int) (L : List Nm) : List MR := L.flatMap fun c => (mTot lo hi).map (mRow k n c)
def mAdd (L : List Nm) (c : Nm) : List Nm := if c ∈ L then L else L ++ [c]
def mFound (z : Nm) (R : List MR) : List Nm := R.foldl (fun L r => mAdd L r.2.2.2) [z]
def Kd.one : Kd → Bool
  | .growing => false | .falling => false | _ => true
def Kd.far (k : Kd) (n : Int) : Int := match k with
  | .pairs => if 2 * n * n < 60 then 2 * n * n else 60
  | _ => 60
def mSpan (k : Kd) (n lo hi : Int) : Prop := lo ≤ 0 ∧ 0 ≤ hi ∧ -(k.far n) ≤ lo ∧ hi ≤ k.far n
def mBd (k : Kd) (c : Nm) : Prop := match k with
  | .pairs => ∃ a b, c = .p a b ∧ a * a + b * b ≤ 361
  | _ => ∃ a, c = .i a ∧ -122 ≤ a ∧ a ≤ 122
structure Mach (k : Kd) (n lo hi : Int) (L : List Nm) (R : List MR) : Prop where
  fnd : L = mFound k.zero R
  rws : R = mRows k n lo hi L
  bd : ∀ c ∈ L, mBd k c
theorem one_five {k : Kd} (h : k.one = true) : k.five = true := by cases k <;> first | rfl | cases h
theorem mBd_ty {k : Kd} {c : Nm} (h : mBd k c) : c.ty k := by
  cases k <;> first | (obtain ⟨a, e, _⟩ := h; exact ⟨a, e⟩) | (obtain ⟨a, b, e, _⟩ := h; exact ⟨a, b, e⟩)
theorem mBd_zero (k : Kd) : mBd k k.zero := by cases k <;> first | exact ⟨0, rfl, by decide, by decide⟩ | exact ⟨0, 0, rfl, by decide⟩
theorem mul_abs_le {a u A U : Int} (h1 : -A ≤ a) (h2 : a ≤ A) (h3 : -U ≤ u) (h4 : u ≤ U) : a * u ≤ A * U := by
  have e1 := Int.mul_nonneg (show 0 ≤ A - a by omega) (show 0 ≤ U + u by omega)
  have e2 := Int.mul_nonneg (show 0 ≤ A + a by omega) (show 0 ≤ U - u by omega)
  have e : (A - a) * (U + u) + (A + a) * (U - u) = 2 * (A * U) - 2 * (a * u) := by grind
  omega
theorem sq_bd {a b : Int} (h : a * a + b * b ≤ 361) : -19 ≤ a ∧ a ≤ 19 ∧ -19 ≤ b ∧ b ≤ 19 := by
  have sq : ∀ x : Int, 0 ≤ x * x := fun x => by
    rcases Int.le_total 0 x with h | h
    · exact Int.mul_nonneg h h
    · exact Int.mul_nonneg_of_nonpos_of_nonpos h h
  have far : ∀ x : Int, x * x ≤ 361 → -19 ≤ x ∧ x ≤ 19 := fun x hx => by
    refine ⟨Int.not_lt.mp fun z => ?_, Int.not_lt.mp fun z => ?_⟩
    · have := Int.mul_le_mul (show 20 ≤ -x by omega) (show 20 ≤ -x by omega) (by omega) (by omega)
      rw [Int.neg_mul_neg] at this
      omega
    · have := Int.mul_le_mul (show 20 ≤ x by omega) (show 20 ≤ x by omega) (by omega) (by omega)
      omega
  have ha := sq a
  have hb := sq b
  obtain ⟨a1, a2⟩ := far a (by omega)
  obtain ⟨b1, b2⟩ := far b (by omega)
  exact ⟨a1, a2, b1, b2⟩
theorem mul_far {r c : Int} (h : 2 ≤ r) (l : -(182 + r) ≤ r * c) (u : r * c ≤ 182 + r) : -122 ≤ c ∧ c ≤ 122 := by
  refine ⟨Int.not_lt.mp fun z => ?_, Int.not_lt.mp fun z => ?_⟩
  · have := Int.mul_le_mul_of_nonneg_left (show c ≤ -123 by omega) (show 0 ≤ r by omega)
    omega
  · have := Int.mul_le_mul_of_nonneg_left (show 123 ≤ c by omega) (show 0 ≤ r by omega)
    omega
theorem mBd_nx {k : Kd} {n : Int} {c : Nm} {t : Int} (h1 : k.one = true) (hn : k.ok n) (hc : mBd k c) (t1 : -(k.far n) ≤ t) (t2 : t ≤ k.far n) : mBd k (mNx k n c t) := by
  have h5 := one_five h1
  have hty := add_ty (t := .i t) (mBd_ty hc) (fun _ => ⟨t, rfl⟩)
  obtain ⟨f1, f2, g1, g2⟩ := split_ok (j := 0) h5 hn hty
  rw [add_re, mul_re'] at g1
  rw [add_im, mul_im'] at g2
  have hx := sC_ty k n 0 (c.add (.i t))
  obtain ⟨b1, b2⟩ := hn
  show mBd k (sC k n 0 (c.add (.i t)))
  generalize sC k n 0 (c.add (.i t)) = d at *
  generalize sF k n 0 (c.add (.i t)) = f at *
  cases k with
  | growing => cases h1
  | falling => cases h1
  | plain =>
    obtain ⟨a, rfl, a1, a2⟩ := hc
    obtain ⟨x, rfl⟩ := hx
    have t1' : -60 ≤ t := t1
    have t2' : t ≤ 60 := t2
    have g : a + t = f + (n * x - 0 * 0) := g1
    have f1' : 0 ≤ f := f1
    have f2' : f ≤ n - 1 := f2
    have b1' : 2 ≤ n := b1
    exact ⟨x, rfl, mul_far b1' (by omega) (by omega)⟩
  | below =>
    obtain ⟨a, rfl, a1, a2⟩ := hc
    obtain ⟨x, rfl⟩ := hx
    have t1' : -60 ≤ t := t1
    have t2' : t ≤ 60 := t2
    have g : a + t = f + (-n * x - 0 * 0) := g1
    have f1' : 0 ≤ f := f1
    have f2' : f ≤ n - 1 := f2
    have b1' : 2 ≤ n := b1
    rw [Int.neg_mul] at g
    exact ⟨x, rfl, mul_far b1' (by omega) (by omega)⟩
  | balanced =>
    obtain ⟨a, rfl, a1, a2⟩ := hc
    obtain ⟨x, rfl⟩ := hx
    have t1' : -60 ≤ t := t1
    have t2' : t ≤ 60 := t2
    have g : a + t = f + ((2 * n + 1) * x - 0 * 0) := g1
    have f1' : -n ≤ f := f1
    have f2' : f ≤ n := f2
    have b1' : 1 ≤ n := b1
    exact ⟨x, rfl, mul_far (r := 2 * n + 1) (by omega) (by omega) (by omega)⟩
  | pairs =>
    obtain ⟨a, b, rfl, hab⟩ := hc
    obtain ⟨x, y, rfl⟩ := hx
    refine ⟨x, y, rfl, ?_⟩
    have g : a + t = f + (-n * x - 1 * y) := g1
    have g' : b + 0 = -n * y + 1 * x := g2
    have f1' : 0 ≤ f := f1
    have f2' : f ≤ n * n := f2
    have b1' : 1 ≤ n := b1
    have b2' : n ≤ 9 := b2
    obtain ⟨a1, a2, _, _⟩ := sq_bd hab
    have key : (n * n + 1) * (x * x + y * y) = (a + (t - f)) * (a + (t - f)) + b * b := by
      have e1 : a + (t - f) = -n * x - y := by omega
      have e2 : b = x - n * y := by
        rw [Int.neg_mul] at g'
        omega
      rw [e1, e2]
      grind
    have key2 : (a + (t - f)) * (a + (t - f)) + b * b = (a * a + b * b) + 2 * (a * (t - f)) + (t - f) * (t - f) := by grind
    have go : ∀ U : Int, -U ≤ t - f → t - f ≤ U → 361 + 38 * U + U * U < 362 * (n * n + 1) → x * x + y * y ≤ 361 := fun U u1 u2 hU => by
      have m1 := mul_abs_le a1 a2 u1 u2
      have m2 := mul_abs_le u1 u2 u1 u2
      have : (n * n + 1) * (x * x + y * y) < (n * n + 1) * 362 := by
        rw [key, key2]
        omega
      have := Int.lt_of_mul_lt_mul_left this (by
        have := Int.mul_nonneg (show 0 ≤ n by omega) (show 0 ≤ n by omega)
        omega)
      omega
    unfold Kd.far at t1 t2
    dsimp only at t1 t2
    have hcase : n = 1 ∨ n = 2 ∨ n = 3 ∨ n = 4 ∨ n = 5 ∨ n = 6 ∨ n = 7 ∨ n = 8 ∨ n = 9 := by omega
    rcases hcase with rfl | rfl | rfl | rfl | rfl | rfl | rfl | rfl | rfl
    · exact go 3 (by omega) (by omega) (by decide)
    · exact go 12 (by omega) (by omega) (by decide)
    · exact go 27 (by omega) (by omega) (by decide)
    · exact go 48 (by omega) (by omega) (by decide)
    · exact go 75 (by omega) (by omega) (by decide)
    · exact go 96 (by omega) (by omega) (by decide)
    · exact go 109 (by omega) (by omega) (by decide)
    · exact go 124 (by omega) (by omega) (by decide)
    · exact go 141 (by omega) (by omega) (by decide)
theorem pigeon : ∀ (N : Nat) (l : List Nat), l.Nodup → (∀ x ∈ l, x < N) → l.length ≤ N
  | 0, l, _, h => by
    cases l with
    | nil => exact Nat.le_refl _
    | cons x _ => exact absurd (h x (List.mem_cons_self ..)) (Nat.not_lt_zero _)
  | N + 1, l, hd, h => by
    by_cases hm : N ∈ l
    · have ih := pigeon N (l.erase N) (hd.erase N) fun x hx => by
        obtain ⟨h1, h2⟩ := (List.Nodup.mem_erase_iff hd).mp hx
        have := h x h2
        omega
      rw [List.length_erase_of_mem hm] at ih
      omega
    · have ih := pigeon N l hd fun x hx => by
        have := h x hx
        have : x ≠ N := fun e => hm (e ▸ hx)
        omega
      omega
def mCode : Nm → Nat
  | .i a => (a + 122).toNat
  | .p a b => ((a + 19) * 39 + (b + 19)).toNat
theorem mCode_lt {k : Kd} {c : Nm} (h : mBd k c) : mCode c < 1600 := by
  cases k with
  | pairs =>
    obtain ⟨a, b, rfl, h⟩ := h
    obtain ⟨h1, h2, h3, h4⟩ := sq_bd h
    simp only [mCode]
    omega
  | _ =>
    obtain ⟨a, rfl, h1, h2⟩ := h
    simp only [mCode]
    omega
theorem mCode_inj {k : Kd} {c d : Nm} (h : mBd k c) (h' : mBd k d) (e : mCode c = mCode d) : c = d := by
  cases k with
  | pairs =>
    obtain ⟨a, b, rfl, h⟩ := h
    obtain ⟨a', b', rfl, h'⟩ := h'
    obtain ⟨h1, h2, h3, h4⟩ := sq_bd h
    obtain ⟨h1', h2', h3', h4'⟩ := sq_bd h'
    simp only [mCode] at e
    obtain ⟨e1, e2⟩ : a = a' ∧ b = b' := by omega
    rw [e1, e2]
  | _ =>
    obtain ⟨a, rfl, h1, h2⟩ := h
    obtain ⟨a', rfl, h1', h2'⟩ := h'
    simp only [mCode] at e
    have e1 : a = a' := by omega
    rw [e1]
theorem few {k : Kd} {L : List Nm} (hd : L.Nodup) (hb : ∀ c ∈ L, mBd k c) : L.length ≤ 1600 := by
  have := pigeon 1600 (L.map mCode) (by
    refine List.pairwise_map.mpr (List.Pairwise.imp_of_mem (fun {a b} ha hb' hne e => hne (mCode_inj (hb a ha) (hb b hb') e)) hd)) (fun x hx => by
    obtain ⟨c, hc, rfl⟩ := List.mem_map.mp hx
    exact mCode_lt (hb c hc))
  rwa [List.length_map] at this
theorem mAdd_nd {L : List Nm} {c : Nm} (h : L.Nodup) : (mAdd L c).Nodup := by
  unfold mAdd
  split
  · exact h
  · rename_i hc
    exact List.nodup_append.mpr ⟨h, List.nodup_cons.mpr ⟨List.not_mem_nil, List.nodup_nil⟩, fun a ha b hb e => hc (by rw [List.mem_singleton] at hb; rw [← hb, ← e]; exact ha)⟩
theorem found_snoc (z : Nm) (R : List MR) (r : MR) : mFound z (R ++ [r]) = mAdd (mFound z R) r.2.2.2 := by
  unfold mFound
  rw [List.foldl_append]
  rfl
theorem fold_nd : ∀ (R : List MR) (L : List Nm), L.Nodup → (R.foldl (fun L r => mAdd L r.2.2.2) L).Nodup
  | [], _, h => h
  | _ :: R, _, h => fold_nd R _ (mAdd_nd h)
theorem found_nd (z : Nm) (R : List MR) : (mFound z R).Nodup := fold_nd R [z] (List.nodup_cons.mpr ⟨List.not_mem_nil, List.nodup_nil⟩)
theorem rows_snoc (k : Kd) (n lo hi : Int) (L : List Nm) (c : Nm) : mRows k n lo hi (L ++ [c]) = mRows k n lo hi L ++ (mTot lo hi).map (mRow k n c) := by
  unfold mRows
  rw [List.flatMap_append]
  simp
theorem rows_len (k : Kd) (n lo hi : Int) : ∀ L : List Nm, (mRows k n lo hi L).length = L.length * (hi + 1 - lo).toNat
  | [] => by simp [mRows]
  | c :: L => by
    have ih := rows_len k n lo hi L
    unfold mRows at ih ⊢
    rw [List.flatMap_cons, List.length_append, ih, List.length_map, List.length_cons, Nat.succ_mul]
    unfold mTot
    rw [List.length_map, List.length_range, Nat.add_comm]
def Nm.key : Nm → KD
  | .i a => .ki a
  | .p a b => .kp [a, b]
def Kd.md : Kd → KM
  | .pairs => .mp
  | _ => .mi
def leadK (c : Nm) (t : Int) : KD := match c with
  | .i a => .kp [a, t]
  | .p a b => .kn [a, b] t
def Kd.mdl : Kd → KM
  | .pairs => .mn
  | _ => .mp
def leadV (r : MR) : KD × Dt := (leadK r.1 r.2.1, .tup [.int r.2.2.1, r.2.2.2.dt])
theorem key_dt (c : Nm) : c.dt = KD.dt c.key := by cases c <;> rfl
theorem key_md {k : Kd} {c : Nm} (h : c.ty k) : c.key.md = k.md := by
  by_cases hk : k = .pairs
  · subst hk; obtain ⟨a, b, rfl⟩ := h; rfl
  · obtain ⟨a, rfl⟩ := ty_i hk h
    cases k <;> first | rfl | exact absurd rfl hk
theorem leadK_dt (c : Nm) (t : Int) : Dt.tup [c.dt, .int t] = KD.dt (leadK c t) := by cases c <;> rfl
theorem leadK_md {k : Kd} {c : Nm} (t : Int) (h : c.ty k) : (leadK c t).md = k.mdl := by
  by_cases hk : k = .pairs
  · subst hk; obtain ⟨a, b, rfl⟩ := h; rfl
  · obtain ⟨a, rfl⟩ := ty_i hk h
    cases k <;> first | rfl | exact absurd rfl hk
theorem key_inj {c d : Nm} (h : c.key = d.key) : c = d := by
  cases c <;> cases d <;> simp only [Nm.key] at h <;> cases h <;> rfl
theorem leadK_inj {c d : Nm} {t u : Int} (h : leadK c t = leadK d u) : c = d ∧ t = u := by
  cases c <;> cases d <;> simp only [leadK] at h <;> cases h <;> exact ⟨rfl, rfl⟩
theorem lookD_none {kvs : DKV} {k : KD} (h : ∀ x ∈ kvs, x.1 ≠ k) : lookD kvs k = none := by
  unfold lookD
  rw [List.find?_eq_none.mpr fun x hx => by rw [decide_eq_true_iff]; exact h x hx]
  rfl
def knownD (L : List Nm) : DKV := L.map fun c => (c.key, Dt.bl true)
theorem known_in {L : List Nm} {c : Nm} : (!(lookD (knownD L) c.key).isSome) = !(decide (c ∈ L)) := by
  by_cases h : c ∈ L
  · have : (lookD (knownD L) c.key).isSome = true := by
      unfold lookD
      rw [Option.isSome_map, List.find?_isSome]
      exact ⟨_, List.mem_map.mpr ⟨c, h, rfl⟩, by rw [decide_eq_true_iff]⟩
    rw [this, decide_eq_true h]
  · rw [lookD_none fun x hx e => ?_, decide_eq_false h]
    · rfl
    · obtain ⟨d, hd, rfl⟩ := List.mem_map.mp hx
      exact h (key_inj e ▸ hd)
theorem tot_nd (lo hi : Int) : (mTot lo hi).Nodup := by
  unfold mTot
  exact List.pairwise_map.mpr (List.Pairwise.imp (fun h e => h (by omega)) List.nodup_range)
theorem tot_mem {lo hi t : Int} : t ∈ mTot lo hi ↔ lo ≤ t ∧ t ≤ hi := by
  unfold mTot
  rw [List.mem_map]
  constructor
  · rintro ⟨i, hi', rfl⟩
    rw [List.mem_range] at hi'
    omega
  · rintro ⟨h1, h2⟩
    exact ⟨(t - lo).toNat, by rw [List.mem_range]; omega, by omega⟩
theorem lead_nd {k : Kd} {n lo hi : Int} {L : List Nm} (h : L.Nodup) : ((mRows k n lo hi L).map fun r => leadK r.1 r.2.1).Nodup := by
  unfold mRows
  rw [List.map_flatMap]
  refine List.pairwise_flatMap.mpr ⟨fun c _ => ?_, ?_⟩
  · rw [List.map_map]
    exact List.pairwise_map.mpr (List.Pairwise.imp (fun hne e => hne (leadK_inj e).2) (tot_nd lo hi))
  · refine List.Pairwise.imp (fun {c d} hne x hx y hy e => ?_) h
    obtain ⟨r, hr, rfl⟩ := List.mem_map.mp hx
    obtain ⟨t, _, rfl⟩ := List.mem_map.mp hr
    obtain ⟨r', hr', rfl⟩ := List.mem_map.mp hy
    obtain ⟨t', _, rfl⟩ := List.mem_map.mp hr'
    exact hne (leadK_inj e).1
theorem rows_mem {k : Kd} {n lo hi : Int} {L : List Nm} {r : MR} : r ∈ mRows k n lo hi L ↔ ∃ c t, c ∈ L ∧ lo ≤ t ∧ t ≤ hi ∧ r = mRow k n c t := by
  unfold mRows
  rw [List.mem_flatMap]
  constructor
  · rintro ⟨c, hc, h⟩
    obtain ⟨t, ht, rfl⟩ := List.mem_map.mp h
    exact ⟨c, t, hc, (tot_mem.mp ht).1, (tot_mem.mp ht).2, rfl⟩
  · rintro ⟨c, t, hc, h1, h2, rfl⟩
    exact ⟨c, hc, List.mem_map.mpr ⟨t, tot_mem.mpr ⟨h1, h2⟩, rfl⟩⟩
theorem tot_take_succ {lo hi : Int} {i : Nat} (h : i < (hi + 1 - lo).toNat) : (mTot lo hi).take (i + 1) = (mTot lo hi).take i ++ [lo + (i : Int)] := by
  unfold mTot
  rw [List.take_succ, List.getElem?_map, List.getElem?_range h]
  rfl
theorem tot_len (lo hi : Int) : (mTot lo hi).length = (hi + 1 - lo).toNat := by
  unfold mTot
  rw [List.length_map, List.length_range]
theorem Mach.lnd {k : Kd} {n lo hi : Int} {L : List Nm} {R : List MR} (M : Mach k n lo hi L R) : L.Nodup := by rw [M.fnd]; exact found_nd _ _
theorem Mach.len {k : Kd} {n lo hi : Int} {L : List Nm} {R : List MR} (M : Mach k n lo hi L R) (h : (hi + 1 - lo).toNat ≤ 121) : R.length ≤ 193600 := by
  have h1 := few M.lnd M.bd
  have e : R.length = L.length * (hi + 1 - lo).toNat := by rw [← rows_len k n lo hi L, ← M.rws]
  have := Nat.mul_le_mul h1 h
  omega
theorem Mach.ty {k : Kd} {n lo hi : Int} {L : List Nm} {R : List MR} (M : Mach k n lo hi L R) : ∀ r ∈ R, r.1.ty k := by
  intro r hr
  rw [M.rws] at hr
  obtain ⟨c, t, hc, _, _, rfl⟩ := rows_mem.mp hr
  exact mBd_ty (M.bd c hc)
theorem Mach.knd {k : Kd} {n lo hi : Int} {L : List Nm} {R : List MR} (M : Mach k n lo hi L R) : (R.map fun r => leadK r.1 r.2.1).Nodup := by
  have h := lead_nd (k := k) (n := n) (lo := lo) (hi := hi) M.lnd
  rwa [← M.rws] at h
theorem far60 (k : Kd) (n : Int) : k.far n ≤ 60 := by
  cases k <;> first | exact Int.le_refl _ | (show (if 2 * n * n < 60 then 2 * n * n else 60) ≤ 60; split <;> omega)
theorem span_few {k : Kd} {n lo hi : Int} (h : mSpan k n lo hi) : (hi + 1 - lo).toNat ≤ 121 := by
  obtain ⟨h1, h2, h3, h4⟩ := h
  have := far60 k n
  omega
def Kd.nam : Kd → Str
  | .plain => .ofString "plain"
  | .below => .ofString "below"
  | .balanced => .ofString "balanced"
  | .growing => .ofString "growing"
  | .falling => .ofString "falling"
  | .pairs => .ofString "pairs"
def S_madd : DSp := fun ds Q => ∃ (c : Nm) (t : Int), ds = [c.dt, .int t] ∧ Q (c.add (.i t)).dt
def S_mtimes : DSp := fun ds Q => ∃ k n, ∃ c : Nm, ds = [.str (Kd.nam k), .int n, c.dt] ∧ k.one = true ∧ k.ok n ∧ c.ty k ∧ Q ((k.ratN n 0).mul c).dt
def S_misf : DSp := fun ds Q => ∃ k n f, ds = [.str (Kd.nam k), .int n, .int f] ∧ k.one = true ∧ k.ok n ∧ k.low n 0 ≤ f ∧ f ≤ k.high n 0 ∧ Q (.bl true)
def S_mno : DSp := fun ds Q => ∃ k, ds = [.str (Kd.nam k)] ∧ Q k.zero.dt
def S_misn : DSp := fun ds Q => ∃ k, ∃ c : Nm, ds = [.str (Kd.nam k), c.dt] ∧ c.ty k ∧ Q (.bl true)
def S_mchosen : DSp := fun ds Q => ∃ c, ds = [.int c] ∧ ∀ k n, k.one = true → k.ok n → Q (.tup [.str (Kd.nam k), .int n])
def S_mspan : DSp := fun ds Q => ∃ k n c, ds = [.str (Kd.nam k), .int n, .int c] ∧ k.one = true ∧ k.ok n ∧ ∀ lo hi, mSpan k n lo hi → hi - lo ≤ 18 → Q (.tup [.int lo, .int hi])
theorem kind4 (i : Int) : ∃ k : Kd, k.one = true ∧ atI [Dt.str (.ofString "plain"), .str (.ofString "below"), .str (.ofString "balanced"), .str (.ofString "pairs")] (i.fmod 4) = some (.str k.nam) := by
  have a0 := Int.fmod_nonneg_of_pos i (show (0 : Int) < 4 by decide)
  have a1 := Int.fmod_lt_of_pos i (show (0 : Int) < 4 by decide)
  rcases (by omega : i.fmod 4 = 0 ∨ i.fmod 4 = 1 ∨ i.fmod 4 = 2 ∨ i.fmod 4 = 3) with e | e | e | e <;> rw [e]
  · exact ⟨.plain, rfl, rfl⟩
  · exact ⟨.below, rfl, rfl⟩
  · exact ⟨.balanced, rfl, rfl⟩
  · exact ⟨.pairs, rfl, rfl⟩
theorem mAdd_bd {k : Kd} {L : List Nm} {c : Nm} (h : ∀ d ∈ L, mBd k d) (hc : mBd k c) : ∀ d ∈ mAdd L c, mBd k d := by
  unfold mAdd
  split
  · exact h
  · intro d hd
    rcases List.mem_append.mp hd with hd | hd
    · exact h d hd
    · rw [List.mem_singleton.mp hd]; exact hc
theorem fold_bd {k : Kd} : ∀ (R : List MR) (L : List Nm), (∀ d ∈ L, mBd k d) → (∀ r ∈ R, mBd k r.2.2.2) → ∀ d ∈ R.foldl (fun L r => mAdd L r.2.2.2) L, mBd k d
  | [], _, h, _ => h
  | r :: R, _, h, hr => fold_bd R _ (mAdd_bd h (hr r (List.mem_cons_self ..))) fun r' h' => hr r' (List.mem_cons_of_mem _ h')
theorem found_bd {k : Kd} {z : Nm} {R : List MR} (hz : mBd k z) (hr : ∀ r ∈ R, mBd k r.2.2.2) : ∀ d ∈ mFound z R, mBd k d := fold_bd R [z] (fun d hd => by rw [List.mem_singleton.mp hd]; exact hz) hr
def S_mrow4 : DSp := fun ds Q => ∃ k n c t, ds = [.str (Kd.nam k), .int n, mDt (mRow k n c t), c.dt, .int t] ∧ k.one = true ∧ k.ok n ∧ c.ty k ∧ Q (.bl true)
def S_mfound : DSp := fun ds Q => ∃ (k : Kd) (R : List MR), ds = [.str (Kd.nam k), .lst (R.map mDt)] ∧ (∀ r ∈ R, mBd k r.2.2.2) ∧ Q (.lst ((mFound k.zero R).map Nm.dt))
structure Adr where
  Plain : Addr
  Below : Addr
  Balanced : Addr
  Growing : Addr
  Falling : Addr
  Pairs : Addr
  Machine : Addr
  NoRatio : Addr
  NoSpan : Addr
structure Txt (K : PySem.W.Frag) (mg : Str → Option Value) (A : Adr) : Prop where
  kt : KitT K
  isinstance : mg "isinstance" = none
  n_int : mg "int" = none
  n_bool : mg "bool" = none
  n_tuple : mg "tuple" = none
  n_list : mg "list" = none
  len : mg "len" = none
  range : mg "range" = none
  n_min : mg "min" = none
  cl_Plain : Cls K A.Plain
  na_Plain : NoAttr K A.Plain "base"
  cl_Below : Cls K A.Below
  na_Below : NoAttr K A.Below "base"
  cl_Balanced : Cls K A.Balanced
  na_Balanced : NoAttr K A.Balanced "half"
  cl_Growing : Cls K A.Growing
  na_Growing : NoAttr K A.Growing "first"
  cl_Falling : Cls K A.Falling
  na_Falling : NoAttr K A.Falling "most"
  cl_Pairs : Cls K A.Pairs
  na_Pairs : NoAttr K A.Pairs "most"
  cl_Machine : Cls K A.Machine
  na_Machine_found : NoAttr K A.Machine "found"
  na_Machine_made : NoAttr K A.Machine "made"
  na_Machine_leads : NoAttr K A.Machine "leads"
  gc_Pairs : mg "Pairs" = some (.ref A.Pairs)
  gc_Growing : mg "Growing" = some (.ref A.Growing)
  gc_Falling : mg "Falling" = some (.ref A.Falling)
  isi_Plain : IsiOk K A.Plain
  ki_Plain_Pairs : PySem.W.kitOne K (.ref A.Plain) (.ref A.Pairs) = some false
  ki_Plain_Growing : PySem.W.kitOne K (.ref A.Plain) (.ref A.Growing) = some false
  ki_Plain_Falling : PySem.W.kitOne K (.ref A.Plain) (.ref A.Falling) = some false
  isi_Below : IsiOk K A.Below
  ki_Below_Pairs : PySem.W.kitOne K (.ref A.Below) (.ref A.Pairs) = some false
  ki_Below_Growing : PySem.W.kitOne K (.ref A.Below) (.ref A.Growing) = some false
  ki_Below_Falling : PySem.W.kitOne K (.ref A.Below) (.ref A.Falling) = some false
  isi_Balanced : IsiOk K A.Balanced
  ki_Balanced_Pairs : PySem.W.kitOne K (.ref A.Balanced) (.ref A.Pairs) = some false
  ki_Balanced_Growing : PySem.W.kitOne K (.ref A.Balanced) (.ref A.Growing) = some false
  ki_Balanced_Falling : PySem.W.kitOne K (.ref A.Balanced) (.ref A.Falling) = some false
  isi_Growing : IsiOk K A.Growing
  ki_Growing_Pairs : PySem.W.kitOne K (.ref A.Growing) (.ref A.Pairs) = some false
  ki_Growing_Growing : PySem.W.kitOne K (.ref A.Growing) (.ref A.Growing) = some true
  ki_Growing_Falling : PySem.W.kitOne K (.ref A.Growing) (.ref A.Falling) = some false
  isi_Falling : IsiOk K A.Falling
  ki_Falling_Pairs : PySem.W.kitOne K (.ref A.Falling) (.ref A.Pairs) = some false
  ki_Falling_Growing : PySem.W.kitOne K (.ref A.Falling) (.ref A.Growing) = some false
  ki_Falling_Falling : PySem.W.kitOne K (.ref A.Falling) (.ref A.Falling) = some true
  isi_Pairs : IsiOk K A.Pairs
  ki_Pairs_Pairs : PySem.W.kitOne K (.ref A.Pairs) (.ref A.Pairs) = some true
  ki_Pairs_Growing : PySem.W.kitOne K (.ref A.Pairs) (.ref A.Growing) = some false
  ki_Pairs_Falling : PySem.W.kitOne K (.ref A.Pairs) (.ref A.Falling) = some false
  gc_NoRatio : mg "NoRatio" = some (.ref A.NoRatio)
  gc_NoSpan : mg "NoSpan" = some (.ref A.NoSpan)
  ex_NoRatio : ExcK K A.NoRatio
  ix_NoRatio : IsxOk K A.NoRatio
  kx_NoRatio_NoRatio : PySem.W.kitOne K (.ref A.NoRatio) (.ref A.NoRatio) = some true
  kx_NoRatio_NoSpan : PySem.W.kitOne K (.ref A.NoRatio) (.ref A.NoSpan) = some false
  ex_NoSpan : ExcK K A.NoSpan
  ix_NoSpan : IsxOk K A.NoSpan
  kx_NoSpan_NoRatio : PySem.W.kitOne K (.ref A.NoSpan) (.ref A.NoRatio) = some false
  kx_NoSpan_NoSpan : PySem.W.kitOne K (.ref A.NoSpan) (.ref A.NoSpan) = some true
def Adr.at (A : Adr) : Kd → Addr
  | .plain => A.Plain | .below => A.Below | .balanced => A.Balanced | .growing => A.Growing | .falling => A.Falling | .pairs => A.Pairs
def wayD (A : Adr) (k : Kd) (n : Int) : Dt := .way (A.at k) k.fld n
def S_get (A : Adr) (k : Kd) (g : Int → Int → Int) : DSp := fun ds Q => ∃ n p, ds = [wayD A k n, .int p] ∧ k.ok n ∧ Q (.int (g n p))
def S_getN (A : Adr) (k : Kd) (g : Int → Int → Nm) : DSp := fun ds Q => ∃ n p, ds = [wayD A k n, .int p] ∧ k.ok n ∧ Q (g n p).dt
def S_zero : DSp := fun ds Q => ∃ o p, ds = [o, p] ∧ Q (.int 0)
def S_no0 : DSp := fun ds Q => ∃ o, ds = [o] ∧ Q (.int 0)
def S_no2 : DSp := fun ds Q => ∃ o, ds = [o] ∧ Q (.tup [.int 0, .int 0])
def S_no (k : Kd) : DSp := fun ds Q => ∃ o, ds = [o] ∧ Q k.zero.dt
theorem e_low (k : Kd) : (("low" : Str) == k.fld) = false := by cases k <;> decide +kernel
theorem e_high (k : Kd) : (("high" : Str) == k.fld) = false := by cases k <;> decide +kernel
def S_splitW (A : Adr) : DSp := fun ds Q => ∃ k n t j, ds = [wayD A k n, .int t, .int ((j : Nat) : Int)] ∧ k.four = true ∧ k.ok n ∧ j ≤ 100000 ∧ Q (.tup [.int (sF k n j (.i t)), (sC k n j (.i t)).dt])
def S_splitP (A : Adr) : DSp := fun ds Q => ∃ n d m j, ds = [wayD A .pairs n, d, .int ((j : Nat) : Int)] ∧ numD d = some m ∧ Kd.pairs.ok n ∧ Q (.tup [.int (sF .pairs n j m), (sC .pairs n j m).dt])
def S_split (A : Adr) (k : Kd) : DSp := fun ds Q => ∃ n m j, ds = [wayD A k n, Nm.dt m, .int ((j : Nat) : Int)] ∧ m.ty k ∧ k.ok n ∧ j ≤ 100000 ∧ Q (.tup [.int (sF k n j m), (sC k n j m).dt])
theorem e_split (k : Kd) : (("split" : Str) == k.fld) = false := by cases k <;> decide +kernel
theorem e_ratio (k : Kd) : (("ratio" : Str) == k.fld) = false := by cases k <;> decide +kernel
theorem e_nought (k : Kd) : (("nought" : Str) == k.fld) = false := by cases k <;> decide +kernel
def S_far (A : Adr) : DSp := fun ds Q => ∃ k n, ds = [wayD A k n] ∧ k.ok n ∧ Q (.int (k.far n))
def S_oneR (A : Adr) : DSpX := fun ds Q R => ∃ k n, ds = [wayD A k n] ∧ ((k.one = true ∧ Q .non) ∨ (k.one = false ∧ R A.NoRatio))
def S_spn (A : Adr) : DSpX := fun ds Q R => ∃ k n lo hi, ds = [wayD A k n, .int lo, .int hi] ∧ k.ok n ∧ ((mSpan k n lo hi ∧ Q .non) ∨ (¬ mSpan k n lo hi ∧ R A.NoSpan))
def S_car2 (A : Adr) : DSp := fun ds Q => ∃ k n lo hi, ds = [wayD A k n, .int lo, .int hi] ∧ k.one = true ∧ k.ok n ∧ mSpan k n lo hi ∧ ∀ L R, Mach k n lo hi L R → Q (.tup [.lst (L.map Nm.dt), .lst (R.map mDt)])
def S_leads (P : Program) (w : World) (K : PySem.W.Frag) : DSp := fun ds Q => ∃ (k : Kd) (R : List MR), ds = [.lst (R.map mDt)] ∧ (∀ r ∈ R, r.1.ty k) ∧ (R.map fun r => leadK r.1 r.2.1).Nodup ∧ R.length ≤ 16000000 ∧ Q (.opq (frzP (dictP P w K k.mdl (R.map leadV))))
def S_mach (P : Program) (w : World) (K : PySem.W.Frag) (A : Adr) : DSpX := fun ds Q R => ∃ k n lo hi, ds = [wayD A k n, .int lo, .int hi] ∧ k.ok n ∧ ((k.one = false ∧ R A.NoRatio) ∨ (k.one = true ∧ ¬ mSpan k n lo hi ∧ R A.NoSpan) ∨ (k.one = true ∧ mSpan k n lo hi ∧ ∀ L Rw, Mach k n lo hi L Rw → Q (.tup [.lst (L.map Nm.dt), .lst (Rw.map mDt), .opq (frzP (dictP P w K k.mdl (Rw.map leadV)))])))
def machO (P : Program) (w : World) (K : PySem.W.Frag) (A : Adr) (k : Kd) (L : List Nm) (R : List MR) : Dt := .opq (objP3 K A.Machine "found" "made" "leads" (.lst (L.map Nm.dt)) (.lst (R.map mDt)) (.opq (frzP (dictP P w K k.mdl (R.map leadV)))))
def S_mcar (P : Program) (w : World) (K : PySem.W.Frag) (A : Adr) : DSp := fun ds Q => ∃ k L R, ds = [machO P w K A k L R] ∧ L.length ≤ 100000 ∧ Q (.lst (L.map Nm.dt))
def S_mrow (P : Program) (w : World) (K : PySem.W.Frag) (A : Adr) : DSp := fun ds Q => ∃ k L R, ds = [machO P w K A k L R] ∧ R.length ≤ 100000 ∧ Q (.lst (R.map mDt))
theorem isiAm {K : PySem.W.Frag} {mg : Str → Option Value} {A : Adr} (T : Txt K mg A) (k : Kd) : IsiOk K (A.at k) := by
  cases k
  · exact T.isi_Plain
  · exact T.isi_Below
  · exact T.isi_Balanced
  · exact T.isi_Growing
  · exact T.isi_Falling
  · exact T.isi_Pairs
theorem kiGm {K : PySem.W.Frag} {mg : Str → Option Value} {A : Adr} (T : Txt K mg A) (k : Kd) : PySem.W.kitOne K (.ref (A.at k)) (.ref A.Growing) = some (match k with | .growing => true | _ => false) := by
  cases k
  · exact T.ki_Plain_Growing
  · exact T.ki_Below_Growing
  · exact T.ki_Balanced_Growing
  · exact T.ki_Growing_Growing
  · exact T.ki_Falling_Growing
  · exact T.ki_Pairs_Growing
theorem kiFm {K : PySem.W.Frag} {mg : Str → Option Value} {A : Adr} (T : Txt K mg A) (k : Kd) : PySem.W.kitOne K (.ref (A.at k)) (.ref A.Falling) = some (match k with | .falling => true | _ => false) := by
  cases k
  · exact T.ki_Plain_Falling
  · exact T.ki_Below_Falling
  · exact T.ki_Balanced_Falling
  · exact T.ki_Growing_Falling
  · exact T.ki_Falling_Falling
  · exact T.ki_Pairs_Falling
theorem kiPm {K : PySem.W.Frag} {mg : Str → Option Value} {A : Adr} (T : Txt K mg A) (k : Kd) : PySem.W.kitOne K (.ref (A.at k)) (.ref A.Pairs) = some (match k with | .pairs => true | _ => false) := by
  cases k
  · exact T.ki_Plain_Pairs
  · exact T.ki_Below_Pairs
  · exact T.ki_Balanced_Pairs
  · exact T.ki_Growing_Pairs
  · exact T.ki_Falling_Pairs
  · exact T.ki_Pairs_Pairs
def S_wayT (A : Adr) : DSp := fun ds Q => ∃ k n, ds = [.str (Kd.nam k), .int n] ∧ k.one = true ∧ k.ok n ∧ Q (wayD A k n)
def S_mwalk (P : Program) (w : World) (K : PySem.W.Frag) (A : Adr) : DSp := fun ds Q => ∃ k n lo hi L R, ds = [.str (Kd.nam k), .int n, machO P w K A k L R, .int lo, .int hi] ∧ k.one = true ∧ k.ok n ∧ Mach k n lo hi L R ∧ mSpan k n lo hi ∧ hi - lo ≤ 18 ∧ Q (.bl true)
theorem okE_nms (L : List Nm) : okE 40 (.lst (L.map Nm.dt)) = true := by
  show (L.map Nm.dt).all (okE 39) = true
  rw [List.all_eq_true]
  intro d hd
  obtain ⟨c, _, rfl⟩ := List.mem_map.mp hd
  cases c <;> rfl
theorem okE_nm (c : Nm) : okE 40 c.dt = true := by cases c <;> rfl
theorem row_eq {k : Kd} {n : Int} {c : Nm} {t : Int} (h1 : k.one = true) (hn : k.ok n) (hc : c.ty k) : c.add (.i t) = ((k.ratN n 0).mul (mNx k n c t)).add (.i (mFg k n c t)) := by
  have hty := add_ty (t := .i t) hc (fun _ => ⟨t, rfl⟩)
  obtain ⟨f1, f2, g1, g2⟩ := split_ok (j := 0) (one_five h1) hn hty
  have hx : (mNx k n c t).ty k := sC_ty _ _ _ _
  have hm : ((k.ratN n 0).mul (mNx k n c t)).ty k := by
    generalize mNx k n c t = x at hx
    cases k <;> first | (obtain ⟨a, rfl⟩ := hx; exact ⟨_, rfl⟩) | (obtain ⟨a, b, rfl⟩ := hx; exact ⟨_, _, rfl⟩)
  refine nm_ext hty (add_ty hm (fun _ => ⟨_, rfl⟩)) ?_ ?_
  · rw [add_re (_ : Nm) (.i (mFg k n c t)), g1]
    show _ = _ + mFg k n c t
    rw [Int.add_comm]
    rfl
  · rw [add_im (_ : Nm) (.i (mFg k n c t)), g2]
    show _ = _ + 0
    rw [Int.add_zero]
    rfl
theorem fig_ok {k : Kd} {n : Int} {c : Nm} {t : Int} (h1 : k.one = true) (hn : k.ok n) (hc : c.ty k) : k.low n 0 ≤ mFg k n c t ∧ mFg k n c t ≤ k.high n 0 := by
  obtain ⟨f1, f2, _, _⟩ := split_ok (j := 0) (one_five h1) hn (add_ty (t := .i t) hc (fun _ => ⟨t, rfl⟩))
  exact ⟨f1, f2⟩
theorem rows_at {k : Kd} {n lo hi : Int} : ∀ {L : List Nm} {i j : Nat} {c : Nm}, L[i]? = some c → j < (hi + 1 - lo).toNat → (mRows k n lo hi L)[i * (hi + 1 - lo).toNat + j]? = some (mRow k n c (lo + j))
  | [], _, _, _, h, _ => by simp at h
  | d :: L, 0, j, c, h, hj => by
    obtain rfl : d = c := Option.some.inj h
    show ((mTot lo hi).map (mRow k n d) ++ mRows k n lo hi L)[_]? = _
    rw [List.getElem?_append_left (by rw [List.length_map, tot_len]; omega), Nat.zero_mul, Nat.zero_add, List.getElem?_map]
    unfold mTot
    rw [List.getElem?_map, List.getElem?_range hj]
    rfl
  | d :: L, i + 1, j, c, h, hj => by
    have ih := rows_at (k := k) (n := n) (lo := lo) (hi := hi) (L := L) (i := i) (j := j) (c := c) h hj
    show ((mTot lo hi).map (mRow k n d) ++ mRows k n lo hi L)[_]? = _
    rw [List.getElem?_append_right (by rw [List.length_map, tot_len, Nat.succ_mul]; omega), List.length_map, tot_len, ← ih]
    congr 1
    rw [Nat.succ_mul]
    omega
section
variable {P : Program} {w : World} {K : PySem.W.Frag} {mg : Str → Option Value} {base : Heap} {f : Addr} {fd : FuncData} {A : Adr}
abbrev s_law_chosen : Stmt := top 37
theorem sc_law_chosen : FnScope ["_law_cell", "_law_name", "_law_part"] ["_law_cell"] (defScope s_law_chosen) := by walk_at "sc"
theorem ok_law_chosen (T : Txt K mg A) (F : Fun K "_law_chosen" "_law_chosen" s_law_chosen f fd) : FnOk P w K mg base CX0 1 f fd ["_law_cell"] (PureSp K (S_mchosen)) := by
  refine okD F sc_law_chosen (by walk_at "ln") fun _ _ _ _ _ _ hr ds Q h => ?_
  obtain ⟨c, rfl, q⟩ := h
  refine ⟨_, (dss_cons (ds_set (i := 1) sc_law_chosen.nd rfl (Or.inl rfl) (de_ix (de_lst (da_cons de_str (da_cons de_str (da_cons de_str (da_cons de_str da_nil))))) (de_op o_mod (dv 0) de_int) (fun _ _ => rfl)))
  (dss_cons (ds_set (i := 2) sc_law_chosen.nd rfl (Or.inl rfl) (de_op o_fdiv (dv 0) de_int))
  (dss_cons (ds_if (dt_cmp (o_eqS) (dv 1) de_str (nomark _)) (dss_one (ds_ret (de_tup (da_cons (dv 1) (da_cons (de_op o_add de_int (de_op o_mod (dv 2) de_int)) da_nil))))) dss_nil)
  (dss_cons (ds_if (dt_cmp (o_eqS) (dv 1) de_str (nomark _)) (dss_one (ds_ret (de_tup (da_cons (dv 1) (da_cons (de_op o_add de_int (de_op o_mod (dv 2) de_int)) da_nil))))) dss_nil)
  (dss_one (ds_ret (de_tup (da_cons (dv 1) (da_cons (de_op o_add de_int (de_op o_mod (dv 2) de_int)) da_nil))))))))), ?_⟩
  obtain ⟨k, h1, hk⟩ := kind4 c
  refine ⟨rfl, _, rfl, _, _, rfl, rfl, cmodN (by decide), _, _, _, rfl, rfl, hk, ?_⟩
  have b0 := Int.fmod_nonneg_of_pos (c.fdiv 4) (show (0 : Int) < 59 by decide)
  have b1 := Int.fmod_lt_of_pos (c.fdiv 4) (show (0 : Int) < 59 by decide)
  have c0 := Int.fmod_nonneg_of_pos (c.fdiv 4) (show (0 : Int) < 30 by decide)
  have c1 := Int.fmod_lt_of_pos (c.fdiv 4) (show (0 : Int) < 30 by decide)
  have d0 := Int.fmod_nonneg_of_pos (c.fdiv 4) (show (0 : Int) < 9 by decide)
  have d1 := Int.fmod_lt_of_pos (c.fdiv 4) (show (0 : Int) < 9 by decide)
  cases k
  · walk_at "rd"
    exact q .plain _ rfl ⟨by show (2 : Int) ≤ _; omega, by show _ ≤ (60 : Int); omega⟩
  · walk_at "rd"
    exact q .below _ rfl ⟨by show (2 : Int) ≤ _; omega, by show _ ≤ (60 : Int); omega⟩
  · walk_at "rd"
    exact q .balanced _ rfl ⟨by show (1 : Int) ≤ _; omega, by show _ ≤ (30 : Int); omega⟩
  · cases h1
  · cases h1
  · walk_at "rd"
    exact q .pairs _ rfl ⟨by show (1 : Int) ≤ _; omega, by show _ ≤ (9 : Int); omega⟩
abbrev s_law_cell_at : Stmt := top 30
theorem sc_law_cell_at : FnScope ["_law_script", "_law_k"] ["_law_script", "_law_k"] (defScope s_law_cell_at) := by walk_at "sc"
theorem ok_law_cell_at (T : Txt K mg A) (F : Fun K "_law_cell_at" "_law_cell_at" s_law_cell_at f fd) : FnOk P w K mg base CX0 1 f fd ["_law_script", "_law_k"] (PureSp K (S_cell)) := by
  refine okD F sc_law_cell_at (by walk_at "ln") fun _ _ _ _ _ _ hr ds Q h => ?_
  obtain ⟨ns, k, rfl, hk, q⟩ := h
  refine ⟨_, (dss_cons (ds_if (dt_cmp (o_lt) (dv 1) (de_len rfl T.len (dv 0)) (nomark _)) (dss_one (ds_ret (de_ix (dv 0) (dv 1) (fun _ _ => rfl)))) dss_nil)
  (dss_one (ds_ret de_int))), ?_⟩
  walk_at "rd"
  refine ite2 (fun hlt => ?_) (fun _ => q 0)
  have hlt : k < (ns.map Dt.int).length := of_decide_eq_true hlt
  rw [List.length_map] at hlt
  exact ⟨_, rfl, _, rfl, _, _, _, rfl, rfl, atI_row hk hlt, q _⟩
abbrev s_law_span : Stmt := top 38
theorem sc_law_span : FnScope ["_law_name", "_law_number", "_law_cell", "_law_most"] ["_law_name", "_law_number", "_law_cell"] (defScope s_law_span) := by walk_at "sc"
theorem ok_law_span (T : Txt K mg A) (F : Fun K "_law_span" "_law_span" s_law_span f fd) : FnOk P w K mg base CX0 1 f fd ["_law_name", "_law_number", "_law_cell"] (PureSp K (S_mspan)) := by
  refine okD F sc_law_span (by walk_at "ln") fun _ _ _ _ _ _ hr ds Q h => ?_
  obtain ⟨k, n, c, rfl, h1, hn, q⟩ := h
  refine ⟨_, (dss_cons (ds_set (i := 3) sc_law_span.nd rfl (Or.inl rfl) de_int)
  (dss_join (ds_if (dt_cmp (o_eqS) (dv 0) de_str (nomark _)) (dss_one (ds_set (i := 3) sc_law_span.nd rfl (Or.inl rfl) (de_min rfl rfl T.n_min (da_cons de_int (da_cons (de_op o_mul (de_op o_mul de_int (dv 1)) (dv 1)) da_nil))))) dss_nil)
  (dss_one (ds_ret (de_tup (da_cons (de_op o_sub de_int (de_op o_mod (dv 2) (de_op o_add (dv 3) de_int))) (da_cons (de_op o_mod (de_op o_fdiv (dv 2) de_int) (de_op o_add (dv 3) de_int)) da_nil))))))), ?_⟩
  obtain ⟨b1, b2⟩ := ok_bd hn
  have fin : ∀ m : Int, 2 ≤ m → m ≤ 9 → m ≤ k.far n → Q (.tup [.int (0 - c.fmod (m + 1)), .int ((c.fdiv 10).fmod (m + 1))]) := fun m m1 m2 m3 => by
    have a0 := Int.fmod_nonneg_of_pos c (show 0 < m + 1 by omega)
    have a1 := Int.fmod_lt_of_pos c (show 0 < m + 1 by omega)
    have c0 := Int.fmod_nonneg_of_pos (c.fdiv 10) (show 0 < m + 1 by omega)
    have c1 := Int.fmod_lt_of_pos (c.fdiv 10) (show 0 < m + 1 by omega)
    exact q _ _ ⟨by omega, by omega, by omega, by omega⟩ (by omega)
  have key : ∃ m : Int, 2 ≤ m ∧ m ≤ 9 ∧ m ≤ k.far n ∧ (if (k.nam == Str.ofString "pairs") = true then m = (if 2 * n * n < 4 then 2 * n * n else 4) else m = 9) := by
    by_cases hp : k = .pairs
    · subst hp
      have e := Int.mul_le_mul b1 b1 (by decide) (by omega)
      have e : 1 ≤ n * n := by omega
      refine ⟨_, ?_, ?_, ?_, ifT rfl rfl⟩
      · rw [Int.mul_assoc]; split <;> omega
      · split <;> omega
      · show _ ≤ (if 2 * n * n < 60 then 2 * n * n else 60)
        rw [Int.mul_assoc]
        split <;> split <;> omega
    · refine ⟨9, by decide, by decide, ?_, ifF (by cases k <;> first | rfl | exact absurd rfl hp) rfl⟩
      cases k <;> first | (show (9 : Int) ≤ 60; decide) | exact absurd rfl hp
  obtain ⟨m, m1, m2, m3, hm⟩ := key
  refine ⟨fun ρ => ρ = [.some (.str k.nam), .some (.int n), .some (.int c), .some (.int m)], ?_, ?_⟩
  · refine ⟨_, rfl, _, _, rfl, rfl, _, rfl, ?_⟩
    by_cases e : (k.nam == Str.ofString "pairs") = true
    · rw [if_pos e] at hm
      refine ifT e ?_
      refine ⟨_, rfl, _, _, rfl, rfl, mulL (by decide), _, rfl, _, _, rfl, rfl, small (by omega) (by omega) _, _, _, rfl, ?_⟩
      rw [hm]
      rfl
    · rw [if_neg e] at hm
      refine ifF (by cases z : (k.nam == Str.ofString "pairs") <;> first | rfl | exact absurd z e) ?_
      rw [hm]
      rfl
  · rintro ρ rfl
    refine ⟨_, rfl, _, rfl, _, _, rfl, rfl, _, _, rfl, rfl, (show m + 1 ≠ 0 by omega), _, _, rfl, rfl, ?_⟩
    walk_at "rd"
    refine ⟨(show m + 1 ≠ 0 by omega), rfl, ?_⟩
    exact fin m m1 m2 m3
abbrev s_is_whole : Stmt := top 8
theorem sc_is_whole : FnScope ["value"] ["value"] (defScope s_is_whole) := by walk_at "sc"
theorem ok_is_whole (T : Txt K mg A) (F : Fun K "is_whole" "is_whole" s_is_whole f fd) : FnOk P w K mg base CX0 1 f fd ["value"] (PureSp K (S_whole)) := by
  refine okD F sc_is_whole (by walk_at "ln") fun _ _ _ _ _ _ hr ds Q h => ?_
  obtain ⟨d, b, rfl, hw, q⟩ := h
  refine ⟨_, (dss_one (ds_ret (de_and (de_isi (T := .int) T.kt T.isinstance T.n_int PyProof.Rows.boot_int (dv 0)) (de_one (de_not (de_isi (T := .bool) T.kt T.isinstance T.n_bool PyProof.Rows.boot_bool (dv 0))))))), ?_⟩
  cases d <;> cases hw
  all_goals
    walk_at "rd"
    exact q
abbrev s_bounded : Stmt := top 14
theorem sc_bounded : FnScope ["number", "least", "most"] ["number", "least", "most"] (defScope s_bounded) := by walk_at "sc"
theorem ok_bounded (T : Txt K mg A) (G_is_whole : DOk P w K mg base 1 "is_whole" (S_whole)) (F : Fun K "bounded" "bounded" s_bounded f fd) : FnOk P w K mg base CX0 2 f fd ["number", "least", "most"] (PureSp K (S_bounded)) := by
  refine okD F sc_bounded (by walk_at "ln") fun _ _ _ _ _ _ hr ds Q h => ?_
  obtain ⟨n, lo, hi, rfl, h1, h2, q⟩ := h
  refine ⟨_, (dss_cons (ds_if (DW.dt (dw_or (dt_not (dt_val (de_call G_is_whole (hr.mono (by decide)) rfl (da_cons (dv 0) da_nil)))) (dw_or (dt_cmp (o_lt) (dv 0) (dv 1) (nomark _)) (dw_or1 (dt_cmp (o_gt) (dv 0) (dv 2) (nomark _)))))) (dss_one ds_never) dss_nil)
  (dss_one (ds_ret (dv 0)))), ?_⟩
  walk_at "rd"
  rw [decide_eq_false (by omega : ¬ n < lo)]
  walk_at "rd"
  rw [decide_eq_false (by omega : ¬ hi < n)]
  walk_at "rd"
  exact q
abbrev s_Plain_init : Stmt := inClass (top 16) 0
theorem sc_Plain_init : FnScope ["self", "base"] ["self", "base"] (defScope s_Plain_init) := by walk_at "sc"
theorem ok_Plain_init (T : Txt K mg A) (G_bounded : DOk P w K mg base 2 "bounded" (S_bounded)) (F : Fun K "__init__" "Plain.__init__" s_Plain_init f fd) : FnOk P w K mg base CX0 3 f fd ["self", "base"] (spInitW A.Plain "base" (Kd.ok .plain)) := by
  refine init_ok F sc_Plain_init T.cl_Plain T.na_Plain (fun cdv A outer s H E hr => ?_)
  obtain ⟨te, p, l⟩ := ((de_call G_bounded (hr.mono (by decide)) rfl (da_cons (dv 1) (da_cons de_int (da_cons de_int da_nil)))) : DE (cxOf CX0 P w K mg base ["self", "base"] "Plain.__init__" (defScope s_Plain_init) f cdv A outer s H E).nox _ _)
  refine ⟨te, _, pss_one (ps_fld (pv 0) p rfl), l, fun i hi => ?_⟩
  exact ⟨_, rfl, _, _, _, rfl, hi.1, hi.2, rfl⟩
abbrev s_Below_init : Stmt := inClass (top 17) 0
theorem sc_Below_init : FnScope ["self", "base"] ["self", "base"] (defScope s_Below_init) := by walk_at "sc"
theorem ok_Below_init (T : Txt K mg A) (G_bounded : DOk P w K mg base 2 "bounded" (S_bounded)) (F : Fun K "__init__" "Below.__init__" s_Below_init f fd) : FnOk P w K mg base CX0 3 f fd ["self", "base"] (spInitW A.Below "base" (Kd.ok .below)) := by
  refine init_ok F sc_Below_init T.cl_Below T.na_Below (fun cdv A outer s H E hr => ?_)
  obtain ⟨te, p, l⟩ := ((de_call G_bounded (hr.mono (by decide)) rfl (da_cons (dv 1) (da_cons de_int (da_cons de_int da_nil)))) : DE (cxOf CX0 P w K mg base ["self", "base"] "Below.__init__" (defScope s_Below_init) f cdv A outer s H E).nox _ _)
  refine ⟨te, _, pss_one (ps_fld (pv 0) p rfl), l, fun i hi => ?_⟩
  exact ⟨_, rfl, _, _, _, rfl, hi.1, hi.2, rfl⟩
abbrev s_Balanced_init : Stmt := inClass (top 18) 0
theorem sc_Balanced_init : FnScope ["self", "half"] ["self", "half"] (defScope s_Balanced_init) := by walk_at "sc"
theorem ok_Balanced_init (T : Txt K mg A) (G_bounded : DOk P w K mg base 2 "bounded" (S_bounded)) (F : Fun K "__init__" "Balanced.__init__" s_Balanced_init f fd) : FnOk P w K mg base CX0 3 f fd ["self", "half"] (spInitW A.Balanced "half" (Kd.ok .balanced)) := by
  refine init_ok F sc_Balanced_init T.cl_Balanced T.na_Balanced (fun cdv A outer s H E hr => ?_)
  obtain ⟨te, p, l⟩ := ((de_call G_bounded (hr.mono (by decide)) rfl (da_cons (dv 1) (da_cons de_int (da_cons de_int da_nil)))) : DE (cxOf CX0 P w K mg base ["self", "half"] "Balanced.__init__" (defScope s_Balanced_init) f cdv A outer s H E).nox _ _)
  refine ⟨te, _, pss_one (ps_fld (pv 0) p rfl), l, fun i hi => ?_⟩
  exact ⟨_, rfl, _, _, _, rfl, hi.1, hi.2, rfl⟩
abbrev s_Pairs_init : Stmt := inClass (top 21) 0
theorem sc_Pairs_init : FnScope ["self", "most"] ["self", "most"] (defScope s_Pairs_init) := by walk_at "sc"
theorem ok_Pairs_init (T : Txt K mg A) (G_bounded : DOk P w K mg base 2 "bounded" (S_bounded)) (F : Fun K "__init__" "Pairs.__init__" s_Pairs_init f fd) : FnOk P w K mg base CX0 3 f fd ["self", "most"] (spInitW A.Pairs "most" (Kd.ok .pairs)) := by
  refine init_ok F sc_Pairs_init T.cl_Pairs T.na_Pairs (fun cdv A outer s H E hr => ?_)
  obtain ⟨te, p, l⟩ := ((de_call G_bounded (hr.mono (by decide)) rfl (da_cons (dv 1) (da_cons de_int (da_cons de_int da_nil)))) : DE (cxOf CX0 P w K mg base ["self", "most"] "Pairs.__init__" (defScope s_Pairs_init) f cdv A outer s H E).nox _ _)
  refine ⟨te, _, pss_one (ps_fld (pv 0) p rfl), l, fun i hi => ?_⟩
  exact ⟨_, rfl, _, _, _, rfl, hi.1, hi.2, rfl⟩
abbrev s_law_way : Stmt := top 36
theorem sc_law_way : FnScope ["_law_name", "_law_number"] ["_law_name", "_law_number"] (defScope s_law_way) := by walk_at "sc"
theorem ok_law_way (T : Txt K mg A) (M_Plain : KOk P w K mg base 3 "Plain" A.Plain "base" (Kd.ok .plain)) (M_Below : KOk P w K mg base 3 "Below" A.Below "base" (Kd.ok .below)) (M_Balanced : KOk P w K mg base 3 "Balanced" A.Balanced "half" (Kd.ok .balanced)) (M_Pairs : KOk P w K mg base 3 "Pairs" A.Pairs "most" (Kd.ok .pairs)) (F : Fun K "_law_way" "_law_way" s_law_way f fd) : FnOk P w K mg base CX0 5 f fd ["_law_name", "_law_number"] (PureSp K (S_wayT A)) := by
  refine okD F sc_law_way (by walk_at "ln") fun _ _ _ _ _ _ hr ds Q h => ?_
  obtain ⟨k, n, rfl, h1, hn, q⟩ := h
  refine ⟨_, (dss_cons (ds_if (dt_cmp (o_eqS) (dv 0) de_str (nomark _)) (dss_one (ds_ret (de_make M_Plain (hr.mono (by decide)) rfl (da_cons (dv 1) da_nil)))) dss_nil)
  (dss_cons (ds_if (dt_cmp (o_eqS) (dv 0) de_str (nomark _)) (dss_one (ds_ret (de_make M_Below (hr.mono (by decide)) rfl (da_cons (dv 1) da_nil)))) dss_nil)
  (dss_cons (ds_if (dt_cmp (o_eqS) (dv 0) de_str (nomark _)) (dss_one (ds_ret (de_make M_Balanced (hr.mono (by decide)) rfl (da_cons (dv 1) da_nil)))) dss_nil)
  (dss_one (ds_ret (de_make M_Pairs (hr.mono (by decide)) rfl (da_cons (dv 1) da_nil))))))), ?_⟩
  cases k <;> try cases h1
  all_goals
    walk_at "rd"
    exact ⟨hn, q⟩
abbrev s_law_is_number : Stmt := top 35
theorem sc_law_is_number : FnScope ["_law_name", "_law_thing"] ["_law_name", "_law_thing"] (defScope s_law_is_number) := by walk_at "sc"
theorem ok_law_is_number (T : Txt K mg A) (F : Fun K "_law_is_number" "_law_is_number" s_law_is_number f fd) : FnOk P w K mg base CX0 1 f fd ["_law_name", "_law_thing"] (PureSp K (S_misn)) := by
  refine okD F sc_law_is_number (by walk_at "ln") fun _ _ _ _ _ _ hr ds Q h => ?_
  obtain ⟨k, c, rfl, hc, q⟩ := h
  refine ⟨_, (dss_cons (ds_if (dt_cmp (o_neS) (dv 0) de_str (nomark _)) (dss_one (ds_ret (de_and (de_isi (T := .int) T.kt T.isinstance T.n_int PyProof.Rows.boot_int (dv 1)) (de_one (de_not (de_isi (T := .bool) T.kt T.isinstance T.n_bool PyProof.Rows.boot_bool (dv 1))))))) dss_nil)
  (dss_cons (ds_if (DW.dt (dw_or (dt_not (dt_val (de_isi (T := .tuple) T.kt T.isinstance T.n_tuple PyProof.Rows.boot_tuple (dv 1)))) (dw_or1 (dt_cmp (o_ne hr) (de_len rfl T.len (dv 1)) de_int (nomark _))))) (dss_one (ds_ret de_bl)) dss_nil)
  (dss_one (ds_ret (de_and (de_isi (T := .int) T.kt T.isinstance T.n_int PyProof.Rows.boot_int (de_ix (dv 1) de_int (fun _ _ => rfl))) (de_and (de_isi (T := .int) T.kt T.isinstance T.n_int PyProof.Rows.boot_int (de_ix (dv 1) de_int (fun _ _ => rfl))) (de_one (de_not (de_isi (T := .bool) T.kt T.isinstance T.n_bool PyProof.Rows.boot_bool (de_ix (dv 1) de_int (fun _ _ => rfl))))))))))), ?_⟩
  by_cases hp : k = .pairs
  · subst hp
    obtain ⟨a, b, rfl⟩ := hc
    walk_at "rd"
    exact q
  · obtain ⟨a, rfl⟩ := ty_i hp hc
    have e : (Kd.nam k == Str.ofString "pairs") = false := by cases k <;> first | rfl | exact absurd rfl hp
    refine ⟨_, rfl, _, _, rfl, rfl, _, rfl, ifT (by rw [e]; rfl) ?_⟩
    walk_at "rd"
    exact q
abbrev s_law_is_figure : Stmt := top 33
theorem sc_law_is_figure : FnScope ["_law_name", "_law_number", "_law_figure"] ["_law_name", "_law_number", "_law_figure"] (defScope s_law_is_figure) := by walk_at "sc"
theorem ok_law_is_figure (T : Txt K mg A) (F : Fun K "_law_is_figure" "_law_is_figure" s_law_is_figure f fd) : FnOk P w K mg base CX0 1 f fd ["_law_name", "_law_number", "_law_figure"] (PureSp K (S_misf)) := by
  refine okD F sc_law_is_figure (by walk_at "ln") fun _ _ _ _ _ _ hr ds Q h => ?_
  obtain ⟨k, n, f, rfl, h1, hn, f1, f2, q⟩ := h
  refine ⟨_, (dss_cons (ds_if (DW.dt (dw_or (dt_not (dt_val (de_isi (T := .int) T.kt T.isinstance T.n_int PyProof.Rows.boot_int (dv 2)))) (dw_or1 (dt_val (de_isi (T := .bool) T.kt T.isinstance T.n_bool PyProof.Rows.boot_bool (dv 2)))))) (dss_one (ds_ret de_bl)) dss_nil)
  (dss_cons (ds_if (dt_cmp (o_eqS) (dv 0) de_str (nomark _)) (dss_one (ds_ret (de_chain (o_le) (o_le) (de_op o_sub de_int (dv 1)) (dv 2) (dv 1)))) dss_nil)
  (dss_cons (ds_if (dt_cmp (o_eqS) (dv 0) de_str (nomark _)) (dss_one (ds_ret (de_chain (o_le) (o_le) de_int (dv 2) (de_op o_mul (dv 1) (dv 1))))) dss_nil)
  (dss_one (ds_ret (de_chain (o_le) (o_lt) de_int (dv 2) (dv 1))))))), ?_⟩
  obtain ⟨b1, b2⟩ := ok_bd hn
  cases k
  · have f1 : 0 ≤ f := f1
    have f2 : f ≤ n - 1 := f2
    have q : Q (.bl (decide (f < n))) := by rw [decide_eq_true (by omega : f < n)]; exact q
    walk_at "rd"
    refine ifT (decide_eq_true f1) ?_
    walk_at "rd"
    exact q
  · have f1 : 0 ≤ f := f1
    have f2 : f ≤ n - 1 := f2
    have q : Q (.bl (decide (f < n))) := by rw [decide_eq_true (by omega : f < n)]; exact q
    walk_at "rd"
    refine ifT (decide_eq_true f1) ?_
    walk_at "rd"
    exact q
  · have f1 : -n ≤ f := f1
    have f2 : f ≤ n := f2
    have q : Q (.bl (decide (f ≤ n))) := by rw [decide_eq_true f2]; exact q
    walk_at "rd"
    refine ifT (decide_eq_true (by omega)) ?_
    walk_at "rd"
    exact q
  · cases h1
  · cases h1
  · have f1 : 0 ≤ f := f1
    have f2 : f ≤ n * n := f2
    have q : Q (.bl (decide (f ≤ n * n))) := by rw [decide_eq_true f2]; exact q
    walk_at "rd"
    refine ifT (decide_eq_true f1) ?_
    walk_at "rd"
    refine ⟨small (by omega) (by omega) _, ?_⟩
    walk_at "rd"
    exact q
abbrev s_law_added : Stmt := top 31
theorem sc_law_added : FnScope ["_law_one", "_law_other"] ["_law_one", "_law_other"] (defScope s_law_added) := by walk_at "sc"
theorem ok_law_added (T : Txt K mg A) (F : Fun K "_law_added" "_law_added" s_law_added f fd) : FnOk P w K mg base CX0 1 f fd ["_law_one", "_law_other"] (PureSp K (S_madd)) := by
  refine okD F sc_law_added (by walk_at "ln") fun _ _ _ _ _ _ hr ds Q h => ?_
  obtain ⟨c, t, rfl, q⟩ := h
  refine ⟨_, (dss_cons (ds_if (dt_not (dt_val (de_isi (T := .tuple) T.kt T.isinstance T.n_tuple PyProof.Rows.boot_tuple (dv 0)))) (dss_one (ds_ret (de_op o_add (dv 0) (dv 1)))) dss_nil)
  (dss_one (ds_ret (de_tup (da_cons (de_op o_add (de_ix (dv 0) de_int (fun _ _ => rfl)) (dv 1)) (da_cons (de_ix (dv 0) de_int (fun _ _ => rfl)) da_nil)))))), ?_⟩
  cases c with
  | i a =>
    walk_at "rd"
    exact q
  | p a b =>
    have q : Q (.tup [.int (a + t), .int (b + 0)]) := q
    rw [Int.add_zero] at q
    walk_at "rd"
    exact q
abbrev s_law_times : Stmt := top 32
theorem sc_law_times : FnScope ["_law_name", "_law_number", "_law_carry"] ["_law_name", "_law_number", "_law_carry"] (defScope s_law_times) := by walk_at "sc"
theorem ok_law_times (T : Txt K mg A) (F : Fun K "_law_times" "_law_times" s_law_times f fd) : FnOk P w K mg base CX0 1 f fd ["_law_name", "_law_number", "_law_carry"] (PureSp K (S_mtimes)) := by
  refine okD F sc_law_times (by walk_at "ln") fun _ _ _ _ _ _ hr ds Q h => ?_
  obtain ⟨k, n, c, rfl, h1, hn, hc, q⟩ := h
  refine ⟨_, (dss_cons (ds_if (dt_cmp (o_eqS) (dv 0) de_str (nomark _)) (dss_one (ds_ret (de_op o_mul (dv 1) (dv 2)))) dss_nil)
  (dss_cons (ds_if (dt_cmp (o_eqS) (dv 0) de_str (nomark _)) (dss_one (ds_ret (de_op o_sub de_int (de_op o_mul (dv 1) (dv 2))))) dss_nil)
  (dss_cons (ds_if (dt_cmp (o_eqS) (dv 0) de_str (nomark _)) (dss_one (ds_ret (de_op o_mul (de_op o_add (de_op o_mul de_int (dv 1)) de_int) (dv 2)))) dss_nil)
  (dss_one (ds_ret (de_tup (da_cons (de_op o_sub (de_op o_sub de_int (de_op o_mul (dv 1) (de_ix (dv 2) de_int (fun _ _ => rfl)))) (de_ix (dv 2) de_int (fun _ _ => rfl))) (da_cons (de_op o_sub (de_ix (dv 2) de_int (fun _ _ => rfl)) (de_op o_mul (dv 1) (de_ix (dv 2) de_int (fun _ _ => rfl)))) da_nil)))))))), ?_⟩
  obtain ⟨b1, b2⟩ := ok_bd hn
  have sm := fun z => small' (n := n) (by omega) (by omega) z
  have sm2 := fun z => small' (n := 2 * n + 1) (by omega) (by omega) z
  cases k
  · obtain ⟨a, rfl⟩ := hc
    walk_at "rd"
    exact ⟨sm _, q⟩
  · obtain ⟨a, rfl⟩ := hc
    walk_at "rd"
    refine ⟨sm _, _, _, rfl, rfl, ?_⟩
    have q : Q (.int (-n * a)) := q
    rw [Int.neg_mul] at q
    dsimp only
    rw [Int.zero_sub]
    exact q
  · obtain ⟨a, rfl⟩ := hc
    walk_at "rd"
    exact ⟨sm2 _, q⟩
  · cases h1
  · cases h1
  · obtain ⟨a, b, rfl⟩ := hc
    have q : Q (.tup [.int (-n * a - 1 * b), .int (-n * b + 1 * a)]) := q
    have e1 : -n * a - 1 * b = 0 - n * a - b := by rw [Int.neg_mul]; omega
    have e2 : -n * b + 1 * a = a - n * b := by rw [Int.neg_mul]; omega
    rw [e1, e2] at q
    walk_at "rd"
    refine ⟨sm _, ?_⟩
    walk_at "rd"
    refine ⟨sm _, ?_⟩
    walk_at "rd"
    exact q
abbrev s_law_row : Stmt := top 39
theorem sc_law_row : FnScope ["_law_name", "_law_number", "_law_row_here", "_law_carry", "_law_total"] ["_law_name", "_law_number", "_law_row_here", "_law_carry", "_law_total"] (defScope s_law_row) := by walk_at "sc"
theorem ok_law_row (T : Txt K mg A) (G__law_is_number : DOk P w K mg base 1 "_law_is_number" (S_misn)) (G__law_is_figure : DOk P w K mg base 1 "_law_is_figure" (S_misf)) (G__law_added : DOk P w K mg base 1 "_law_added" (S_madd)) (G__law_times : DOk P w K mg base 1 "_law_times" (S_mtimes)) (F : Fun K "_law_row" "_law_row" s_law_row f fd) : FnOk P w K mg base CX0 2 f fd ["_law_name", "_law_number", "_law_row_here", "_law_carry", "_law_total"] (PureSp K (S_mrow4)) := by
  refine okD F sc_law_row (by walk_at "ln") fun _ _ _ _ _ _ hr ds Q h => ?_
  obtain ⟨k, n, c, t, rfl, h1, hn, hc, q⟩ := h
  refine ⟨_, (dss_cons (ds_if (DW.dt (dw_or (dt_not (dt_val (de_isi (T := .tuple) T.kt T.isinstance T.n_tuple PyProof.Rows.boot_tuple (dv 2)))) (dw_or (dt_cmp (o_ne hr) (de_len rfl T.len (dv 2)) de_int (nomark _)) (dw_or (dt_cmp (o_ne hr) (de_ix (dv 2) de_int (fun _ _ => rfl)) (dv 3) (nomark _)) (dw_or1 (dt_cmp (o_ne hr) (de_ix (dv 2) de_int (fun _ _ => rfl)) (dv 4) (nomark _))))))) (dss_one (ds_ret de_bl)) dss_nil)
  (dss_cons (ds_if (DW.dt (dw_or (dt_not (dt_val (de_call G__law_is_number (hr.mono (by decide)) rfl (da_cons (dv 0) (da_cons (de_ix (dv 2) de_int (fun _ _ => rfl)) da_nil))))) (dw_or1 (dt_not (dt_val (de_call G__law_is_number (hr.mono (by decide)) rfl (da_cons de_str (da_cons (de_ix (dv 2) de_int (fun _ _ => rfl)) da_nil)))))))) (dss_one (ds_ret de_bl)) dss_nil)
  (dss_cons (ds_if (DW.dt (dw_or (dt_not (dt_val (de_call G__law_is_figure (hr.mono (by decide)) rfl (da_cons (dv 0) (da_cons (dv 1) (da_cons (de_ix (dv 2) de_int (fun _ _ => rfl)) da_nil)))))) (dw_or1 (dt_not (dt_val (de_call G__law_is_number (hr.mono (by decide)) rfl (da_cons (dv 0) (da_cons (de_ix (dv 2) de_int (fun _ _ => rfl)) da_nil)))))))) (dss_one (ds_ret de_bl)) dss_nil)
  (dss_one (ds_ret (de_cmp (o_eq hr) (de_call G__law_added (hr.mono (by decide)) rfl (da_cons (dv 3) (da_cons (dv 4) da_nil))) (de_call G__law_added (hr.mono (by decide)) rfl (da_cons (de_call G__law_times (hr.mono (by decide)) rfl (da_cons (dv 0) (da_cons (dv 1) (da_cons (de_ix (dv 2) de_int (fun _ _ => rfl)) da_nil)))) (da_cons (de_ix (dv 2) de_int (fun _ _ => rfl)) da_nil))) (nomark _))))))), ?_⟩
  have hx : (mNx k n c t).ty k := sC_ty _ _ _ _
  obtain ⟨f1, f2⟩ := fig_ok (t := t) h1 hn hc
  have ec := eqD_self 40 (okE_nm c)
  have et := eqD_self 40 (d := .int t) rfl
  have hm : Q (.bl (eqD (c.add (.i t)).dt (((k.ratN n 0).mul (mNx k n c t)).add (.i (mFg k n c t))).dt)) := by
    rw [← row_eq h1 hn hc, eqD_self 40 (okE_nm _)]
    exact q
  walk_at "rd"
  refine ⟨okE_nm c, okE_nm c, _, rfl, ifF (nT ec) ?_⟩
  walk_at "rd"
  refine ifF (nT et) ?_
  refine ⟨_, rfl, _, rfl, _, _, _, rfl, rfl, rfl, k, c, rfl, hc, _, rfl, ifF rfl ?_⟩
  refine ⟨_, rfl, _, _, _, rfl, rfl, rfl, .plain, .i t, rfl, ⟨t, rfl⟩, _, rfl, ifF rfl ?_⟩
  refine ⟨_, rfl, _, rfl, _, rfl, _, _, _, rfl, rfl, rfl, k, n, _, rfl, h1, hn, f1, f2, _, rfl, ifF rfl ?_⟩
  refine ⟨_, rfl, _, rfl, _, _, _, rfl, rfl, rfl, k, _, rfl, hx, _, rfl, ifF rfl ?_⟩
  exact ⟨_, rfl, _, rfl, c, t, rfl, _, rfl, _, rfl, _, rfl, _, _, _, rfl, rfl, rfl, k, n, _, rfl, h1, hn, hx, _, rfl, _, _, _, rfl, rfl, rfl, _, _, rfl, okE_nm _, okE_nm _, hm⟩
abbrev s_law_nought : Stmt := top 34
theorem sc_law_nought : FnScope ["_law_name"] ["_law_name"] (defScope s_law_nought) := by walk_at "sc"
theorem ok_law_nought (T : Txt K mg A) (F : Fun K "_law_nought" "_law_nought" s_law_nought f fd) : FnOk P w K mg base CX0 1 f fd ["_law_name"] (PureSp K (S_mno)) := by
  refine okD F sc_law_nought (by walk_at "ln") fun _ _ _ _ _ _ hr ds Q h => ?_
  obtain ⟨k, rfl, q⟩ := h
  refine ⟨_, (dss_cons (ds_if (dt_cmp (o_eqS) (dv 0) de_str (nomark _)) (dss_one (ds_ret (de_tup (da_cons de_int (da_cons de_int da_nil))))) dss_nil)
  (dss_one (ds_ret de_int))), ?_⟩
  cases k
  all_goals
    walk_at "rd"
    exact q
abbrev s_law_found : Stmt := top 40
theorem sc_law_found : FnScope ["_law_name", "_law_rows", "_law_found_here", "_law_seen", "_law_row_here"] ["_law_name", "_law_rows"] (defScope s_law_found) := by walk_at "sc"
theorem ok_law_found (T : Txt K mg A) (G__law_nought : DOk P w K mg base 1 "_law_nought" (S_mno)) (F : Fun K "_law_found" "_law_found" s_law_found f fd) : FnOk P w K mg base CX0 2 f fd ["_law_name", "_law_rows"] (PureSp K (S_mfound)) := by
  refine okD F sc_law_found (by walk_at "ln") fun _ _ _ _ _ _ hr ds Q h => ?_
  obtain ⟨k, R, rfl, hb, q⟩ := h
  refine ⟨_, (dss_cons (ds_setO (i := 2) sc_law_found.nd rfl (Or.inl rfl) (df_lst (da_cons (de_call G__law_nought (hr.mono (by decide)) rfl (da_cons (dv 0) da_nil)) da_nil)))
  (dss_cons (ds_dn1 (i := 3) hr.u9 sc_law_found.nd rfl (Or.inl rfl) (de_ixO 2 de_int (fun _ _ => rfl)) de_bl)
  (dss_cons (ds_for (j := 4) rfl sc_law_found.nd rfl (Or.inl rfl) PassesOwn.never (dv 1) (dss_one (ds_if (dt_notin 3 hr.u9 (de_ix (dv 4) de_int (fun _ _ => rfl))) (dss_cons (ds_dput 3 hr.u9 (de_ix (dv 4) de_int (fun _ _ => rfl)) de_bl)
  (dss_one (ds_app 2 (de_ix (dv 4) de_int (fun _ _ => rfl))))) dss_nil)))
  (dss_one (ds_retO 2))))), ?_⟩
  obtain ⟨b, eb⟩ : ∃ b : Bool, (if b = true then KM.mi else KM.mp) = k.md := by
    cases k <;> first | exact ⟨true, rfl⟩ | exact ⟨false, rfl⟩
  refine ⟨_, rfl, k, rfl, rfl, _, rfl, ?_⟩
  refine ⟨rfl, b, _, rfl, _, _, rfl, rfl, k.zero.key, key_dt _, by rw [eb]; exact key_md (zero_ty k), ?_⟩
  rw [eb]
  have hbm : ∀ i, ∀ c ∈ mFound k.zero (R.take i), mBd k c := fun i c hc => found_bd (mBd_zero k) (fun r hr => hb r (List.mem_of_mem_take hr)) c hc
  refine ⟨_, rfl, _, fun i ρ => ∃ v, ρ = [.some (.str k.nam), .some (.lst (R.map mDt)), .own ((mFound k.zero (R.take i)).map Nm.dt), .obj (dictP P w K k.md (knownD (mFound k.zero (R.take i)))), v], rfl, ⟨_, rfl⟩, ?_, ?_⟩
  · rintro i e ρ' he ⟨v, rfl⟩
    rw [List.getElem?_map] at he
    obtain ⟨r, hr, rfl⟩ := Option.map_eq_some_iff.mp he
    have hty := mBd_ty (hb r (List.mem_of_getElem? hr))
    have et : R.take (i + 1) = R.take i ++ [r] := by rw [List.take_succ, hr]; rfl
    have hfew := few (found_nd k.zero (R.take i)) (hbm i)
    have eF : mFound k.zero (R.take (i + 1)) = mAdd (mFound k.zero (R.take i)) r.2.2.2 := by rw [et, found_snoc]
    generalize mFound k.zero (R.take i) = L at *
    refine ⟨_, rfl, _, _, _, rfl, rfl, rfl, _, _, r.2.2.2.key, rfl, key_dt _, key_md hty, ?_⟩
    rw [known_in]
    refine ifB (fun hnew => ?_) (fun hold => ?_)
    · have hnew : r.2.2.2 ∉ L := of_decide_eq_false (of_nT hnew)
      have hn0 : lookD (knownD L) r.2.2.2.key = none := by
        have z := known_in (L := L) (c := r.2.2.2)
        rw [decide_eq_false hnew] at z
        cases e : lookD (knownD L) r.2.2.2.key with
        | none => rfl
        | some v => rw [e] at z; cases z
      have eA : mAdd L r.2.2.2 = L ++ [r.2.2.2] := if_neg hnew
      refine ⟨_, _, rfl, _, rfl, _, _, _, rfl, rfl, rfl, _, key_dt _, key_md hty, hn0, by unfold knownD; rw [List.length_map]; omega, ?_⟩
      refine ⟨_, rfl, _, rfl, _, _, _, rfl, rfl, rfl, by rw [List.length_map]; omega, ?_⟩
      refine ⟨.some (mDt r), ?_⟩
      rw [eF, eA, List.map_append]
      unfold knownD
      rw [List.map_append]
      rfl
    · have hold : r.2.2.2 ∈ L := of_decide_eq_true (of_nF hold)
      have eA : mAdd L r.2.2.2 = L := if_pos hold
      refine ⟨.some (mDt r), ?_⟩
      rw [eF, eA]
      rfl
  · rintro ρ' ⟨v, rfl⟩
    rw [List.length_map, List.take_length]
    exact ⟨_, rfl, q⟩
abbrev s_Machine_carries : Stmt := inClass (top 28) 1
theorem sc_Machine_carries : FnScope ["self"] ["self"] (defScope s_Machine_carries) := by walk_at "sc"
theorem ok_Machine_carries (T : Txt K mg A) (F : Fun K "carries" "Machine.carries" s_Machine_carries f fd) : FnOk P w K mg base CX0 1 f fd ["self"] (FreshSp K (S_mcar P w K A)) := by
  refine okF F sc_Machine_carries (by walk_at "ln") fun _ _ _ _ _ _ hr ds Q h => ?_
  obtain ⟨k, L, R, rfl, hl, q⟩ := h
  refine ⟨_, (dss_one (ds_retF (df_list rfl T.n_list (de_fld3 (C := A.Machine) (f1 := "found") (f2 := "made") (f3 := "leads") (j := 0) (dv 0))))), ?_⟩
  exact ⟨_, rfl, _, _, _, rfl, T.cl_Machine, T.na_Machine_found, _, rfl, rfl, by decide, by decide, by decide, _, rfl, q⟩
abbrev s_Machine_rows : Stmt := inClass (top 28) 2
theorem sc_Machine_rows : FnScope ["self"] ["self"] (defScope s_Machine_rows) := by walk_at "sc"
theorem ok_Machine_rows (T : Txt K mg A) (F : Fun K "rows" "Machine.rows" s_Machine_rows f fd) : FnOk P w K mg base CX0 1 f fd ["self"] (FreshSp K (S_mrow P w K A)) := by
  refine okF F sc_Machine_rows (by walk_at "ln") fun _ _ _ _ _ _ hr ds Q h => ?_
  obtain ⟨k, L, R, rfl, hl, q⟩ := h
  refine ⟨_, (dss_one (ds_retF (df_list rfl T.n_list (de_fld3 (C := A.Machine) (f1 := "found") (f2 := "made") (f3 := "leads") (j := 1) (dv 0))))), ?_⟩
  exact ⟨_, rfl, _, _, _, rfl, T.cl_Machine, T.na_Machine_made, _, rfl, rfl, by decide, by decide, by decide, _, rfl, q⟩
abbrev s_law_walked : Stmt := top 41
theorem sc_law_walked : FnScope ["_law_name", "_law_number", "_law_machine", "_law_low", "_law_high", "_law_known", "_law_rows", "_law_at", "_law_carry", "_law_total"] ["_law_name", "_law_number", "_law_machine", "_law_low", "_law_high"] (defScope s_law_walked) := by walk_at "sc"
theorem ok_law_walked (T : Txt K mg A) (G__law_row : DOk P w K mg base 2 "_law_row" (S_mrow4)) (G__law_found : DOk P w K mg base 2 "_law_found" (S_mfound)) (HMc : FMOk P w K mg base 1 A.Machine "carries" (S_mcar P w K A)) (HMr : FMOk P w K mg base 1 A.Machine "rows" (S_mrow P w K A)) (F : Fun K "_law_walked" "_law_walked" s_law_walked f fd) : FnOk P w K mg base CX0 3 f fd ["_law_name", "_law_number", "_law_machine", "_law_low", "_law_high"] (PureSp K (S_mwalk P w K A)) := by
  refine okD F sc_law_walked (by walk_at "ln") fun _ _ _ _ _ _ hr ds Q h => ?_
  obtain ⟨k, n, lo, hi, L, R, rfl, h1, hn, M, hs, hd, q⟩ := h
  refine ⟨_, (dss_cons (ds_set (i := 5) sc_law_walked.nd rfl (Or.inl rfl) (DF.de (df_meth03 hr (dv 2))))
  (dss_cons (ds_set (i := 6) sc_law_walked.nd rfl (Or.inl rfl) (DF.de (df_meth03 hr (dv 2))))
  (dss_cons (ds_if (DW.dt (dw_or (dt_not (dt_val (de_isi (T := .list) T.kt T.isinstance T.n_list PyProof.Rows.boot_list (dv 5)))) (dw_or (dt_not (dt_val (de_isi (T := .list) T.kt T.isinstance T.n_list PyProof.Rows.boot_list (dv 6)))) (dw_or1 (dt_cmp (o_ne hr) (de_len rfl T.len (dv 6)) (de_op o_mul (de_len rfl T.len (dv 5)) (de_op o_add (de_op o_sub (dv 4) (dv 3)) de_int)) (nomark _)))))) (dss_one (ds_ret de_bl)) dss_nil)
  (dss_cons (ds_set (i := 7) sc_law_walked.nd rfl (Or.inl rfl) de_int)
  (dss_cons (ds_for (j := 8) rfl sc_law_walked.nd rfl (Or.inl rfl) PassesOwn.never (dv 5) (dss_one (ds_forR2 (j := 9) rfl sc_law_walked.nd rfl (Or.inl rfl) PassesOwn.never rfl T.range (da_cons (dv 3) (da_cons (de_op o_add (dv 4) de_int) da_nil)) (dss_cons (ds_if (dt_not (dt_val (de_call G__law_row (hr.mono (by decide)) rfl (da_cons (dv 0) (da_cons (dv 1) (da_cons (de_ix (dv 6) (dv 7) (fun _ _ => rfl)) (da_cons (dv 8) (da_cons (dv 9) da_nil)))))))) (dss_one (ds_ret de_bl)) dss_nil)
  (dss_one (ds_augI (i := 7) ip_add sc_law_walked.nd rfl (Or.inl rfl) de_int))))))
  (dss_one (ds_ret (de_cmp (o_eq hr) (dv 5) (de_call G__law_found (hr.mono (by decide)) rfl (da_cons (dv 0) (da_cons (dv 6) da_nil))) (nomark _))))))))), ?_⟩
  obtain ⟨s1, s2, s3, s4⟩ := id hs
  have hfew := few M.lnd M.bd
  have eW : ((hi + 1 - lo).toNat : Int) = hi - lo + 1 := by omega
  have lR : R.length = L.length * (hi + 1 - lo).toNat := by rw [← rows_len k n lo hi L, ← M.rws]
  have lR2 : R.length ≤ 100000 := by have := Nat.mul_le_mul hfew (show (hi + 1 - lo).toNat ≤ 19 by omega); omega
  have lLd : (L.map Nm.dt).length = L.length := List.length_map _
  have lRd : (R.map mDt).length = R.length := List.length_map _
  refine ⟨_, rfl, A.Machine, "found", "made", "leads", _, _, _, _, rfl, ⟨rfl, rfl, rfl⟩, HMc.mono (by decide), k, L, R, rfl, by omega, ?_⟩
  refine ⟨_, rfl, A.Machine, "found", "made", "leads", _, _, _, _, rfl, ⟨rfl, rfl, rfl⟩, HMr.mono (by decide), k, L, R, rfl, by omega, ?_⟩
  refine ⟨_, rfl, _, rfl, _, rfl, ifF rfl ?_⟩
  refine ⟨_, rfl, _, rfl, _, rfl, ifF rfl ?_⟩
  have e1 : eqD (.int ((R.map mDt).length : Int)) (.int ((L.map Nm.dt).length * (hi - lo + 1))) = true := by
    refine eqI ?_
    rw [lLd, lRd, lR, ← eW]
    exact Int.natCast_mul _ _
  refine ⟨_, rfl, _, rfl, _, rfl, _, rfl, _, rfl, _, rfl, _, _, rfl, rfl, _, _, rfl, rfl, _, _, rfl, rfl, small (by omega) (by omega) _, rfl, rfl, _, rfl, ifF (nT e1) ?_⟩
  generalize hW : (hi + 1 - lo).toNat = W at *
  refine ⟨_, rfl, _, fun i ρ => ∃ v8 v9, ρ = [.some (.str k.nam), .some (.int n), .some (machO P w K A k L R), .some (.int lo), .some (.int hi), .some (.lst (L.map Nm.dt)), .some (.lst (R.map mDt)), .some (.int ((i * W : Nat) : Int)), v8, v9], rfl, ⟨.none, .none, ?_⟩, ?_, ?_⟩
  · rw [Nat.zero_mul]; rfl
  · rintro i e ρ' he ⟨v8, v9, rfl⟩
    rw [List.getElem?_map] at he
    obtain ⟨c, hc, rfl⟩ := Option.map_eq_some_iff.mp he
    refine ⟨_, rfl, _, rfl, _, _, rfl, rfl, lo, hi + 1, fun j ρ => ∃ v9, ρ = [.some (.str k.nam), .some (.int n), .some (machO P w K A k L R), .some (.int lo), .some (.int hi), .some (.lst (L.map Nm.dt)), .some (.lst (R.map mDt)), .some (.int ((i * W + j : Nat) : Int)), .some c.dt, v9], rfl, by omega, by omega, by omega, by omega, ⟨_, rfl⟩, ?_, ?_⟩
    · rintro j ρ' hj ⟨v9, rfl⟩
      rw [hW] at hj
      have hrow : (R.map mDt)[i * W + j]? = some (mDt (mRow k n c (lo + j))) := by
        have := rows_at (k := k) (n := n) (lo := lo) (hi := hi) hc (by rw [hW]; exact hj)
        rw [← M.rws, hW] at this
        rw [List.getElem?_map, this]
        rfl
      refine ⟨_, rfl, _, rfl, _, rfl, _, rfl, _, _, _, rfl, rfl, atI_nat hrow, _, rfl, _, rfl, k, n, c, lo + j, rfl, h1, hn, mBd_ty (M.bd c (List.mem_of_getElem? hc)), _, rfl, ifF rfl ?_⟩
      refine ⟨_, rfl, _, _, rfl, rfl, .some (.int (lo + j)), ?_⟩
      rw [show ((i * W + (j + 1) : Nat) : Int) = ((i * W + j : Nat) : Int) + 1 by omega]
      rfl
    · rintro ρ' ⟨v9, rfl⟩
      rw [hW]
      exact ⟨_, _, by rw [Nat.succ_mul]⟩
  · rintro ρ' ⟨v8, v9, rfl⟩
    have hb : ∀ r ∈ R, mBd k r.2.2.2 := by
      intro r hr
      rw [M.rws] at hr
      obtain ⟨c, t, hc, t1, t2, rfl⟩ := rows_mem.mp hr
      exact mBd_nx h1 hn (M.bd c hc) (by omega) (by omega)
    refine ⟨_, rfl, _, rfl, _, rfl, k, R, rfl, hb, okE_nms _, okE_nms _, ?_⟩
    have e2 : eqD (.lst (L.map Nm.dt)) (.lst ((mFound k.zero R).map Nm.dt)) = true := by rw [← M.fnd]; exact eqD_self 40 (okE_nms _)
    exact e2.symm ▸ q
abbrev s_held_to_have_one_ratio : Stmt := top 24
theorem sc_held_to_have_one_ratio : FnScope ["way"] ["way"] (defScope s_held_to_have_one_ratio) := by walk_at "sc"
theorem ok_held_to_have_one_ratio (T : Txt K mg A) (F : Fun K "held_to_have_one_ratio" "held_to_have_one_ratio" s_held_to_have_one_ratio f fd) : FnOk P w K mg base (CX1 P w) 1 f fd ["way"] (PureSpX K (S_oneR A)) := by
  refine okDX F sc_held_to_have_one_ratio (by walk_at "ln") fun _ _ _ _ _ _ hr ds Q R h rz => ?_
  obtain ⟨k, n, rfl, hw⟩ := h
  refine ⟨_, (dss_one (ds_if (dt_val (de_isiT T.isinstance T.gc_Growing T.gc_Falling (dv 0))) (dss_one (ds_raise rfl rfl T.gc_NoRatio T.ex_NoRatio de_str)) dss_nil)), ?_⟩
  refine ⟨_, rfl, _, _, _, _, _, rfl, isiAm T k, kiGm T k, kiFm T k, _, rfl, ?_⟩
  rcases hw with ⟨h1, q⟩ | ⟨h1, hR⟩
  · exact ifF (by cases k <;> first | rfl | cases h1) q
  · exact ifT (by cases k <;> first | rfl | cases h1) (rz _ hR)
abbrev s_farthest_total : Stmt := top 23
theorem sc_farthest_total : FnScope ["way"] ["way"] (defScope s_farthest_total) := by walk_at "sc"
theorem ok_farthest_total (T : Txt K mg A) (F : Fun K "farthest_total" "farthest_total" s_farthest_total f fd) : FnOk P w K mg base CX0 1 f fd ["way"] (PureSp K (S_far A)) := by
  refine okD F sc_farthest_total (by walk_at "ln") fun _ _ _ _ _ _ hr ds Q h => ?_
  obtain ⟨k, n, rfl, hn, q⟩ := h
  refine ⟨_, (dss_cons (ds_if (dt_val (de_isiO T.isinstance T.gc_Pairs (dv 0))) (dss_one (ds_ret (de_min rfl rfl T.n_min (da_cons de_int (da_cons (de_op o_mul (de_op o_mul de_int (de_fld (dv 0))) (de_fld (dv 0))) da_nil))))) dss_nil)
  (dss_one (ds_ret de_int))), ?_⟩
  refine ⟨_, rfl, _, _, _, _, rfl, isiAm T k, kiPm T k, _, rfl, ?_⟩
  by_cases hk : k = .pairs
  · subst hk
    obtain ⟨b1, b2⟩ := ok_bd hn
    refine ifT rfl ?_
    refine ⟨_, rfl, _, _, _, rfl, rfl, T.cl_Pairs, T.na_Pairs, _, _, rfl, rfl, mulL (by decide), _, rfl, _, _, _, rfl, rfl, T.cl_Pairs, T.na_Pairs, _, _, rfl, rfl, small (by omega) (by omega) _, _, _, rfl, ?_⟩
    exact q
  · refine ifF (by cases k <;> first | rfl | exact absurd rfl hk) ?_
    have e : k.far n = 60 := by cases k <;> first | rfl | exact absurd rfl hk
    rw [e] at q
    exact q
abbrev s_held_to_be_a_span : Stmt := top 25
theorem sc_held_to_be_a_span : FnScope ["way", "low", "high", "farthest"] ["way", "low", "high"] (defScope s_held_to_be_a_span) := by walk_at "sc"
theorem ok_held_to_be_a_span (T : Txt K mg A) (G_farthest_total : DOk P w K mg base 1 "farthest_total" (S_far A)) (F : Fun K "held_to_be_a_span" "held_to_be_a_span" s_held_to_be_a_span f fd) : FnOk P w K mg base (CX1 P w) 2 f fd ["way", "low", "high"] (PureSpX K (S_spn A)) := by
  refine okDX F sc_held_to_be_a_span (by walk_at "ln") fun _ _ _ _ _ _ hr ds Q R h rz => ?_
  obtain ⟨k, n, lo, hi, rfl, hn, hw⟩ := h
  refine ⟨_, (dss_cons (ds_set (i := 3) sc_held_to_be_a_span.nd rfl (Or.inl rfl) (de_call G_farthest_total (hr.mono (by decide)) rfl (da_cons (dv 0) da_nil)))
  (dss_one (ds_if (DW.dt (dw_or (dt_cmp (o_gt) (dv 1) de_int (nomark _)) (dw_or (dt_cmp (o_lt) (dv 2) de_int (nomark _)) (dw_or (dt_cmp (o_lt) (dv 1) (de_neg (dv 3)) (nomark _)) (dw_or1 (dt_cmp (o_gt) (dv 2) (dv 3) (nomark _))))))) (dss_one (ds_raise rfl rfl T.gc_NoSpan T.ex_NoSpan de_str)) dss_nil))), ?_⟩
  refine ⟨_, rfl, k, n, rfl, hn, ?_⟩
  rcases hw with ⟨⟨h1, h2, h3, h4⟩, q⟩ | ⟨h1, hR⟩
  · refine ⟨_, rfl, _, _, rfl, rfl, _, rfl, ifF (decide_eq_false (by omega)) ?_⟩
    refine ⟨_, rfl, _, _, rfl, rfl, _, rfl, ifF (decide_eq_false (by omega)) ?_⟩
    refine ⟨_, rfl, _, rfl, _, rfl, _, _, rfl, rfl, _, rfl, ifF (decide_eq_false (by omega)) ?_⟩
    refine ⟨_, rfl, _, rfl, _, _, rfl, rfl, _, rfl, ifF (decide_eq_false (by omega)) ?_⟩
    exact q
  · refine ⟨_, rfl, _, _, rfl, rfl, _, rfl, ifB (fun _ => ifT rfl (rz _ hR)) (fun z1 => ?_)⟩
    refine ⟨_, rfl, _, _, rfl, rfl, _, rfl, ifB (fun _ => ifT rfl (rz _ hR)) (fun z2 => ?_)⟩
    refine ⟨_, rfl, _, rfl, _, rfl, _, _, rfl, rfl, _, rfl, ifB (fun _ => ifT rfl (rz _ hR)) (fun z3 => ?_)⟩
    refine ⟨_, rfl, _, rfl, _, _, rfl, rfl, _, rfl, ifB (fun _ => rz _ hR) (fun z4 => absurd ?_ h1)⟩
    have z1 := of_decide_eq_false z1
    have z2 := of_decide_eq_false z2
    have z3 := of_decide_eq_false z3
    have z4 := of_decide_eq_false z4
    exact ⟨by omega, by omega, by omega, by omega⟩
abbrev s_as_pair : Stmt := top 10
theorem sc_as_pair : FnScope ["number"] ["number"] (defScope s_as_pair) := by walk_at "sc"
theorem ok_as_pair (T : Txt K mg A) (G_is_whole : DOk P w K mg base 1 "is_whole" (S_whole)) (F : Fun K "as_pair" "as_pair" s_as_pair f fd) : FnOk P w K mg base CX0 2 f fd ["number"] (PureSp K (S_as_pair)) := by
  refine okD F sc_as_pair (by walk_at "ln") fun _ _ _ _ _ _ hr ds Q h => ?_
  obtain ⟨d, m, rfl, hm, q⟩ := h
  refine ⟨_, (dss_cons (ds_if (dt_val (de_call G_is_whole (hr.mono (by decide)) rfl (da_cons (dv 0) da_nil))) (dss_one (ds_ret (de_tup (da_cons (dv 0) (da_cons de_int da_nil))))) dss_nil)
  (dss_one (ds_ret (dv 0)))), ?_⟩
  obtain rfl := numD_dt hm
  cases m with
  | i n =>
    walk_at "rd"
    exact q
  | p a b =>
    walk_at "rd"
    exact q
abbrev s_added : Stmt := top 11
theorem sc_added : FnScope ["one", "other", "left", "right"] ["one", "other"] (defScope s_added) := by walk_at "sc"
theorem ok_added (T : Txt K mg A) (G_is_whole : DOk P w K mg base 1 "is_whole" (S_whole)) (G_as_pair : DOk P w K mg base 2 "as_pair" (S_as_pair)) (F : Fun K "added" "added" s_added f fd) : FnOk P w K mg base CX0 3 f fd ["one", "other"] (PureSp K (S_added)) := by
  refine okD F sc_added (by walk_at "ln") fun _ _ _ _ _ _ hr ds Q h => ?_
  obtain ⟨d, e, m, n, rfl, hm, hn, q⟩ := h
  refine ⟨_, (dss_cons (ds_if (DW.dt (dw_and (dt_val (de_call G_is_whole (hr.mono (by decide)) rfl (da_cons (dv 0) da_nil))) (dw_and1 (dt_val (de_call G_is_whole (hr.mono (by decide)) rfl (da_cons (dv 1) da_nil)))))) (dss_one (ds_ret (de_op o_add (dv 0) (dv 1)))) dss_nil)
  (dss_cons (ds_set (i := 2) sc_added.nd rfl (Or.inl rfl) (de_call G_as_pair (hr.mono (by decide)) rfl (da_cons (dv 0) da_nil)))
  (dss_cons (ds_set (i := 3) sc_added.nd rfl (Or.inl rfl) (de_call G_as_pair (hr.mono (by decide)) rfl (da_cons (dv 1) da_nil)))
  (dss_one (ds_ret (de_tup (da_cons (de_op o_add (de_ix (dv 2) de_int (fun _ _ => rfl)) (de_ix (dv 3) de_int (fun _ _ => rfl))) (da_cons (de_op o_add (de_ix (dv 2) de_int (fun _ _ => rfl)) (de_ix (dv 3) de_int (fun _ _ => rfl))) da_nil)))))))), ?_⟩
  obtain rfl := numD_dt hm
  obtain rfl := numD_dt hn
  cases m <;> cases n
  all_goals
    walk_at "rd"
    exact q
abbrev s_Way_nought : Stmt := inClass (top 15) 0
theorem sc_Way_nought : FnScope ["self"] ["self"] (defScope s_Way_nought) := by walk_at "sc"
theorem ok_Way_nought (T : Txt K mg A) (F : Fun K "nought" "Way.nought" s_Way_nought f fd) : FnOk P w K mg base CX0 1 f fd ["self"] (PureSp K (S_no0)) := by
  refine okD F sc_Way_nought (by walk_at "ln") fun _ _ _ _ _ _ hr ds Q h => ?_
  obtain ⟨o, rfl, q⟩ := h
  refine ⟨_, (dss_one (ds_ret de_int)), ?_⟩
  exact q
abbrev s_Pairs_nought : Stmt := inClass (top 21) 1
theorem sc_Pairs_nought : FnScope ["self"] ["self"] (defScope s_Pairs_nought) := by walk_at "sc"
theorem ok_Pairs_nought (T : Txt K mg A) (F : Fun K "nought" "Pairs.nought" s_Pairs_nought f fd) : FnOk P w K mg base CX0 1 f fd ["self"] (PureSp K (S_no2)) := by
  refine okD F sc_Pairs_nought (by walk_at "ln") fun _ _ _ _ _ _ hr ds Q h => ?_
  obtain ⟨o, rfl, q⟩ := h
  refine ⟨_, (dss_one (ds_ret (de_tup (da_cons de_int (da_cons de_int da_nil))))), ?_⟩
  exact ⟨rfl, q⟩
abbrev s_Way_low : Stmt := inClass (top 15) 1
theorem sc_Way_low : FnScope ["self", "place"] ["self", "place"] (defScope s_Way_low) := by walk_at "sc"
theorem ok_Way_low (T : Txt K mg A) (F : Fun K "low" "Way.low" s_Way_low f fd) : FnOk P w K mg base CX0 1 f fd ["self", "place"] (PureSp K (S_zero)) := by
  refine okD F sc_Way_low (by walk_at "ln") fun _ _ _ _ _ _ hr ds Q h => ?_
  obtain ⟨o, p, rfl, q⟩ := h
  refine ⟨_, (dss_one (ds_ret de_int)), ?_⟩
  exact q
abbrev s_Balanced_low : Stmt := inClass (top 18) 1
theorem sc_Balanced_low : FnScope ["self", "place"] ["self", "place"] (defScope s_Balanced_low) := by walk_at "sc"
theorem ok_Balanced_low (T : Txt K mg A) (F : Fun K "low" "Balanced.low" s_Balanced_low f fd) : FnOk P w K mg base CX0 1 f fd ["self", "place"] (PureSp K (S_get A .balanced (Kd.low .balanced))) := by
  refine okD F sc_Balanced_low (by walk_at "ln") fun _ _ _ _ _ _ hr ds Q h => ?_
  obtain ⟨n, p, rfl, hn, q⟩ := h
  refine ⟨_, (dss_one (ds_ret (de_neg (de_fld (dv 0))))), ?_⟩
  exact ⟨_, rfl, _, _, _, rfl, rfl, T.cl_Balanced, T.na_Balanced, _, rfl, q⟩
abbrev s_Plain_high : Stmt := inClass (top 16) 1
theorem sc_Plain_high : FnScope ["self", "place"] ["self", "place"] (defScope s_Plain_high) := by walk_at "sc"
theorem ok_Plain_high (T : Txt K mg A) (F : Fun K "high" "Plain.high" s_Plain_high f fd) : FnOk P w K mg base CX0 1 f fd ["self", "place"] (PureSp K (S_get A .plain (Kd.high .plain))) := by
  refine okD F sc_Plain_high (by walk_at "ln") fun _ _ _ _ _ _ hr ds Q h => ?_
  obtain ⟨n, p, rfl, hn, q⟩ := h
  refine ⟨_, (dss_one (ds_ret (de_op o_sub (de_fld (dv 0)) de_int))), ?_⟩
  exact ⟨_, rfl, _, _, _, rfl, rfl, T.cl_Plain, T.na_Plain, _, _, rfl, rfl, q⟩
abbrev s_Below_high : Stmt := inClass (top 17) 1
theorem sc_Below_high : FnScope ["self", "place"] ["self", "place"] (defScope s_Below_high) := by walk_at "sc"
theorem ok_Below_high (T : Txt K mg A) (F : Fun K "high" "Below.high" s_Below_high f fd) : FnOk P w K mg base CX0 1 f fd ["self", "place"] (PureSp K (S_get A .below (Kd.high .below))) := by
  refine okD F sc_Below_high (by walk_at "ln") fun _ _ _ _ _ _ hr ds Q h => ?_
  obtain ⟨n, p, rfl, hn, q⟩ := h
  refine ⟨_, (dss_one (ds_ret (de_op o_sub (de_fld (dv 0)) de_int))), ?_⟩
  exact ⟨_, rfl, _, _, _, rfl, rfl, T.cl_Below, T.na_Below, _, _, rfl, rfl, q⟩
abbrev s_Balanced_high : Stmt := inClass (top 18) 2
theorem sc_Balanced_high : FnScope ["self", "place"] ["self", "place"] (defScope s_Balanced_high) := by walk_at "sc"
theorem ok_Balanced_high (T : Txt K mg A) (F : Fun K "high" "Balanced.high" s_Balanced_high f fd) : FnOk P w K mg base CX0 1 f fd ["self", "place"] (PureSp K (S_get A .balanced (Kd.high .balanced))) := by
  refine okD F sc_Balanced_high (by walk_at "ln") fun _ _ _ _ _ _ hr ds Q h => ?_
  obtain ⟨n, p, rfl, hn, q⟩ := h
  refine ⟨_, (dss_one (ds_ret (de_fld (dv 0)))), ?_⟩
  exact ⟨_, rfl, _, _, _, rfl, rfl, T.cl_Balanced, T.na_Balanced, q⟩
abbrev s_Growing_high : Stmt := inClass (top 19) 1
theorem sc_Growing_high : FnScope ["self", "place"] ["self", "place"] (defScope s_Growing_high) := by walk_at "sc"
theorem ok_Growing_high (T : Txt K mg A) (F : Fun K "high" "Growing.high" s_Growing_high f fd) : FnOk P w K mg base CX0 1 f fd ["self", "place"] (PureSp K (S_get A .growing (Kd.high .growing))) := by
  refine okD F sc_Growing_high (by walk_at "ln") fun _ _ _ _ _ _ hr ds Q h => ?_
  obtain ⟨n, p, rfl, hn, q⟩ := h
  refine ⟨_, (dss_one (ds_ret (de_op o_sub (de_op o_add (de_fld (dv 0)) (dv 1)) de_int))), ?_⟩
  exact ⟨_, rfl, _, _, _, rfl, rfl, T.cl_Growing, T.na_Growing, _, rfl, _, _, rfl, rfl, _, _, rfl, rfl, q⟩
abbrev s_Falling_high : Stmt := inClass (top 20) 1
theorem sc_Falling_high : FnScope ["self", "place"] ["self", "place"] (defScope s_Falling_high) := by walk_at "sc"
theorem ok_Falling_high (T : Txt K mg A) (F : Fun K "high" "Falling.high" s_Falling_high f fd) : FnOk P w K mg base CX0 1 f fd ["self", "place"] (PureSp K (S_get A .falling (Kd.high .falling))) := by
  refine okD F sc_Falling_high (by walk_at "ln") fun _ _ _ _ _ _ hr ds Q h => ?_
  obtain ⟨n, p, rfl, hn, q⟩ := h
  refine ⟨_, (dss_one (ds_ret (de_fld (dv 0)))), ?_⟩
  exact ⟨_, rfl, _, _, _, rfl, rfl, T.cl_Falling, T.na_Falling, q⟩
abbrev s_Pairs_high : Stmt := inClass (top 21) 2
theorem sc_Pairs_high : FnScope ["self", "place"] ["self", "place"] (defScope s_Pairs_high) := by walk_at "sc"
theorem ok_Pairs_high (T : Txt K mg A) (F : Fun K "high" "Pairs.high" s_Pairs_high f fd) : FnOk P w K mg base CX0 1 f fd ["self", "place"] (PureSp K (S_get A .pairs (Kd.high .pairs))) := by
  refine okD F sc_Pairs_high (by walk_at "ln") fun _ _ _ _ _ _ hr ds Q h => ?_
  obtain ⟨n, p, rfl, hn, q⟩ := h
  refine ⟨_, (dss_one (ds_ret (de_op o_mul (de_fld (dv 0)) (de_fld (dv 0))))), ?_⟩
  obtain ⟨h1, h2⟩ := ok_bd hn
  exact ⟨_, rfl, _, _, _, rfl, rfl, T.cl_Pairs, T.na_Pairs, _, rfl, _, _, _, rfl, rfl, T.cl_Pairs, T.na_Pairs, _, _, rfl, rfl, small (by omega) (by omega) _, q⟩
abbrev s_Plain_ratio : Stmt := inClass (top 16) 2
theorem sc_Plain_ratio : FnScope ["self", "place"] ["self", "place"] (defScope s_Plain_ratio) := by walk_at "sc"
theorem ok_Plain_ratio (T : Txt K mg A) (F : Fun K "ratio" "Plain.ratio" s_Plain_ratio f fd) : FnOk P w K mg base CX0 1 f fd ["self", "place"] (PureSp K (S_getN A .plain (Kd.ratN .plain))) := by
  refine okD F sc_Plain_ratio (by walk_at "ln") fun _ _ _ _ _ _ hr ds Q h => ?_
  obtain ⟨n, p, rfl, hn, q⟩ := h
  refine ⟨_, (dss_one (ds_ret (de_fld (dv 0)))), ?_⟩
  exact ⟨_, rfl, _, _, _, rfl, rfl, T.cl_Plain, T.na_Plain, q⟩
abbrev s_Below_ratio : Stmt := inClass (top 17) 2
theorem sc_Below_ratio : FnScope ["self", "place"] ["self", "place"] (defScope s_Below_ratio) := by walk_at "sc"
theorem ok_Below_ratio (T : Txt K mg A) (F : Fun K "ratio" "Below.ratio" s_Below_ratio f fd) : FnOk P w K mg base CX0 1 f fd ["self", "place"] (PureSp K (S_getN A .below (Kd.ratN .below))) := by
  refine okD F sc_Below_ratio (by walk_at "ln") fun _ _ _ _ _ _ hr ds Q h => ?_
  obtain ⟨n, p, rfl, hn, q⟩ := h
  refine ⟨_, (dss_one (ds_ret (de_neg (de_fld (dv 0))))), ?_⟩
  exact ⟨_, rfl, _, _, _, rfl, rfl, T.cl_Below, T.na_Below, _, rfl, q⟩
abbrev s_Balanced_ratio : Stmt := inClass (top 18) 3
theorem sc_Balanced_ratio : FnScope ["self", "place"] ["self", "place"] (defScope s_Balanced_ratio) := by walk_at "sc"
theorem ok_Balanced_ratio (T : Txt K mg A) (F : Fun K "ratio" "Balanced.ratio" s_Balanced_ratio f fd) : FnOk P w K mg base CX0 1 f fd ["self", "place"] (PureSp K (S_getN A .balanced (Kd.ratN .balanced))) := by
  refine okD F sc_Balanced_ratio (by walk_at "ln") fun _ _ _ _ _ _ hr ds Q h => ?_
  obtain ⟨n, p, rfl, hn, q⟩ := h
  refine ⟨_, (dss_one (ds_ret (de_op o_add (de_op o_mul de_int (de_fld (dv 0))) de_int))), ?_⟩
  exact ⟨_, rfl, _, _, _, rfl, rfl, T.cl_Balanced, T.na_Balanced, _, _, rfl, rfl, mulL (by decide), _, _, rfl, rfl, q⟩
abbrev s_Growing_ratio : Stmt := inClass (top 19) 2
theorem sc_Growing_ratio : FnScope ["self", "place"] ["self", "place"] (defScope s_Growing_ratio) := by walk_at "sc"
theorem ok_Growing_ratio (T : Txt K mg A) (F : Fun K "ratio" "Growing.ratio" s_Growing_ratio f fd) : FnOk P w K mg base CX0 1 f fd ["self", "place"] (PureSp K (S_getN A .growing (Kd.ratN .growing))) := by
  refine okD F sc_Growing_ratio (by walk_at "ln") fun _ _ _ _ _ _ hr ds Q h => ?_
  obtain ⟨n, p, rfl, hn, q⟩ := h
  refine ⟨_, (dss_one (ds_ret (de_op o_add (de_fld (dv 0)) (dv 1)))), ?_⟩
  exact ⟨_, rfl, _, _, _, rfl, rfl, T.cl_Growing, T.na_Growing, _, rfl, _, _, rfl, rfl, q⟩
abbrev s_Pairs_ratio : Stmt := inClass (top 21) 3
theorem sc_Pairs_ratio : FnScope ["self", "place"] ["self", "place"] (defScope s_Pairs_ratio) := by walk_at "sc"
theorem ok_Pairs_ratio (T : Txt K mg A) (F : Fun K "ratio" "Pairs.ratio" s_Pairs_ratio f fd) : FnOk P w K mg base CX0 1 f fd ["self", "place"] (PureSp K (S_getN A .pairs (Kd.ratN .pairs))) := by
  refine okD F sc_Pairs_ratio (by walk_at "ln") fun _ _ _ _ _ _ hr ds Q h => ?_
  obtain ⟨n, p, rfl, hn, q⟩ := h
  refine ⟨_, (dss_one (ds_ret (de_tup (da_cons (de_neg (de_fld (dv 0))) (da_cons de_int da_nil))))), ?_⟩
  exact ⟨_, rfl, _, _, _, rfl, rfl, T.cl_Pairs, T.na_Pairs, _, rfl, rfl, q⟩
abbrev s_Way_split : Stmt := inClass (top 15) 4
theorem sc_Way_split : FnScope ["self", "total", "place", "low", "figures", "figure"] ["self", "total", "place"] (defScope s_Way_split) := by walk_at "sc"
theorem ok_Way_split (T : Txt K mg A) (HLo : ∀ k : Kd, MOk P w K mg base 1 (A.at k) "low" (S_get A k (k.low)) ∧ MOk P w K mg base 1 (A.at k) "high" (S_get A k (k.high))) (HR : ∀ k : Kd, k.five = true → MOk P w K mg base 1 (A.at k) "ratio" (S_getN A k (k.ratN))) (F : Fun K "split" "Way.split" s_Way_split f fd) : FnOk P w K mg base CX0 2 f fd ["self", "total", "place"] (PureSp K (S_splitW A)) := by
  refine okD F sc_Way_split (by walk_at "ln") fun _ _ _ _ _ _ hr ds Q h => ?_
  obtain ⟨k, n, t, j, rfl, h4, hn, hj, q⟩ := h
  refine ⟨_, (dss_cons (ds_set (i := 3) sc_Way_split.nd rfl (Or.inl rfl) (de_meth hr (dv 0) (da_cons (dv 2) da_nil)))
  (dss_cons (ds_set (i := 4) sc_Way_split.nd rfl (Or.inl rfl) (de_op o_add (de_op o_sub (de_meth hr (dv 0) (da_cons (dv 2) da_nil)) (dv 3)) de_int))
  (dss_cons (ds_set (i := 5) sc_Way_split.nd rfl (Or.inl rfl) (de_op o_add (dv 3) (de_op o_mod (de_op o_sub (dv 1) (dv 3)) (dv 4))))
  (dss_one (ds_ret (de_tup (da_cons (dv 5) (da_cons (de_op o_fdiv (de_op o_sub (dv 1) (dv 5)) (de_meth hr (dv 0) (da_cons (dv 2) da_nil))) da_nil)))))))), ?_⟩
  obtain ⟨M1, M2⟩ := HLo k
  have h5 : k.five = true := by cases k <;> first | rfl | cases h4
  have M3 := HR k h5
  obtain ⟨e1, e2⟩ := size_eq h4 n j
  have hp := size_pos h4 hn j
  have hr : k.ratN n j = .i (k.rat n j) := by cases k <;> first | rfl | cases h4
  have hb : (k.rat n j).natAbs < 1073741824 := by
    obtain ⟨b1, b2⟩ := ok_bd hn
    cases k <;> cases h4 <;> simp only [Kd.rat] <;> omega
  refine ⟨_, rfl, _, _, _, _, rfl, e_low k, M1.mono (by decide), _, rfl, n, j, rfl, hn, ?_⟩
  refine ⟨_, rfl, _, _, _, _, rfl, e_high k, M2.mono (by decide), _, rfl, n, j, rfl, hn, _, rfl, _, _, rfl, rfl, _, _, rfl, rfl, ?_⟩
  refine ⟨_, rfl, _, rfl, _, rfl, _, _, rfl, rfl, _, rfl, _, _, rfl, rfl, (show k.high n j - k.low n j + 1 ≠ 0 by omega), _, _, rfl, rfl, ?_⟩
  refine ⟨_, rfl, _, rfl, _, rfl, _, _, rfl, rfl, _, rfl, _, _, _, _, rfl, e_ratio k, M3.mono (by decide), _, rfl, n, j, rfl, hn, ?_⟩
  rw [hr]
  refine ⟨_, _, rfl, rfl, ⟨by omega, hb⟩, rfl, ?_⟩
  cases k <;> cases h4 <;> exact q
abbrev s_multiplied : Stmt := top 12
theorem sc_multiplied : FnScope ["one", "other", "left", "right"] ["one", "other"] (defScope s_multiplied) := by walk_at "sc"
theorem ok_multiplied (T : Txt K mg A) (G_is_whole : DOk P w K mg base 1 "is_whole" (S_whole)) (G_as_pair : DOk P w K mg base 2 "as_pair" (S_as_pair)) (F : Fun K "multiplied" "multiplied" s_multiplied f fd) : FnOk P w K mg base CX0 3 f fd ["one", "other"] (PureSp K (S_mult)) := by
  refine okD F sc_multiplied (by walk_at "ln") fun _ _ _ _ _ _ hr ds Q h => ?_
  obtain ⟨d, e, m, n, rfl, hm, hn, k1, q⟩ := h
  refine ⟨_, (dss_cons (ds_if (DW.dt (dw_and (dt_val (de_call G_is_whole (hr.mono (by decide)) rfl (da_cons (dv 0) da_nil))) (dw_and1 (dt_val (de_call G_is_whole (hr.mono (by decide)) rfl (da_cons (dv 1) da_nil)))))) (dss_one (ds_ret (de_op o_mul (dv 0) (dv 1)))) dss_nil)
  (dss_cons (ds_set (i := 2) sc_multiplied.nd rfl (Or.inl rfl) (de_call G_as_pair (hr.mono (by decide)) rfl (da_cons (dv 0) da_nil)))
  (dss_cons (ds_set (i := 3) sc_multiplied.nd rfl (Or.inl rfl) (de_call G_as_pair (hr.mono (by decide)) rfl (da_cons (dv 1) da_nil)))
  (dss_one (ds_ret (de_tup (da_cons (de_op o_sub (de_op o_mul (de_ix (dv 2) de_int (fun _ _ => rfl)) (de_ix (dv 3) de_int (fun _ _ => rfl))) (de_op o_mul (de_ix (dv 2) de_int (fun _ _ => rfl)) (de_ix (dv 3) de_int (fun _ _ => rfl)))) (da_cons (de_op o_add (de_op o_mul (de_ix (dv 2) de_int (fun _ _ => rfl)) (de_ix (dv 3) de_int (fun _ _ => rfl))) (de_op o_mul (de_ix (dv 2) de_int (fun _ _ => rfl)) (de_ix (dv 3) de_int (fun _ _ => rfl)))) da_nil)))))))), ?_⟩
  obtain rfl := numD_dt hm
  obtain rfl := numD_dt hn
  obtain ⟨h1, h2, h3, h4⟩ := k1
  cases m <;> cases n
  all_goals
    walk_at "rd"
    first | refine ⟨h1, ?_⟩ | skip
    walk_at "rd"
    first | exact q | skip
    try refine ⟨h2, ?_⟩
    walk_at "rd"
    try refine ⟨h3, ?_⟩
    walk_at "rd"
    try refine ⟨h4, ?_⟩
    walk_at "rd"
    try exact q
abbrev s_Pairs_split : Stmt := inClass (top 21) 4
theorem sc_Pairs_split : FnScope ["self", "total", "place", "pair", "figures", "figure", "turned"] ["self", "total", "place"] (defScope s_Pairs_split) := by walk_at "sc"
theorem ok_Pairs_split (T : Txt K mg A) (G_as_pair : DOk P w K mg base 2 "as_pair" (S_as_pair)) (G_multiplied : DOk P w K mg base 3 "multiplied" (S_mult)) (F : Fun K "split" "Pairs.split" s_Pairs_split f fd) : FnOk P w K mg base CX0 4 f fd ["self", "total", "place"] (PureSp K (S_splitP A)) := by
  refine okD F sc_Pairs_split (by walk_at "ln") fun _ _ _ _ _ _ hr ds Q h => ?_
  obtain ⟨n, d, m, j, rfl, hm, hn, q⟩ := h
  refine ⟨_, (dss_cons (ds_set (i := 3) sc_Pairs_split.nd rfl (Or.inl rfl) (de_call G_as_pair (hr.mono (by decide)) rfl (da_cons (dv 1) da_nil)))
  (dss_cons (ds_set (i := 4) sc_Pairs_split.nd rfl (Or.inl rfl) (de_op o_add (de_op o_mul (de_fld (dv 0)) (de_fld (dv 0))) de_int))
  (dss_cons (ds_set (i := 5) sc_Pairs_split.nd rfl (Or.inl rfl) (de_op o_mod (de_op o_add (de_ix (dv 3) de_int (fun _ _ => rfl)) (de_op o_mul (de_fld (dv 0)) (de_ix (dv 3) de_int (fun _ _ => rfl)))) (dv 4)))
  (dss_cons (ds_set (i := 6) sc_Pairs_split.nd rfl (Or.inl rfl) (de_call G_multiplied (hr.mono (by decide)) rfl (da_cons (de_tup (da_cons (de_op o_sub (de_ix (dv 3) de_int (fun _ _ => rfl)) (dv 5)) (da_cons (de_ix (dv 3) de_int (fun _ _ => rfl)) da_nil))) (da_cons (de_tup (da_cons (de_neg (de_fld (dv 0))) (da_cons (de_neg de_int) da_nil))) da_nil))))
  (dss_one (ds_ret (de_tup (da_cons (dv 5) (da_cons (de_tup (da_cons (de_op o_fdiv (de_ix (dv 6) de_int (fun _ _ => rfl)) (dv 4)) (da_cons (de_op o_fdiv (de_ix (dv 6) de_int (fun _ _ => rfl)) (dv 4)) da_nil))) da_nil))))))))), ?_⟩
  have hn1 : 1 ≤ n := hn.1
  have hn2 : n ≤ 9 := hn.2
  have sq : n * n ≤ 81 := by
    have := Int.mul_le_mul hn2 hn2 (by omega) (by omega)
    omega
  have sq0 : 0 ≤ n * n := Int.mul_nonneg (by omega) (by omega)
  have hN : CDivN 0 (n * n + 1) := ⟨by omega, by omega⟩
  refine ⟨_, rfl, _, m, rfl, hm, ?_⟩
  refine ⟨_, rfl, _, _, _, rfl, rfl, T.cl_Pairs, T.na_Pairs, _, rfl, _, _, _, rfl, rfl, T.cl_Pairs, T.na_Pairs, _, _, rfl, rfl, small (by omega) (by omega) _, _, _, rfl, rfl, ?_⟩
  refine ⟨_, rfl, _, _, _, rfl, rfl, rfl, _, rfl, _, _, _, rfl, rfl, T.cl_Pairs, T.na_Pairs, _, rfl, _, _, _, rfl, rfl, rfl, _, _, rfl, rfl, small' (by omega) (by omega) _, _, _, rfl, rfl, _, rfl, _, _, rfl, rfl, (show n * n + 1 ≠ 0 by omega), ?_⟩
  repeat (first | (walk_at "rd1") | refine ⟨_, _, _, rfl, rfl, T.cl_Pairs, T.na_Pairs, ?_⟩)
  refine ⟨⟨small (show -1000000 ≤ -n by omega) (show -n ≤ 1000000 by omega) _, small (show (-1000000 : Int) ≤ -1 by decide) (show (-1 : Int) ≤ 1000000 by decide) _, small (show (-1000000 : Int) ≤ -1 by decide) (show (-1 : Int) ≤ 1000000 by decide) _, small (show -1000000 ≤ -n by omega) (show -n ≤ 1000000 by omega) _⟩, ?_⟩
  repeat (first | (walk_at "rd1") | refine ⟨hN, ?_⟩)
  exact q
abbrev s_carries_and_rows : Stmt := top 26
theorem sc_carries_and_rows : FnScope ["way", "low", "high", "carries", "known", "rows", "at", "carry", "total", "parts"] ["way", "low", "high"] (defScope s_carries_and_rows) := by walk_at "sc"
theorem ok_carries_and_rows (T : Txt K mg A) (G_added : DOk P w K mg base 3 "added" (S_added)) (HNo : ∀ k : Kd, MOk P w K mg base 1 (A.at k) "nought" (S_no k)) (HSp : ∀ k : Kd, k.five = true → MOk P w K mg base 4 (A.at k) "split" (S_split A k)) (F : Fun K "carries_and_rows" "carries_and_rows" s_carries_and_rows f fd) : FnOk P w K mg base CX0 5 f fd ["way", "low", "high"] (TldSp K (.t true true) (S_car2 A)) := by
  refine okT F sc_carries_and_rows (by walk_at "ln") fun _ _ _ _ _ _ hr ds Q h => ?_
  obtain ⟨k, n, lo, hi, rfl, h1, hn, hs, q⟩ := h
  refine ⟨_, (dss_cons (ds_setO (i := 3) sc_carries_and_rows.nd rfl (Or.inl rfl) (df_lst (da_cons (de_meth0 hr (dv 0)) da_nil)))
  (dss_cons (ds_dn1 (i := 4) hr.u9 sc_carries_and_rows.nd rfl (Or.inl rfl) (de_meth0 hr (dv 0)) de_bl)
  (dss_cons (ds_setO (i := 5) sc_carries_and_rows.nd rfl (Or.inl rfl) (df_lst da_nil))
  (dss_cons (ds_set (i := 6) sc_carries_and_rows.nd rfl (Or.inl rfl) de_int)
  (dss_cons (ds_while PassesOwn.never (dt_cmp (o_lt) (dv 6) (de_lenO 3 rfl T.len) (nomark _)) (dss_cons (ds_set (i := 7) sc_carries_and_rows.nd rfl (Or.inl rfl) (de_ixO 3 (dv 6) (fun _ _ => rfl)))
  (dss_cons (ds_forR2 (j := 8) rfl sc_carries_and_rows.nd rfl (Or.inl rfl) PassesOwn.never rfl T.range (da_cons (dv 1) (da_cons (de_op o_add (dv 2) de_int) da_nil)) (dss_cons (ds_set (i := 9) sc_carries_and_rows.nd rfl (Or.inl rfl) (de_meth hr (dv 0) (da_cons (de_call G_added (hr.mono (by decide)) rfl (da_cons (dv 7) (da_cons (dv 8) da_nil))) (da_cons de_int da_nil))))
  (dss_cons (ds_appB 5 (de_tup (da_cons (dv 7) (da_cons (dv 8) (da_cons (de_ix (dv 9) de_int (fun _ _ => rfl)) (da_cons (de_ix (dv 9) de_int (fun _ _ => rfl)) da_nil))))))
  (dss_one (ds_if (dt_notin 4 hr.u9 (de_ix (dv 9) de_int (fun _ _ => rfl))) (dss_cons (ds_dput 4 hr.u9 (de_ix (dv 9) de_int (fun _ _ => rfl)) de_bl)
  (dss_one (ds_app 3 (de_ix (dv 9) de_int (fun _ _ => rfl))))) dss_nil)))))
  (dss_one (ds_augI (i := 6) ip_add sc_carries_and_rows.nd rfl (Or.inl rfl) de_int)))))
  (dss_one (ds_retOO 3 5))))))), ?_⟩
  have h5 := one_five h1
  obtain ⟨s1, s2, s3, s4⟩ := hs
  have hfar : k.far n ≤ 60 := by
    cases k <;> first | exact Int.le_refl _ | (show (if 2 * n * n < 60 then 2 * n * n else 60) ≤ 60; split <;> omega)
  have hT : (hi + 1 - lo).toNat ≤ 121 := by omega
  obtain ⟨b, eb⟩ : ∃ b : Bool, (if b = true then KM.mi else KM.mp) = k.md := by
    cases k <;> first | exact ⟨true, rfl⟩ | exact ⟨false, rfl⟩
  have hz := zero_ty k
  refine ⟨_, rfl, _, _, _, _, rfl, e_nought k, (HNo k).mono (by decide), _, rfl, rfl, _, rfl, ?_⟩
  refine ⟨rfl, b, _, rfl, _, _, _, _, rfl, e_nought k, (HNo k).mono (by decide), _, rfl, k.zero.key, key_dt _, by rw [eb]; exact key_md hz, ?_⟩
  rw [eb]
  refine ⟨rfl, _, rfl, ?_⟩
  refine ⟨fun m ρ => ∃ (at_ : Nat) (L : List Nm) (R : List MR) (v7 v8 v9 : Sl), ρ = [.some (wayD A k n), .some (.int lo), .some (.int hi), .own (L.map Nm.dt), .obj (dictP P w K k.md (knownD L)), .own (R.map mDt), .some (.int at_), v7, v8, v9] ∧ m = 1600 - at_ ∧ at_ ≤ L.length ∧ R = mRows k n lo hi (L.take at_) ∧ L = mFound k.zero R ∧ ∀ c ∈ L, mBd k c, ⟨1600, 0, [k.zero], [], _, _, _, rfl, rfl, Nat.zero_le _, rfl, rfl, fun c hc => by rw [List.mem_singleton.mp hc]; exact mBd_zero k⟩, ?_⟩
  rintro m ρ' ⟨at_, L, R, v7, v8, v9, rfl, rfl, hat, hR, hL, hb⟩
  have hnd : L.Nodup := by rw [hL]; exact found_nd _ _
  have hfew := few hnd hb
  have lL : (L.map Nm.dt).length = L.length := List.length_map _
  refine ⟨_, rfl, _, rfl, _, _, rfl, rfl, _, rfl, ifB (fun hlt => ?_) (fun hge => ?_)⟩
  · have hlt : at_ < L.length := by have := of_decide_eq_true hlt; omega
    obtain ⟨c, hc⟩ : ∃ c, L[at_]? = some c := ⟨_, List.getElem?_eq_getElem hlt⟩
    have hcL : c ∈ L := List.mem_of_getElem? hc
    have hcd : (L.map Nm.dt)[at_]? = some c.dt := by rw [List.getElem?_map, hc]; rfl
    refine ⟨_, rfl, _, rfl, _, _, rfl, atI_nat hcd, ?_⟩
    have lR : R.length ≤ 193600 := by
      have e : R.length = (L.take at_).length * (hi + 1 - lo).toNat := by rw [← rows_len k n lo hi, ← hR]
      have := Nat.mul_le_mul (show (L.take at_).length ≤ 1600 by rw [List.length_take]; omega) hT
      omega
    refine ⟨_, rfl, _, rfl, _, _, rfl, rfl, lo, hi + 1, fun i ρ => ∃ (L' ex : List Nm) (v8 v9 : Sl), ρ = [.some (wayD A k n), .some (.int lo), .some (.int hi), .own (L'.map Nm.dt), .obj (dictP P w K k.md (knownD L')), .own ((R ++ ((mTot lo hi).take i).map (mRow k n c)).map mDt), .some (.int at_), .some c.dt, v8, v9] ∧ L' = mFound k.zero (R ++ ((mTot lo hi).take i).map (mRow k n c)) ∧ L' = L ++ ex ∧ ∀ c ∈ L', mBd k c, rfl, by omega, by omega, by omega, by omega, ⟨L, [], v8, v9, ?_, ?_, (List.append_nil _).symm, hb⟩, ?_, ?_⟩
    · rw [List.take_zero, List.map_nil, List.append_nil]; rfl
    · rw [List.take_zero, List.map_nil, List.append_nil]; exact hL
    · rintro i ρ' hi' ⟨L', ex, v8, v9, rfl, hL', hex, hb'⟩
      have hi' : i < (hi + 1 - lo).toNat := hi'
      generalize hR' : R ++ ((mTot lo hi).take i).map (mRow k n c) = R' at *
      have lR' : R'.length ≤ 200000 := by
        rw [← hR', List.length_append, List.length_map, List.length_take]
        omega
      have lL' : L'.length ≤ 1600 := few (k := k) (by rw [hL']; exact found_nd _ _) hb'
      have hcb := hb c hcL
      have hnx : mBd k (mNx k n c (lo + i)) := mBd_nx h1 hn hcb (by omega) (by omega)
      have eR : R ++ ((mTot lo hi).take (i + 1)).map (mRow k n c) = R' ++ [mRow k n c (lo + i)] := by rw [tot_take_succ hi', List.map_append, ← List.append_assoc, hR']; rfl
      have eL : mFound k.zero (R' ++ [mRow k n c (lo + i)]) = mAdd L' (mNx k n c (lo + i)) := by rw [found_snoc, ← hL']; rfl
      refine ⟨_, rfl, _, _, _, _, rfl, e_split k, (HSp k h5).mono (by decide), _, rfl, _, rfl, _, _, c, .i (lo + i), rfl, numD_of c, rfl, n, _, 0, rfl, add_ty (mBd_ty hcb) (fun _ => ⟨_, rfl⟩), hn, by decide, ?_⟩
      refine ⟨_, rfl, _, rfl, _, rfl, _, rfl, _, _, _, rfl, rfl, rfl, _, rfl, _, _, _, rfl, rfl, rfl, rfl, by rw [List.length_map]; omega, ?_⟩
      refine ⟨_, rfl, _, _, _, rfl, rfl, rfl, _, _, (mNx k n c (lo + i)).key, rfl, key_dt _, key_md (mBd_ty hnx), ?_⟩
      rw [known_in]
      refine ifB (fun hnew => ?_) (fun hold => ?_)
      · have hnew : mNx k n c (lo + i) ∉ L' := of_decide_eq_false (of_nT hnew)
        have hn0 : lookD (knownD L') (mNx k n c (lo + i)).key = none := by
          have z := known_in (L := L') (c := mNx k n c (lo + i))
          rw [decide_eq_false hnew] at z
          cases e : lookD (knownD L') (mNx k n c (lo + i)).key with
          | none => rfl
          | some v => rw [e] at z; cases z
        refine ⟨_, _, rfl, _, rfl, _, _, _, rfl, rfl, rfl, _, key_dt _, key_md (mBd_ty hnx), hn0, by unfold knownD; rw [List.length_map]; omega, ?_⟩
        refine ⟨_, rfl, _, rfl, _, _, _, rfl, rfl, rfl, by rw [List.length_map]; omega, ?_⟩
        have eA : mAdd L' (mNx k n c (lo + i)) = L' ++ [mNx k n c (lo + i)] := if_neg hnew
        refine ⟨L' ++ [mNx k n c (lo + i)], ex ++ [mNx k n c (lo + i)], .some (.int (lo + i)), .some (.tup [.int (mFg k n c (lo + i)), (mNx k n c (lo + i)).dt]), ?_, by rw [eR, eL, eA], by rw [hex, List.append_assoc], fun d hd => ?_⟩
        · rw [eR, List.map_append, List.map_append]
          unfold knownD
          rw [List.map_append]
          rfl
        · rcases List.mem_append.mp hd with hd | hd
          · exact hb' d hd
          · rw [List.mem_singleton.mp hd]; exact hnx
      · have hold : mNx k n c (lo + i) ∈ L' := of_decide_eq_true (of_nF hold)
        have eA : mAdd L' (mNx k n c (lo + i)) = L' := if_pos hold
        refine ⟨L', ex, .some (.int (lo + i)), .some (.tup [.int (mFg k n c (lo + i)), (mNx k n c (lo + i)).dt]), ?_, by rw [eR, eL, eA], hex, hb'⟩
        rw [eR, List.map_append]
        rfl
    · rintro ρ' ⟨L', ex, v8, v9, rfl, hL', hex, hb'⟩
      have et : (mTot lo hi).take (hi + 1 - lo).toNat = mTot lo hi := List.take_of_length_le (by rw [tot_len]; exact Nat.le_refl _)
      rw [et] at hL'
      rw [et]
      refine ⟨_, rfl, _, _, rfl, rfl, 1600 - (at_ + 1), by omega, at_ + 1, L', R ++ (mTot lo hi).map (mRow k n c), _, _, _, rfl, rfl, ?_, ?_, hL', hb'⟩
      · rw [hex, List.length_append]; omega
      · have e1 : L'.take (at_ + 1) = L.take at_ ++ [c] := by
          rw [hex, List.take_append_of_le_length (by omega), List.take_succ, hc]
          rfl
        rw [e1, rows_snoc, ← hR]
  · have hge : ¬ at_ < L.length := by have := of_decide_eq_false hge; omega
    refine ⟨_, rfl, _, rfl, q L R ⟨hL, ?_, hb⟩⟩
    rw [List.take_of_length_le (by omega)] at hR
    exact hR
abbrev s_leads_of : Stmt := top 27
theorem sc_leads_of : FnScope ["rows", "leads", "row"] ["rows"] (defScope s_leads_of) := by walk_at "sc"
theorem ok_leads_of (T : Txt K mg A) (F : Fun K "leads_of" "leads_of" s_leads_of f fd) : FnOk P w K mg base CX0 1 f fd ["rows"] (PureSp K (S_leads P w K)) := by
  refine okD F sc_leads_of (by walk_at "ln") fun _ _ _ _ _ _ hr ds Q h => ?_
  obtain ⟨k, R, rfl, hty, hnd, hl, q⟩ := h
  refine ⟨_, (dss_cons (ds_dn0 (i := 1) sc_leads_of.nd rfl (Or.inl rfl))
  (dss_cons (ds_for (j := 2) rfl sc_leads_of.nd rfl (Or.inl rfl) PassesOwn.never (dv 0) (dss_one (ds_dput 1 hr.u9 (de_tup (da_cons (de_ix (dv 2) de_int (fun _ _ => rfl)) (da_cons (de_ix (dv 2) de_int (fun _ _ => rfl)) da_nil))) (de_tup (da_cons (de_ix (dv 2) de_int (fun _ _ => rfl)) (da_cons (de_ix (dv 2) de_int (fun _ _ => rfl)) da_nil))))))
  (dss_one (ds_retB 1)))), ?_⟩
  obtain ⟨b, eb⟩ : ∃ b : Bool, (if b = true then KM.mp else KM.mn) = k.mdl := by
    cases k <;> first | exact ⟨true, rfl⟩ | exact ⟨false, rfl⟩
  refine ⟨rfl, b, ?_⟩
  rw [eb]
  refine ⟨_, rfl, _, fun i ρ => ∃ v, ρ = [.some (.lst (R.map mDt)), .obj (dictP P w K k.mdl ((R.take i).map leadV)), v], rfl, ⟨_, rfl⟩, ?_, ?_⟩
  · rintro i e ρ' he ⟨v, rfl⟩
    rw [List.getElem?_map] at he
    obtain ⟨r, hr, rfl⟩ := Option.map_eq_some_iff.mp he
    have hi := (List.getElem?_eq_some_iff.mp hr).1
    have hno : lookD ((R.take i).map leadV) (leadK r.1 r.2.1) = none := by
      refine lookD_none fun x hx e => ?_
      obtain ⟨r', hr', rfl⟩ := List.mem_map.mp hx
      obtain ⟨j, hj⟩ := List.mem_iff_getElem?.mp hr'
      have hji : j < i := by
        have := (List.getElem?_eq_some_iff.mp hj).1
        rw [List.length_take] at this
        omega
      rw [List.getElem?_take_of_lt hji] at hj
      have h1 : (R.map fun r => leadK r.1 r.2.1)[j]? = some (leadK r'.1 r'.2.1) := by rw [List.getElem?_map, hj]; rfl
      have h2 : (R.map fun r => leadK r.1 r.2.1)[i]? = some (leadK r.1 r.2.1) := by rw [List.getElem?_map, hr]; rfl
      have e : leadK r'.1 r'.2.1 = leadK r.1 r.2.1 := e
      rw [e] at h1
      have := (List.getElem?_inj (by rw [List.length_map]; omega) hnd).mp (h1.trans h2.symm)
      omega
    refine ⟨_, _, rfl, _, rfl, _, _, _, rfl, rfl, rfl, _, rfl, _, _, _, rfl, rfl, rfl, rfl, _, rfl, _, _, _, rfl, rfl, rfl, _, rfl, _, _, _, rfl, rfl, rfl, rfl, leadK r.1 r.2.1, leadK_dt _ _, leadK_md _ (hty r (List.mem_of_getElem? hr)), hno, by rw [List.length_map, List.length_take]; omega, ?_⟩
    have e : (R.take (i + 1)).map leadV = (R.take i).map leadV ++ [leadV r] := by rw [List.take_succ, hr, List.map_append]; rfl
    refine ⟨.some (mDt r), ?_⟩
    rw [e]
    rfl
  · rintro ρ' ⟨v, rfl⟩
    rw [List.length_map, List.take_length]
    exact ⟨_, rfl, q⟩
abbrev s_Machine_init : Stmt := inClass (top 28) 0
theorem sc_Machine_init : FnScope ["self", "way", "low", "high", "made"] ["self", "way", "low", "high"] (defScope s_Machine_init) := by walk_at "sc"
theorem ok_Machine_init (T : Txt K mg A) (G_held_to_have_one_ratio : DOkX P w K mg base 1 "held_to_have_one_ratio" (S_oneR A)) (G_held_to_be_a_span : DOkX P w K mg base 2 "held_to_be_a_span" (S_spn A)) (G_carries_and_rows : TOk P w K mg base 5 "carries_and_rows" (.t true true) (S_car2 A)) (G_leads_of : DOk P w K mg base 1 "leads_of" (S_leads P w K)) (F : Fun K "__init__" "Machine.__init__" s_Machine_init f fd) : FnOk P w K mg base (CX1 P w) 6 f fd ["self", "way", "low", "high"] (spMk3 K A.Machine "found" "made" "leads" (S_mach P w K A)) := by
  refine init3 (lf := "leads_of") F sc_Machine_init T.cl_Machine T.na_Machine_found T.na_Machine_made T.na_Machine_leads (by decide) (by decide) (by decide) (by walk_at "ln") G_leads_of (by decide) (Or.inl rfl) (Or.inl rfl) (by decide) (by decide) (by decide) (fun _ _ _ _ _ _ => rfl) rfl (fun _ _ _ _ _ _ hr p ds Q R h rz => ?_)
  obtain ⟨k, n, lo, hi, rfl, hn, hw⟩ := h
  refine ⟨_, _, _, (ds_expr (de_callX G_held_to_have_one_ratio (hr.mono (by decide)) rfl (da_cons (dv 1) da_nil))), (ds_expr (de_callX G_held_to_be_a_span (hr.mono (by decide)) rfl (da_cons (dv 1) (da_cons (dv 2) (da_cons (dv 3) da_nil))))), (ds_set (i := 4) sc_Machine_init.nd rfl (Or.inl rfl) (de_call G_carries_and_rows.dok (hr.mono (by decide)) rfl (da_cons (dv 1) (da_cons (dv 2) (da_cons (dv 3) da_nil))))), ?_⟩
  rcases hw with ⟨h1, hR⟩ | ⟨h1, hs, hR⟩ | ⟨h1, hs, q⟩
  · exact ⟨_, rfl, k, n, rfl, .inr ⟨h1, rz _ hR⟩⟩
  · exact ⟨_, rfl, k, n, rfl, .inl ⟨h1, _, rfl, _, rfl, _, rfl, k, n, lo, hi, rfl, hn, .inr ⟨hs, rz _ hR⟩⟩⟩
  · exact ⟨_, rfl, k, n, rfl, .inl ⟨h1, _, rfl, _, rfl, _, rfl, k, n, lo, hi, rfl, hn, .inl ⟨hs, _, rfl, _, rfl, _, rfl, k, n, lo, hi, rfl, h1, hn, hs, fun L Rw M => ⟨_, _, rfl, rfl, k, Rw, rfl, M.ty, M.knd, Nat.le_trans (M.len (span_few hs)) (by decide), q L Rw M⟩⟩⟩⟩
abbrev s_law : Stmt := top 42
theorem sc_law : FnScope ["_law_script", "_law_name", "_law_number", "_law_low", "_law_high", "_law_machine", "_law_known", "_law_rows"] ["_law_script"] (defScope s_law) := by walk_at "sc"
theorem ok_law (T : Txt K mg A) (G__law_chosen : DOk P w K mg base 1 "_law_chosen" (S_mchosen)) (G__law_cell_at : DOk P w K mg base 1 "_law_cell_at" (S_cell)) (G__law_span : DOk P w K mg base 1 "_law_span" (S_mspan)) (G__law_way : DOk P w K mg base 5 "_law_way" (S_wayT A)) (G__law_walked : DOk P w K mg base 3 "_law_walked" (S_mwalk P w K A)) (M_Machine : KOk3 P w K mg base 6 "Machine" A.Machine "found" "made" "leads" (S_mach P w K A)) (HMc : FMOk P w K mg base 1 A.Machine "carries" (S_mcar P w K A)) (HMr : FMOk P w K mg base 1 A.Machine "rows" (S_mrow P w K A)) (F : Fun K "law" "law" s_law f fd) : FnOk P w K mg base CX0 8 f fd ["_law_script"] (PureSp K (S_law)) := by
  refine okD F sc_law (by walk_at "ln") fun _ _ _ _ _ _ hr ds Q h => ?_
  obtain ⟨ns, rfl, hns, q⟩ := h
  refine ⟨_, (dss_cons (ds_unp (i := 1) (j := 2) rfl sc_law.nd rfl rfl (Or.inl rfl) (Or.inl rfl) (de_call G__law_chosen (hr.mono (by decide)) rfl (da_cons (de_call G__law_cell_at (hr.mono (by decide)) rfl (da_cons (dv 0) (da_cons de_int da_nil))) da_nil)))
  (dss_cons (ds_unp (i := 3) (j := 4) rfl sc_law.nd rfl rfl (Or.inl rfl) (Or.inl rfl) (de_call G__law_span (hr.mono (by decide)) rfl (da_cons (dv 1) (da_cons (dv 2) (da_cons (de_call G__law_cell_at (hr.mono (by decide)) rfl (da_cons (dv 0) (da_cons de_int da_nil))) da_nil)))))
  (dss_cons (ds_set (i := 5) sc_law.nd rfl (Or.inl rfl) (de_make3 M_Machine (hr.mono (by decide)) rfl (da_cons (de_call G__law_way (hr.mono (by decide)) rfl (da_cons (dv 1) (da_cons (dv 2) da_nil))) (da_cons (dv 3) (da_cons (dv 4) da_nil)))))
  (dss_cons (ds_if (dt_not (dt_val (de_call G__law_walked (hr.mono (by decide)) rfl (da_cons (dv 1) (da_cons (dv 2) (da_cons (dv 5) (da_cons (dv 3) (da_cons (dv 4) da_nil)))))))) (dss_one (ds_ret de_bl)) dss_nil)
  (dss_cons (ds_setO (i := 6) sc_law.nd rfl (Or.inl rfl) (df_meth03 hr (dv 5)))
  (dss_cons (ds_setO (i := 7) sc_law.nd rfl (Or.inl rfl) (df_meth03 hr (dv 5)))
  (dss_cons (ds_app 6 de_int)
  (dss_cons (ds_app 7 de_int)
  (dss_one (ds_ret (de_call G__law_walked (hr.mono (by decide)) rfl (da_cons (dv 1) (da_cons (dv 2) (da_cons (dv 5) (da_cons (dv 3) (da_cons (dv 4) da_nil)))))))))))))))), ?_⟩
  refine ⟨_, rfl, ns, _, rfl, by decide, fun z0 => ⟨_, rfl, fun k n h1 hn => ⟨_, _, rfl, ?_⟩⟩⟩
  refine ⟨_, rfl, _, rfl, _, rfl, ns, _, rfl, by decide, fun z1 => ⟨k, n, _, rfl, h1, hn, fun lo hi hs hd => ⟨_, _, rfl, ?_⟩⟩⟩
  refine ⟨_, rfl, _, rfl, k, n, rfl, h1, hn, _, rfl, _, rfl, k, n, lo, hi, rfl, hn, .inr (.inr ⟨h1, hs, fun L R M => ⟨_, _, _, rfl, ?_⟩⟩)⟩
  obtain ⟨s1, s2, s3, s4⟩ := id hs
  have hfew := few M.lnd M.bd
  have lR : R.length = L.length * (hi + 1 - lo).toNat := by rw [← rows_len k n lo hi L, ← M.rws]
  have lR2 : R.length ≤ 50000 := by have := Nat.mul_le_mul hfew (show (hi + 1 - lo).toNat ≤ 19 by omega); omega
  refine ⟨_, rfl, _, rfl, _, rfl, _, rfl, _, rfl, k, n, lo, hi, L, R, rfl, h1, hn, M, hs, hd, _, rfl, ifF rfl ?_⟩
  refine ⟨_, rfl, A.Machine, "found", "made", "leads", _, _, _, _, rfl, ⟨rfl, rfl, rfl⟩, HMc.mono (by decide), k, L, R, rfl, by omega, _, rfl, ?_⟩
  refine ⟨_, rfl, A.Machine, "found", "made", "leads", _, _, _, _, rfl, ⟨rfl, rfl, rfl⟩, HMr.mono (by decide), k, L, R, rfl, by omega, _, rfl, ?_⟩
  refine ⟨_, rfl, by rw [List.length_map]; omega, ?_⟩
  refine ⟨_, rfl, by rw [List.length_map]; omega, ?_⟩
  exact ⟨_, rfl, _, rfl, _, rfl, _, rfl, _, rfl, k, n, lo, hi, L, R, rfl, h1, hn, M, hs, hd, q⟩
end
def BA (n q : Str) (st : Stmt) (ps : List Str) (us : List Value) : Prop := ∀ (kV doc pm : Value) (an : Option Addr) (cdv ct : Value), bindArgs (PySem.W.fnOf n q (defArgs st) (defBody st) (defScope st) .none kV doc pm an cdv ct) ⟨us, []⟩ = pure (ps.zip us)
def BZ (n q : Str) (st : Stmt) (ps : List Str) : Prop := ∀ us : List Value, us.length = ps.length → BA n q st ps us
theorem bz1 {n q : Str} {st : Stmt} {ps : List Str} (hl : ps.length = 1) (h : ∀ u0 : Value, BA n q st ps [u0]) : BZ n q st ps := fun us e => match us, e.trans hl with | [_], _ => h _
theorem bz2 {n q : Str} {st : Stmt} {ps : List Str} (hl : ps.length = 2) (h : ∀ u0 u1 : Value, BA n q st ps [u0, u1]) : BZ n q st ps := fun us e => match us, e.trans hl with | [_, _], _ => h _ _
theorem bz3 {n q : Str} {st : Stmt} {ps : List Str} (hl : ps.length = 3) (h : ∀ u0 u1 u2 : Value, BA n q st ps [u0, u1, u2]) : BZ n q st ps := fun us e => match us, e.trans hl with | [_, _, _], _ => h _ _ _
theorem bz4 {n q : Str} {st : Stmt} {ps : List Str} (hl : ps.length = 4) (h : ∀ u0 u1 u2 u3 : Value, BA n q st ps [u0, u1, u2, u3]) : BZ n q st ps := fun us e => match us, e.trans hl with | [_, _, _, _], _ => h _ _ _ _
theorem bz5 {n q : Str} {st : Stmt} {ps : List Str} (hl : ps.length = 5) (h : ∀ u0 u1 u2 u3 u4 : Value, BA n q st ps [u0, u1, u2, u3, u4]) : BZ n q st ps := fun us e => match us, e.trans hl with | [_, _, _, _, _], _ => h _ _ _ _ _
section
variable (K : PySem.W.Frag)
def FX (n q : Str) (st : Stmt) (f : Addr) : Prop := ∃ oc od kV dc pm an cd ct sl, K.lookup f = some ⟨oc, od, .func (PySem.W.fnOf n q (defArgs st) (defBody st) (defScope st) .none kV dc pm an cd ct), sl⟩ ∧ PySem.W.codeIn K cd q = true ∧ PySem.W.keepIn K (.ref f) = true
def FD (n : Str) (st : Stmt) (f : Addr) : Prop := PySem.W.nsIn K mainGlobals n = some (some (.ref f)) ∧ FX K n n st f
def FE (g n : Str) (st : Stmt) (f : Addr) : Prop := PySem.W.nsIn K mainGlobals g = some (some (.ref f)) ∧ FX K n n st f
def FM (n q : Str) (st : Stmt) (f : Addr) : Prop := PySem.W.isFn K (.ref f) = true ∧ FX K n q st f
def Fi (C : Addr) (n : Str) (f : Addr) : Prop := PySem.W.findIn K (.ref C) n = some (some (.ref f))
def Ki (C D : Addr) (b : Bool) : Prop := PySem.W.kitOne K (.ref C) (.ref D) = some b
def Gc (n : Str) (C : Addr) : Prop := PySem.W.nsIn K mainGlobals n = some (some (.ref C))
def Gs (n y : Str) (t : Tok) : Prop := PySem.W.nsIn K mainGlobals n = some (some (.str y t))
def Zn (n : Str) : Prop := PySem.W.nsIn K mainGlobals n = some none
structure ClR (C : Addr) (x : Str) : Prop where
  cls : Cls K C
  mks : PySem.W.makesIn K C = true
  kc : PySem.W.keepIn K (.ref C) = true
  na : PySem.W.findIn K (.ref C) x = some none
structure IR (C : Addr) : Prop where
  ia : PySem.W.findIn K (.ref C) "__class__" = some (some (.builtin "object.__class__"))
  im : PySem.W.mroIn K C (.type "object") = some true
variable {K} {n q : Str} {st : Stmt} {f : Addr}
theorem FX.mk {oc od kV dc pm an cd ct sl} (l : K.lookup f = some ⟨oc, od, .func (PySem.W.fnOf n q (defArgs st) (defBody st) (defScope st) .none kV dc pm an cd ct), sl⟩) (c : PySem.W.codeIn K cd q = true) (k : PySem.W.keepIn K (.ref f) = true) : FX K n q st f := ⟨_, _, _, _, _, _, _, _, _, l, c, k⟩
theorem FX.get (r : FX K n q st f) (ps : List Str) (h : BZ n q st ps) : ∃ fd, Fun K n q st f fd ∧ Binds K fd ps [] :=
  let ⟨_, _, _, _, _, _, _, _, _, l, c, k⟩ := r; ⟨_, fun_mk l c k, (fun_mk l c k).binds fun a b c d e f us z => h us z a b c d e f⟩
theorem FD.get (r : FD K n st f) {h : Heap} {mg : Str → Option Value} (X : K.In h) (G : h.Ns mainGlobals mg) (ps : List Str) (h : BZ n n st ps) : ∃ fd, mg n = some (.ref f) ∧ Fun K n n st f fd ∧ Binds K fd ps [] :=
  let ⟨fd, F, b⟩ := r.2.get ps h; ⟨fd, PySem.W.mg_of X G r.1, F, b⟩
theorem FE.get {g : Str} (r : FE K g n st f) {h : Heap} {mg : Str → Option Value} (X : K.In h) (G : h.Ns mainGlobals mg) (ps : List Str) (h : BZ n n st ps) : ∃ fd, mg g = some (.ref f) ∧ Fun K n n st f fd ∧ Binds K fd ps [] :=
  let ⟨fd, F, b⟩ := r.2.get ps h; ⟨fd, PySem.W.mg_of X G r.1, F, b⟩
theorem mkr (l : PySem.W.OpenLaw) (w : World) (base : Heap) {mg : Str → Option Value} {C : Addr} {k : Nat} {fd : FuncData} {ps : List Str} {S : DSp} (c : Cls K C) (a : Fi K C n f) (r : FM K n q st f) (F : Fun K n q st f fd) (b : Binds K fd ps []) (o : FnOk l.prog w K mg base CX0 k f fd ps (PureSp K S)) : MOk l.prog w K mg base k C n S := .mk c ⟨_, _, _, ⟨a, r.1, F.kp⟩, b, o⟩
theorem fmkr (l : PySem.W.OpenLaw) (w : World) (base : Heap) {mg : Str → Option Value} {C : Addr} {k : Nat} {fd : FuncData} {ps : List Str} {S : DSp} (c : Cls K C) (a : Fi K C n f) (r : FM K n q st f) (F : Fun K n q st f fd) (b : Binds K fd ps []) (o : FnOk l.prog w K mg base CX0 k f fd ps (FreshSp K S)) : FMOk l.prog w K mg base k C n S := .mk c ⟨_, _, _, ⟨a, r.1, F.kp⟩, b, o⟩
theorem FM.get (r : FM K n q st f) (ps : List Str) (h : BZ n q st ps) : ∃ fd, Fun K n q st f fd ∧ Binds K fd ps [] := r.2.get ps h
end

theorem all_mk {l : PySem.W.OpenLaw} {w : World} {K : PySem.W.Frag} {h : Heap} {mg : Str → Option Value} {fa : Addr} (X : K.In h) (G : h.Ns mainGlobals mg) (hfa : mg "law" = some (.ref fa))
 {C_Plain C_Below C_Balanced C_Growing C_Falling C_Pairs C_Machine C_NoRatio C_NoSpan f1 f2 f3 f4 f5 f6 f7 f8 f9 f10 f11 f12 f13 f14 f15 f16 f17 f18 f19 f20 f21 f22 f23 f24 f25 f26 f27 f28 f29 f30 f31 f32 f33 f34 f35 f36 f37 f38 f39 f40 f41 f42 f43 f44 f45 f46 f47 : Addr}
 (aC_Plain : Gc K "Plain" C_Plain)
 (aC_Below : Gc K "Below" C_Below)
 (aC_Balanced : Gc K "Balanced" C_Balanced)
 (aC_Growing : Gc K "Growing" C_Growing)
 (aC_Falling : Gc K "Falling" C_Falling)
 (aC_Pairs : Gc K "Pairs" C_Pairs)
 (aC_Machine : Gc K "Machine" C_Machine)
 (aC_NoRatio : Gc K "NoRatio" C_NoRatio)
 (aC_NoSpan : Gc K "NoSpan" C_NoSpan)
 (r1 : FD K "_law_chosen" s_law_chosen f1)
 (r2 : FD K "_law_cell_at" s_law_cell_at f2)
 (r3 : FD K "_law_span" s_law_span f3)
 (r4 : FD K "is_whole" s_is_whole f4)
 (r5 : FD K "bounded" s_bounded f5)
 (a6_Plain : Fi K C_Plain "__init__" f6)
 (r6 : FM K "__init__" "Plain.__init__" s_Plain_init f6)
 (a7_Below : Fi K C_Below "__init__" f7)
 (r7 : FM K "__init__" "Below.__init__" s_Below_init f7)
 (a8_Balanced : Fi K C_Balanced "__init__" f8)
 (r8 : FM K "__init__" "Balanced.__init__" s_Balanced_init f8)
 (a9_Pairs : Fi K C_Pairs "__init__" f9)
 (r9 : FM K "__init__" "Pairs.__init__" s_Pairs_init f9)
 (r10 : FD K "_law_way" s_law_way f10)
 (r11 : FD K "_law_is_number" s_law_is_number f11)
 (r12 : FD K "_law_is_figure" s_law_is_figure f12)
 (r13 : FD K "_law_added" s_law_added f13)
 (r14 : FD K "_law_times" s_law_times f14)
 (r15 : FD K "_law_row" s_law_row f15)
 (r16 : FD K "_law_nought" s_law_nought f16)
 (r17 : FD K "_law_found" s_law_found f17)
 (a18_Machine : Fi K C_Machine "carries" f18)
 (r18 : FM K "carries" "Machine.carries" s_Machine_carries f18)
 (a19_Machine : Fi K C_Machine "rows" f19)
 (r19 : FM K "rows" "Machine.rows" s_Machine_rows f19)
 (r20 : FD K "_law_walked" s_law_walked f20)
 (r21 : FD K "held_to_have_one_ratio" s_held_to_have_one_ratio f21)
 (r22 : FD K "farthest_total" s_farthest_total f22)
 (r23 : FD K "held_to_be_a_span" s_held_to_be_a_span f23)
 (r24 : FD K "as_pair" s_as_pair f24)
 (r25 : FD K "added" s_added f25)
 (a26_Plain : Fi K C_Plain "nought" f26)
 (a26_Below : Fi K C_Below "nought" f26)
 (a26_Balanced : Fi K C_Balanced "nought" f26)
 (a26_Growing : Fi K C_Growing "nought" f26)
 (a26_Falling : Fi K C_Falling "nought" f26)
 (r26 : FM K "nought" "Way.nought" s_Way_nought f26)
 (a27_Pairs : Fi K C_Pairs "nought" f27)
 (r27 : FM K "nought" "Pairs.nought" s_Pairs_nought f27)
 (a28_Plain : Fi K C_Plain "low" f28)
 (a28_Below : Fi K C_Below "low" f28)
 (a28_Growing : Fi K C_Growing "low" f28)
 (a28_Falling : Fi K C_Falling "low" f28)
 (a28_Pairs : Fi K C_Pairs "low" f28)
 (r28 : FM K "low" "Way.low" s_Way_low f28)
 (a29_Balanced : Fi K C_Balanced "low" f29)
 (r29 : FM K "low" "Balanced.low" s_Balanced_low f29)
 (a30_Plain : Fi K C_Plain "high" f30)
 (r30 : FM K "high" "Plain.high" s_Plain_high f30)
 (a31_Below : Fi K C_Below "high" f31)
 (r31 : FM K "high" "Below.high" s_Below_high f31)
 (a32_Balanced : Fi K C_Balanced "high" f32)
 (r32 : FM K "high" "Balanced.high" s_Balanced_high f32)
 (a33_Growing : Fi K C_Growing "high" f33)
 (r33 : FM K "high" "Growing.high" s_Growing_high f33)
 (a34_Falling : Fi K C_Falling "high" f34)
 (r34 : FM K "high" "Falling.high" s_Falling_high f34)
 (a35_Pairs : Fi K C_Pairs "high" f35)
 (r35 : FM K "high" "Pairs.high" s_Pairs_high f35)
 (a36_Plain : Fi K C_Plain "ratio" f36)
 (r36 : FM K "ratio" "Plain.ratio" s_Plain_ratio f36)
 (a37_Below : Fi K C_Below "ratio" f37)
 (r37 : FM K "ratio" "Below.ratio" s_Below_ratio f37)
 (a38_Balanced : Fi K C_Balanced "ratio" f38)
 (r38 : FM K "ratio" "Balanced.ratio" s_Balanced_ratio f38)
 (a39_Growing : Fi K C_Growing "ratio" f39)
 (r39 : FM K "ratio" "Growing.ratio" s_Growing_ratio f39)
 (a40_Pairs : Fi K C_Pairs "ratio" f40)
 (r40 : FM K "ratio" "Pairs.ratio" s_Pairs_ratio f40)
 (a41_Plain : Fi K C_Plain "split" f41)
 (a41_Below : Fi K C_Below "split" f41)
 (a41_Balanced : Fi K C_Balanced "split" f41)
 (a41_Growing : Fi K C_Growing "split" f41)
 (r41 : FM K "split" "Way.split" s_Way_split f41)
 (r42 : FD K "multiplied" s_multiplied f42)
 (a43_Pairs : Fi K C_Pairs "split" f43)
 (r43 : FM K "split" "Pairs.split" s_Pairs_split f43)
 (r44 : FD K "carries_and_rows" s_carries_and_rows f44)
 (r45 : FD K "leads_of" s_leads_of f45)
 (a46_Machine : Fi K C_Machine "__init__" f46)
 (r46 : FM K "__init__" "Machine.__init__" s_Machine_init f46)
 (r47 : FD K "law" s_law f47)
 (c_Plain : ClR K C_Plain "base")
 (c_Below : ClR K C_Below "base")
 (c_Balanced : ClR K C_Balanced "half")
 (c_Growing : ClR K C_Growing "first")
 (c_Falling : ClR K C_Falling "most")
 (c_Pairs : ClR K C_Pairs "most")
 (c_Machine : ClR K C_Machine "found")
 (nb_Machine_made : PySem.W.findIn K (.ref C_Machine) "made" = some none)
 (nb_Machine_leads : PySem.W.findIn K (.ref C_Machine) "leads" = some none)
 (i_Plain : IR K C_Plain)
 (ki_Plain_Pairs : Ki K C_Plain C_Pairs false)
 (ki_Plain_Growing : Ki K C_Plain C_Growing false)
 (ki_Plain_Falling : Ki K C_Plain C_Falling false)
 (i_Below : IR K C_Below)
 (ki_Below_Pairs : Ki K C_Below C_Pairs false)
 (ki_Below_Growing : Ki K C_Below C_Growing false)
 (ki_Below_Falling : Ki K C_Below C_Falling false)
 (i_Balanced : IR K C_Balanced)
 (ki_Balanced_Pairs : Ki K C_Balanced C_Pairs false)
 (ki_Balanced_Growing : Ki K C_Balanced C_Growing false)
 (ki_Balanced_Falling : Ki K C_Balanced C_Falling false)
 (i_Growing : IR K C_Growing)
 (ki_Growing_Pairs : Ki K C_Growing C_Pairs false)
 (ki_Growing_Growing : Ki K C_Growing C_Growing true)
 (ki_Growing_Falling : Ki K C_Growing C_Falling false)
 (i_Falling : IR K C_Falling)
 (ki_Falling_Pairs : Ki K C_Falling C_Pairs false)
 (ki_Falling_Growing : Ki K C_Falling C_Growing false)
 (ki_Falling_Falling : Ki K C_Falling C_Falling true)
 (i_Pairs : IR K C_Pairs)
 (ki_Pairs_Pairs : Ki K C_Pairs C_Pairs true)
 (ki_Pairs_Growing : Ki K C_Pairs C_Growing false)
 (ki_Pairs_Falling : Ki K C_Pairs C_Falling false)
 (in_ : PySem.W.specialIn K (.builtin "object.__class__") "__get__" = some (some (.builtin "getset_descriptor.__get__")))
 (it_ : PySem.W.takesIn K (.builtin "object.__class__") = some true)
 (ex_NoRatio : ExcK K C_NoRatio)
 (ix_NoRatio : IsxOk K C_NoRatio)
 (kx_NoRatio_NoRatio : Ki K C_NoRatio C_NoRatio true)
 (kx_NoRatio_NoSpan : Ki K C_NoRatio C_NoSpan false)
 (ex_NoSpan : ExcK K C_NoSpan)
 (ix_NoSpan : IsxOk K C_NoSpan)
 (kx_NoSpan_NoRatio : Ki K C_NoSpan C_NoRatio false)
 (kx_NoSpan_NoSpan : Ki K C_NoSpan C_NoSpan true)
 (z_isinstance : Zn K "isinstance")
 (z_int : Zn K "int")
 (z_bool : Zn K "bool")
 (z_tuple : Zn K "tuple")
 (z_list : Zn K "list")
 (z_len : Zn K "len")
 (z_range : Zn K "range")
 (z_min : Zn K "min") :
 ∃ fd : FuncData, (∀ (s : Shared) (v : Value), BindsTo s fd ⟨[v], []⟩ [("_law_script", v)]) ∧ ∀ base : Heap, K.In base → base.Ns mainGlobals mg → FnOk l.prog w K mg base CX0 8 fa fd ["_law_script"] (PureSp K (S_law)) := by
  have mn {n : Str} (z : Zn K n) := PySem.W.mg_none_of X G z
  have mo {n : Str} {C : Addr} (z : Gc K n C) := PySem.W.mg_of X G z
  let A : Adr := ⟨C_Plain, C_Below, C_Balanced, C_Growing, C_Falling, C_Pairs, C_Machine, C_NoRatio, C_NoSpan⟩
  have T : Txt K mg A := ⟨kitT K, mn z_isinstance, mn z_int, mn z_bool, mn z_tuple, mn z_list, mn z_len, mn z_range, mn z_min, c_Plain.cls, c_Plain.na, c_Below.cls, c_Below.na, c_Balanced.cls, c_Balanced.na, c_Growing.cls, c_Growing.na, c_Falling.cls, c_Falling.na, c_Pairs.cls, c_Pairs.na, c_Machine.cls, c_Machine.na, nb_Machine_made, nb_Machine_leads, mo aC_Pairs, mo aC_Growing, mo aC_Falling, ⟨c_Plain.cls, i_Plain.1, in_, it_, i_Plain.2⟩, ki_Plain_Pairs, ki_Plain_Growing, ki_Plain_Falling, ⟨c_Below.cls, i_Below.1, in_, it_, i_Below.2⟩, ki_Below_Pairs, ki_Below_Growing, ki_Below_Falling, ⟨c_Balanced.cls, i_Balanced.1, in_, it_, i_Balanced.2⟩, ki_Balanced_Pairs, ki_Balanced_Growing, ki_Balanced_Falling, ⟨c_Growing.cls, i_Growing.1, in_, it_, i_Growing.2⟩, ki_Growing_Pairs, ki_Growing_Growing, ki_Growing_Falling, ⟨c_Falling.cls, i_Falling.1, in_, it_, i_Falling.2⟩, ki_Falling_Pairs, ki_Falling_Growing, ki_Falling_Falling, ⟨c_Pairs.cls, i_Pairs.1, in_, it_, i_Pairs.2⟩, ki_Pairs_Pairs, ki_Pairs_Growing, ki_Pairs_Falling, mo aC_NoRatio, mo aC_NoSpan, ex_NoRatio, ix_NoRatio, kx_NoRatio_NoRatio, kx_NoRatio_NoSpan, ex_NoSpan, ix_NoSpan, kx_NoSpan_NoRatio, kx_NoSpan_NoSpan⟩
  obtain ⟨_, m1, F1, b1⟩ := r1.get X G ["_law_cell"] (bz1 rfl fun _ _ _ _ _ _ _ => rfl)
  obtain ⟨_, m2, F2, b2⟩ := r2.get X G ["_law_script", "_law_k"] (bz2 rfl fun _ _ _ _ _ _ _ _ => rfl)
  obtain ⟨_, m3, F3, b3⟩ := r3.get X G ["_law_name", "_law_number", "_law_cell"] (bz3 rfl fun _ _ _ _ _ _ _ _ _ => rfl)
  obtain ⟨_, m4, F4, b4⟩ := r4.get X G ["value"] (bz1 rfl fun _ _ _ _ _ _ _ => rfl)
  obtain ⟨_, m5, F5, b5⟩ := r5.get X G ["number", "least", "most"] (bz3 rfl fun _ _ _ _ _ _ _ _ _ => rfl)
  obtain ⟨_, F6, b6⟩ := r6.get ["self", "base"] (bz2 rfl fun _ _ _ _ _ _ _ _ => rfl)
  obtain ⟨_, F7, b7⟩ := r7.get ["self", "base"] (bz2 rfl fun _ _ _ _ _ _ _ _ => rfl)
  obtain ⟨_, F8, b8⟩ := r8.get ["self", "half"] (bz2 rfl fun _ _ _ _ _ _ _ _ => rfl)
  obtain ⟨_, F9, b9⟩ := r9.get ["self", "most"] (bz2 rfl fun _ _ _ _ _ _ _ _ => rfl)
  obtain ⟨_, m10, F10, b10⟩ := r10.get X G ["_law_name", "_law_number"] (bz2 rfl fun _ _ _ _ _ _ _ _ => rfl)
  obtain ⟨_, m11, F11, b11⟩ := r11.get X G ["_law_name", "_law_thing"] (bz2 rfl fun _ _ _ _ _ _ _ _ => rfl)
  obtain ⟨_, m12, F12, b12⟩ := r12.get X G ["_law_name", "_law_number", "_law_figure"] (bz3 rfl fun _ _ _ _ _ _ _ _ _ => rfl)
  obtain ⟨_, m13, F13, b13⟩ := r13.get X G ["_law_one", "_law_other"] (bz2 rfl fun _ _ _ _ _ _ _ _ => rfl)
  obtain ⟨_, m14, F14, b14⟩ := r14.get X G ["_law_name", "_law_number", "_law_carry"] (bz3 rfl fun _ _ _ _ _ _ _ _ _ => rfl)
  obtain ⟨_, m15, F15, b15⟩ := r15.get X G ["_law_name", "_law_number", "_law_row_here", "_law_carry", "_law_total"] (bz5 rfl fun _ _ _ _ _ _ _ _ _ _ _ => rfl)
  obtain ⟨_, m16, F16, b16⟩ := r16.get X G ["_law_name"] (bz1 rfl fun _ _ _ _ _ _ _ => rfl)
  obtain ⟨_, m17, F17, b17⟩ := r17.get X G ["_law_name", "_law_rows"] (bz2 rfl fun _ _ _ _ _ _ _ _ => rfl)
  obtain ⟨_, F18, b18⟩ := r18.get ["self"] (bz1 rfl fun _ _ _ _ _ _ _ => rfl)
  obtain ⟨_, F19, b19⟩ := r19.get ["self"] (bz1 rfl fun _ _ _ _ _ _ _ => rfl)
  obtain ⟨_, m20, F20, b20⟩ := r20.get X G ["_law_name", "_law_number", "_law_machine", "_law_low", "_law_high"] (bz5 rfl fun _ _ _ _ _ _ _ _ _ _ _ => rfl)
  obtain ⟨_, m21, F21, b21⟩ := r21.get X G ["way"] (bz1 rfl fun _ _ _ _ _ _ _ => rfl)
  obtain ⟨_, m22, F22, b22⟩ := r22.get X G ["way"] (bz1 rfl fun _ _ _ _ _ _ _ => rfl)
  obtain ⟨_, m23, F23, b23⟩ := r23.get X G ["way", "low", "high"] (bz3 rfl fun _ _ _ _ _ _ _ _ _ => rfl)
  obtain ⟨_, m24, F24, b24⟩ := r24.get X G ["number"] (bz1 rfl fun _ _ _ _ _ _ _ => rfl)
  obtain ⟨_, m25, F25, b25⟩ := r25.get X G ["one", "other"] (bz2 rfl fun _ _ _ _ _ _ _ _ => rfl)
  obtain ⟨_, F26, b26⟩ := r26.get ["self"] (bz1 rfl fun _ _ _ _ _ _ _ => rfl)
  obtain ⟨_, F27, b27⟩ := r27.get ["self"] (bz1 rfl fun _ _ _ _ _ _ _ => rfl)
  obtain ⟨_, F28, b28⟩ := r28.get ["self", "place"] (bz2 rfl fun _ _ _ _ _ _ _ _ => rfl)
  obtain ⟨_, F29, b29⟩ := r29.get ["self", "place"] (bz2 rfl fun _ _ _ _ _ _ _ _ => rfl)
  obtain ⟨_, F30, b30⟩ := r30.get ["self", "place"] (bz2 rfl fun _ _ _ _ _ _ _ _ => rfl)
  obtain ⟨_, F31, b31⟩ := r31.get ["self", "place"] (bz2 rfl fun _ _ _ _ _ _ _ _ => rfl)
  obtain ⟨_, F32, b32⟩ := r32.get ["self", "place"] (bz2 rfl fun _ _ _ _ _ _ _ _ => rfl)
  obtain ⟨_, F33, b33⟩ := r33.get ["self", "place"] (bz2 rfl fun _ _ _ _ _ _ _ _ => rfl)
  obtain ⟨_, F34, b34⟩ := r34.get ["self", "place"] (bz2 rfl fun _ _ _ _ _ _ _ _ => rfl)
  obtain ⟨_, F35, b35⟩ := r35.get ["self", "place"] (bz2 rfl fun _ _ _ _ _ _ _ _ => rfl)
  obtain ⟨_, F36, b36⟩ := r36.get ["self", "place"] (bz2 rfl fun _ _ _ _ _ _ _ _ => rfl)
  obtain ⟨_, F37, b37⟩ := r37.get ["self", "place"] (bz2 rfl fun _ _ _ _ _ _ _ _ => rfl)
  obtain ⟨_, F38, b38⟩ := r38.get ["self", "place"] (bz2 rfl fun _ _ _ _ _ _ _ _ => rfl)
  obtain ⟨_, F39, b39⟩ := r39.get ["self", "place"] (bz2 rfl fun _ _ _ _ _ _ _ _ => rfl)
  obtain ⟨_, F40, b40⟩ := r40.get ["self", "place"] (bz2 rfl fun _ _ _ _ _ _ _ _ => rfl)
  obtain ⟨_, F41, b41⟩ := r41.get ["self", "total", "place"] (bz3 rfl fun _ _ _ _ _ _ _ _ _ => rfl)
  obtain ⟨_, m42, F42, b42⟩ := r42.get X G ["one", "other"] (bz2 rfl fun _ _ _ _ _ _ _ _ => rfl)
  obtain ⟨_, F43, b43⟩ := r43.get ["self", "total", "place"] (bz3 rfl fun _ _ _ _ _ _ _ _ _ => rfl)
  obtain ⟨_, m44, F44, b44⟩ := r44.get X G ["way", "low", "high"] (bz3 rfl fun _ _ _ _ _ _ _ _ _ => rfl)
  obtain ⟨_, m45, F45, b45⟩ := r45.get X G ["rows"] (bz1 rfl fun _ _ _ _ _ _ _ => rfl)
  obtain ⟨_, F46, b46⟩ := r46.get ["self", "way", "low", "high"] (bz4 rfl fun _ _ _ _ _ _ _ _ _ _ => rfl)
  obtain ⟨a47, _, _, kV, dc, pm, an, cd, ct, _, l47, c47, k47⟩ := r47
  cases hfa.symm.trans (PySem.W.mg_of X G a47)
  have F47 := fun_mk (st := s_law) l47 c47 k47
  refine ⟨PySem.W.fnOf "law" "law" (defArgs s_law) (defBody s_law) (defScope s_law) .none kV dc pm an cd ct, fun s v => .of_eq rfl, fun base _ _ => ?_⟩
  have G__law_chosen := DOk.mk' F1 m1 b1 (ok_law_chosen (P := l.prog) (w := w) (base := base) T F1)
  have G__law_cell_at := DOk.mk' F2 m2 b2 (ok_law_cell_at (P := l.prog) (w := w) (base := base) T F2)
  have G__law_span := DOk.mk' F3 m3 b3 (ok_law_span (P := l.prog) (w := w) (base := base) T F3)
  have G_is_whole := DOk.mk' F4 m4 b4 (ok_is_whole (P := l.prog) (w := w) (base := base) T F4)
  have G_bounded := DOk.mk' F5 m5 b5 (ok_bounded T G_is_whole F5)
  have M_Plain : KOk l.prog w K mg base 3 "Plain" A.Plain "base" (Kd.ok .plain) := ⟨_, _, _, mo aC_Plain, ⟨c_Plain.mks, a6_Plain, r6.1, c_Plain.kc⟩, b6, ok_Plain_init T G_bounded F6⟩
  have M_Below : KOk l.prog w K mg base 3 "Below" A.Below "base" (Kd.ok .below) := ⟨_, _, _, mo aC_Below, ⟨c_Below.mks, a7_Below, r7.1, c_Below.kc⟩, b7, ok_Below_init T G_bounded F7⟩
  have M_Balanced : KOk l.prog w K mg base 3 "Balanced" A.Balanced "half" (Kd.ok .balanced) := ⟨_, _, _, mo aC_Balanced, ⟨c_Balanced.mks, a8_Balanced, r8.1, c_Balanced.kc⟩, b8, ok_Balanced_init T G_bounded F8⟩
  have M_Pairs : KOk l.prog w K mg base 3 "Pairs" A.Pairs "most" (Kd.ok .pairs) := ⟨_, _, _, mo aC_Pairs, ⟨c_Pairs.mks, a9_Pairs, r9.1, c_Pairs.kc⟩, b9, ok_Pairs_init T G_bounded F9⟩
  have G__law_way := DOk.mk' F10 m10 b10 (ok_law_way T M_Plain M_Below M_Balanced M_Pairs F10)
  have G__law_is_number := DOk.mk' F11 m11 b11 (ok_law_is_number (P := l.prog) (w := w) (base := base) T F11)
  have G__law_is_figure := DOk.mk' F12 m12 b12 (ok_law_is_figure (P := l.prog) (w := w) (base := base) T F12)
  have G__law_added := DOk.mk' F13 m13 b13 (ok_law_added (P := l.prog) (w := w) (base := base) T F13)
  have G__law_times := DOk.mk' F14 m14 b14 (ok_law_times (P := l.prog) (w := w) (base := base) T F14)
  have G__law_row := DOk.mk' F15 m15 b15 (ok_law_row T G__law_is_number G__law_is_figure G__law_added G__law_times F15)
  have G__law_nought := DOk.mk' F16 m16 b16 (ok_law_nought (P := l.prog) (w := w) (base := base) T F16)
  have G__law_found := DOk.mk' F17 m17 b17 (ok_law_found T G__law_nought F17)
  have N_Machine_carries := fmkr l w base T.cl_Machine a18_Machine r18 F18 b18 (ok_Machine_carries T F18)
  have HMc := N_Machine_carries
  have N_Machine_rows := fmkr l w base T.cl_Machine a19_Machine r19 F19 b19 (ok_Machine_rows T F19)
  have HMr := N_Machine_rows
  have G__law_walked := DOk.mk' F20 m20 b20 (ok_law_walked T G__law_row G__law_found HMc HMr F20)
  have G_held_to_have_one_ratio := DOkX.mk' F21 m21 b21 (ok_held_to_have_one_ratio (P := l.prog) (w := w) (base := base) T F21)
  have G_farthest_total := DOk.mk' F22 m22 b22 (ok_farthest_total (P := l.prog) (w := w) (base := base) T F22)
  have G_held_to_be_a_span := DOkX.mk' F23 m23 b23 (ok_held_to_be_a_span T G_farthest_total F23)
  have G_as_pair := DOk.mk' F24 m24 b24 (ok_as_pair T G_is_whole F24)
  have G_added := DOk.mk' F25 m25 b25 (ok_added T G_is_whole G_as_pair F25)
  have N_Plain_nought := mkr l w base T.cl_Plain a26_Plain r26 F26 b26 (ok_Way_nought T F26)
  have N_Below_nought := mkr l w base T.cl_Below a26_Below r26 F26 b26 (ok_Way_nought T F26)
  have N_Balanced_nought := mkr l w base T.cl_Balanced a26_Balanced r26 F26 b26 (ok_Way_nought T F26)
  have N_Growing_nought := mkr l w base T.cl_Growing a26_Growing r26 F26 b26 (ok_Way_nought T F26)
  have N_Falling_nought := mkr l w base T.cl_Falling a26_Falling r26 F26 b26 (ok_Way_nought T F26)
  have N_Pairs_nought := mkr l w base T.cl_Pairs a27_Pairs r27 F27 b27 (ok_Pairs_nought T F27)
  have HNo : ∀ k : Kd, MOk l.prog w K mg base 1 (A.at k) "nought" (S_no k) := fun k => match k with
    | .plain => N_Plain_nought | .below => N_Below_nought | .balanced => N_Balanced_nought | .growing => N_Growing_nought | .falling => N_Falling_nought | .pairs => N_Pairs_nought
  have N_Plain_low := mkr l w base T.cl_Plain a28_Plain r28 F28 b28 (ok_Way_low T F28)
  have N_Below_low := mkr l w base T.cl_Below a28_Below r28 F28 b28 (ok_Way_low T F28)
  have N_Growing_low := mkr l w base T.cl_Growing a28_Growing r28 F28 b28 (ok_Way_low T F28)
  have N_Falling_low := mkr l w base T.cl_Falling a28_Falling r28 F28 b28 (ok_Way_low T F28)
  have N_Pairs_low := mkr l w base T.cl_Pairs a28_Pairs r28 F28 b28 (ok_Way_low T F28)
  have N_Balanced_low := mkr l w base T.cl_Balanced a29_Balanced r29 F29 b29 (ok_Balanced_low T F29)
  have N_Plain_high := mkr l w base T.cl_Plain a30_Plain r30 F30 b30 (ok_Plain_high T F30)
  have N_Below_high := mkr l w base T.cl_Below a31_Below r31 F31 b31 (ok_Below_high T F31)
  have N_Balanced_high := mkr l w base T.cl_Balanced a32_Balanced r32 F32 b32 (ok_Balanced_high T F32)
  have N_Growing_high := mkr l w base T.cl_Growing a33_Growing r33 F33 b33 (ok_Growing_high T F33)
  have N_Falling_high := mkr l w base T.cl_Falling a34_Falling r34 F34 b34 (ok_Falling_high T F34)
  have N_Pairs_high := mkr l w base T.cl_Pairs a35_Pairs r35 F35 b35 (ok_Pairs_high T F35)
  have HLo : ∀ k : Kd, MOk l.prog w K mg base 1 (A.at k) "low" (S_get A k (k.low)) ∧ MOk l.prog w K mg base 1 (A.at k) "high" (S_get A k (k.high)) := fun k => match k with
    | .plain => ⟨N_Plain_low.imp fun ds Q ⟨n, p, e, _, q⟩ => ⟨_, _, e, q⟩, N_Plain_high⟩
    | .below => ⟨N_Below_low.imp fun ds Q ⟨n, p, e, _, q⟩ => ⟨_, _, e, q⟩, N_Below_high⟩
    | .balanced => ⟨N_Balanced_low, N_Balanced_high⟩
    | .growing => ⟨N_Growing_low.imp fun ds Q ⟨n, p, e, _, q⟩ => ⟨_, _, e, q⟩, N_Growing_high⟩
    | .falling => ⟨N_Falling_low.imp fun ds Q ⟨n, p, e, _, q⟩ => ⟨_, _, e, q⟩, N_Falling_high⟩
    | .pairs => ⟨N_Pairs_low.imp fun ds Q ⟨n, p, e, _, q⟩ => ⟨_, _, e, q⟩, N_Pairs_high⟩
  have N_Plain_ratio := mkr l w base T.cl_Plain a36_Plain r36 F36 b36 (ok_Plain_ratio T F36)
  have N_Below_ratio := mkr l w base T.cl_Below a37_Below r37 F37 b37 (ok_Below_ratio T F37)
  have N_Balanced_ratio := mkr l w base T.cl_Balanced a38_Balanced r38 F38 b38 (ok_Balanced_ratio T F38)
  have N_Growing_ratio := mkr l w base T.cl_Growing a39_Growing r39 F39 b39 (ok_Growing_ratio T F39)
  have N_Pairs_ratio := mkr l w base T.cl_Pairs a40_Pairs r40 F40 b40 (ok_Pairs_ratio T F40)
  have HR : ∀ k : Kd, k.five = true → MOk l.prog w K mg base 1 (A.at k) "ratio" (S_getN A k (k.ratN)) := fun k hk => match k, hk with
    | .plain, _ => N_Plain_ratio
    | .below, _ => N_Below_ratio
    | .balanced, _ => N_Balanced_ratio
    | .growing, _ => N_Growing_ratio
    | .pairs, _ => N_Pairs_ratio
  have N_Plain_split := mkr l w base T.cl_Plain a41_Plain r41 F41 b41 (ok_Way_split T HLo HR F41)
  have N_Below_split := mkr l w base T.cl_Below a41_Below r41 F41 b41 (ok_Way_split T HLo HR F41)
  have N_Balanced_split := mkr l w base T.cl_Balanced a41_Balanced r41 F41 b41 (ok_Way_split T HLo HR F41)
  have N_Growing_split := mkr l w base T.cl_Growing a41_Growing r41 F41 b41 (ok_Way_split T HLo HR F41)
  have G_multiplied := DOk.mk' F42 m42 b42 (ok_multiplied T G_is_whole G_as_pair F42)
  have N_Pairs_split := mkr l w base T.cl_Pairs a43_Pairs r43 F43 b43 (ok_Pairs_split T G_as_pair G_multiplied F43)
  have HSp : ∀ k : Kd, k.five = true → MOk l.prog w K mg base 4 (A.at k) "split" (S_split A k) := fun k hk => match k, hk with
    | .plain, _ => (N_Plain_split.imp fun ds Q ⟨n, m, j, e, ⟨a, em⟩, h1, h2, q⟩ => ⟨.plain, n, a, j, by rw [e, em]; rfl, rfl, h1, h2, by rw [em] at q; exact q⟩).mono (by decide)
    | .below, _ => (N_Below_split.imp fun ds Q ⟨n, m, j, e, ⟨a, em⟩, h1, h2, q⟩ => ⟨.below, n, a, j, by rw [e, em]; rfl, rfl, h1, h2, by rw [em] at q; exact q⟩).mono (by decide)
    | .balanced, _ => (N_Balanced_split.imp fun ds Q ⟨n, m, j, e, ⟨a, em⟩, h1, h2, q⟩ => ⟨.balanced, n, a, j, by rw [e, em]; rfl, rfl, h1, h2, by rw [em] at q; exact q⟩).mono (by decide)
    | .growing, _ => (N_Growing_split.imp fun ds Q ⟨n, m, j, e, ⟨a, em⟩, h1, h2, q⟩ => ⟨.growing, n, a, j, by rw [e, em]; rfl, rfl, h1, h2, by rw [em] at q; exact q⟩).mono (by decide)
    | .pairs, _ => (N_Pairs_split.imp fun ds Q ⟨n, m, j, e, _, h1, h2, q⟩ => ⟨n, _, m, j, e, numD_of m, h1, q⟩).mono (by decide)
  have G_carries_and_rows := TOk.mk' F44 m44 b44 (ok_carries_and_rows T G_added HNo HSp F44)
  have G_leads_of := DOk.mk' F45 m45 b45 (ok_leads_of (P := l.prog) (w := w) (base := base) T F45)
  have M_Machine : KOk3 l.prog w K mg base 6 "Machine" A.Machine "found" "made" "leads" (S_mach l.prog w K A) := ⟨_, _, _, mo aC_Machine, ⟨c_Machine.mks, a46_Machine, r46.1, c_Machine.kc⟩, b46, ok_Machine_init T G_held_to_have_one_ratio G_held_to_be_a_span G_carries_and_rows G_leads_of F46⟩
  exact ok_law T G__law_chosen G__law_cell_at G__law_span G__law_way G__law_walked M_Machine HMc HMr F47
theorem walk {l : PySem.W.OpenLaw} {q : Program} {loose : List Str} {XP : (Str → Option Value) → Heap → Prop} {YP : World → Heap → Prop} {d : DefRec} {K : Params → PySem.W.Frag} (hn : l.most = some 63) (hdf : d.params.defaults = [])
    (hY : ∀ (w : World) (h : Heap), YP w h → (K w.params).In h)
    (F : ∀ (w : World) (mg : Str → Option Value) (fa : Addr) (h : Heap), (K w.params).In h → h.Ns mainGlobals mg → mg d.name = some (.ref fa) →
      ∃ fd : FuncData, (∀ (s : Shared) (u : Value), BindsTo s fd ⟨[u], []⟩ [("_law_script", u)]) ∧ ∀ base : Heap, (K w.params).In base → base.Ns mainGlobals mg → FnOk l.prog w (K w.params) mg base CX0 8 fa fd ["_law_script"] (PureSp (K w.params) (S_law))) :
    PySem.W.WalkO q loose XP YP l.row.toRowW d [] (fun f vs => PySem.call f vs) :=
  L2.walk_of (n := 63) (k := 8) (x := "_law_script") (CX := fun _ => CX0) (sp := fun w => PureSp (K w.params) (S_law)) hn (by decide) hdf ⟨rfl, by decide, by decide⟩ hY F (fun w H a ns hl _ hS => ⟨⟨H, H, Same.refl H⟩, [.scr ns], fun d => d = .bl true, rfl, allIs_cons.mpr ⟨_, _, rfl, is_scr.mpr ⟨a, rfl, hS⟩, allIs_nil.mpr rfl⟩, ⟨ns, rfl, hl, rfl⟩, fun d v W' _ i e => by subst e; exact is_bl.mp i⟩) fun _ _ _ _ _ z => z
end My
local macro_rules | `(tactic| walk_at "fx") => `(tactic| (refine' My.FX.mk ?l ?c ?k; (case l => k_is); (case c => k_is); (case k => k_is)))
local macro_rules | `(tactic| walk_at "kk") => `(tactic| first | k_is | kit_is | kts_exm | (delta L2.ExcK; k_exc) | (delta My.Fi; k_is) | (delta My.Zn; k_is) | (delta My.Gs; k_is) | (delta My.Gc; k_is) | (delta My.Ki; kit_is) | (delta My.FD; refine ⟨?a, ?b⟩; (case a => k_is); (case b => walk_at "fx")) | (delta My.FE; refine ⟨?a, ?b⟩; (case a => k_is); (case b => walk_at "fx")) | (delta My.FM; refine ⟨?a, ?b⟩; (case a => k_is); (case b => walk_at "fx")) | (refine ⟨⟨?_, ?_, ?_, ?_⟩, ?_, ?_, ?_⟩ <;> k_is) | (refine ⟨?_, ?_, ?_, ?_, ?_, ?_, ?_⟩ <;> k_is) | (refine ⟨?_, ?_⟩ <;> k_is))
open PySem PySem.W PyProof.Rows
set_option maxRecDepth 100000 in
set_option maxHeartbeats 0 in
theorem PySem.Challenge.cw_oddbases_k46_machine_rows_holds : PySem.Challenge.rw_oddbases_k46_machine_rows.Holds := by
  w_on; o_law
  refine holds_open (q := My.h_view_39) (loose := []) (Xt := (fun s => xlAt My.h_view_39 [] s && recOk (RowW.records (OpenRow.toRowW PySem.Challenge.rw_oddbases_k46_machine_rows.row)) s)) (XP := XL My.h_view_39 []) (Yf := Hook.obs (kHook My.h_heap_39 My.myAs My.myE)) (Ya := Hook.val (kHook My.h_heap_39 My.myAs My.myE)) (YP := Hook.says (kHook My.h_heap_39 My.myAs My.myE)) (N := 9508) My.left (Hook.of _) (Hook.keeps _) (fun s e => xl_of s (Bool.and_eq_true_iff.mp e).1) XL.keeps (by rfl) (by rfl) (by rfl) (fun s e => recFacts_of (Bool.and_eq_true_iff.mp e).2) (by rfl) (by first | assumption | decide +kernel) (by decide +kernel) ⟨rfl, rfl, rfl, rfl, rfl, by decide +kernel⟩ ?hw ?hc
  case hw => w_witness2
  k_fill
  refine My.walk (l := PySem.Challenge.rw_oddbases_k46_machine_rows) rfl rfl (fun w h Y => PySem.W.kIn_of Y) ?F
  case F =>
    intro w mg fa h KX G hmg
    refine' My.all_mk KX G hmg ?aC_Plain ?aC_Below ?aC_Balanced ?aC_Growing ?aC_Falling ?aC_Pairs ?aC_Machine ?aC_NoRatio ?aC_NoSpan ?r1 ?r2 ?r3 ?r4 ?r5 ?a6_Plain ?r6 ?a7_Below ?r7 ?a8_Balanced ?r8 ?a9_Pairs ?r9 ?r10 ?r11 ?r12 ?r13 ?r14 ?r15 ?r16 ?r17 ?a18_Machine ?r18 ?a19_Machine ?r19 ?r20 ?r21 ?r22 ?r23 ?r24 ?r25 ?a26_Plain ?a26_Below ?a26_Balanced ?a26_Growing ?a26_Falling ?r26 ?a27_Pairs ?r27 ?a28_Plain ?a28_Below ?a28_Growing ?a28_Falling ?a28_Pairs ?r28 ?a29_Balanced ?r29 ?a30_Plain ?r30 ?a31_Below ?r31 ?a32_Balanced ?r32 ?a33_Growing ?r33 ?a34_Falling ?r34 ?a35_Pairs ?r35 ?a36_Plain ?r36 ?a37_Below ?r37 ?a38_Balanced ?r38 ?a39_Growing ?r39 ?a40_Pairs ?r40 ?a41_Plain ?a41_Below ?a41_Balanced ?a41_Growing ?r41 ?r42 ?a43_Pairs ?r43 ?r44 ?r45 ?a46_Machine ?r46 ?r47 ?c_Plain ?c_Below ?c_Balanced ?c_Growing ?c_Falling ?c_Pairs ?c_Machine ?nb_Machine_made ?nb_Machine_leads ?i_Plain ?ki_Plain_Pairs ?ki_Plain_Growing ?ki_Plain_Falling ?i_Below ?ki_Below_Pairs ?ki_Below_Growing ?ki_Below_Falling ?i_Balanced ?ki_Balanced_Pairs ?ki_Balanced_Growing ?ki_Balanced_Falling ?i_Growing ?ki_Growing_Pairs ?ki_Growing_Growing ?ki_Growing_Falling ?i_Falling ?ki_Falling_Pairs ?ki_Falling_Growing ?ki_Falling_Falling ?i_Pairs ?ki_Pairs_Pairs ?ki_Pairs_Growing ?ki_Pairs_Falling ?in_ ?it_ ?ex_NoRatio ?ix_NoRatio ?kx_NoRatio_NoRatio ?kx_NoRatio_NoSpan ?ex_NoSpan ?ix_NoSpan ?kx_NoSpan_NoRatio ?kx_NoSpan_NoSpan ?z_isinstance ?z_int ?z_bool ?z_tuple ?z_list ?z_len ?z_range ?z_min
    case aC_Plain | aC_Below | aC_Balanced | aC_Growing | aC_Falling | aC_Pairs | aC_Machine | aC_NoRatio | aC_NoSpan | r1 | r2 | r3 | r4 | r5 | a6_Plain | r6 | a7_Below | r7 | a8_Balanced | r8 | a9_Pairs | r9 | r10 | r11 | r12 | r13 | r14 | r15 | r16 | r17 | a18_Machine | r18 | a19_Machine | r19 | r20 | r21 | r22 | r23 | r24 | r25 | a26_Plain | a26_Below | a26_Balanced | a26_Growing | a26_Falling | r26 | a27_Pairs | r27 | a28_Plain | a28_Below | a28_Growing | a28_Falling | a28_Pairs | r28 | a29_Balanced | r29 | a30_Plain | r30 | a31_Below | r31 | a32_Balanced | r32 | a33_Growing | r33 | a34_Falling | r34 | a35_Pairs | r35 | a36_Plain | r36 | a37_Below | r37 | a38_Balanced | r38 | a39_Growing | r39 | a40_Pairs | r40 | a41_Plain | a41_Below | a41_Balanced | a41_Growing | r41 | r42 | a43_Pairs | r43 | r44 | r45 | a46_Machine | r46 | r47 | c_Plain | c_Below | c_Balanced | c_Growing | c_Falling | c_Pairs | c_Machine | nb_Machine_made | nb_Machine_leads | i_Plain | ki_Plain_Pairs | ki_Plain_Growing | ki_Plain_Falling | i_Below | ki_Below_Pairs | ki_Below_Growing | ki_Below_Falling | i_Balanced | ki_Balanced_Pairs | ki_Balanced_Growing | ki_Balanced_Falling | i_Growing | ki_Growing_Pairs | ki_Growing_Growing | ki_Growing_Falling | i_Falling | ki_Falling_Pairs | ki_Falling_Growing | ki_Falling_Falling | i_Pairs | ki_Pairs_Pairs | ki_Pairs_Growing | ki_Pairs_Falling | in_ | it_ | ex_NoRatio | ix_NoRatio | kx_NoRatio_NoRatio | kx_NoRatio_NoSpan | ex_NoSpan | ix_NoSpan | kx_NoSpan_NoRatio | kx_NoSpan_NoSpan | z_isinstance | z_int | z_bool | z_tuple | z_list | z_len | z_range | z_min => walk_at "kk"
