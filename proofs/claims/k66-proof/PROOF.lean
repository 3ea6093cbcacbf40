import PyProof.Rows.All
import Wide.All
import OpenK.AllK
import Wide.FinOn
import Lean
import PyProof.EqAt
import PyProof.EqKinds
import PyProof.TupleCall
import PyProof.NeKinds
import PySem.Challenge.RW_oddbases_k66_whole_falling_sums
set_option Elab.async false
set_option linter.all false
set_option maxRecDepth 100000
namespace L2
open PySem PySem.Spec PyProof.Rows

abbrev Key := Sum Int Str
def keyIs : Key → Value → Bool
  | .inl k, v => Value.isInt k v
  | .inr x, v => Value.isStrOf x v
def keyH (w : World) : Key → Int
  | .inl k => hashInt k
  | .inr x => hashStr w x
theorem keyIs_shape : ∀ {k : Key} {v : Value}, keyIs k v = true → (∃ i t, k = Sum.inl i ∧ v = Value.int i t) ∨ (∃ x t, k = Sum.inr x ∧ v = Value.str x t)
  | .inl i, v, h => by
    obtain ⟨t, e⟩ := Value.isInt_shape (k := i) (v := v) h
    exact .inl ⟨i, t, rfl, e⟩
  | .inr x, v, h => by
    obtain ⟨t, e⟩ := Value.isStrOf_shape (x := x) (v := v) h
    exact .inr ⟨x, t, rfl, e⟩
theorem key_ll (a b : Int) : decide ((Sum.inl a : Key) = Sum.inl b) = (a == b) := by
  by_cases e : a = b
  · subst e; simp
  · have h : ¬ (Sum.inl a : Key) = Sum.inl b := fun q => e (Sum.inl.inj q)
    rw [decide_eq_false h]
    exact (beq_eq_false_iff_ne.mpr e).symm
theorem key_rr (a b : Str) : decide ((Sum.inr a : Key) = Sum.inr b) = decide (a = b) := by
  by_cases e : a = b
  · subst e; simp
  · have h : ¬ (Sum.inr a : Key) = Sum.inr b := fun q => e (Sum.inr.inj q)
    rw [decide_eq_false h, decide_eq_false e]
theorem key_lr (a : Int) (b : Str) : decide ((Sum.inl a : Key) = Sum.inr b) = false := decide_eq_false (fun q => nomatch q)
theorem key_rl (a : Str) (b : Int) : decide ((Sum.inr a : Key) = Sum.inl b) = false := decide_eq_false (fun q => nomatch q)

def mixKind (prog : Program) (w : World) : PySem.KeyKind prog w Key where
  is := keyIs
  hash := keyH w
  inj := fun v a b ha hb => by
    rcases keyIs_shape ha with ⟨i, t, rfl, rfl⟩ | ⟨x, t, rfl, rfl⟩
    · rcases keyIs_shape hb with ⟨j, u, rfl, e⟩ | ⟨y, u, rfl, e⟩
      · injection e with e1 _; rw [e1]
      · exact nomatch e
    · rcases keyIs_shape hb with ⟨j, u, rfl, e⟩ | ⟨y, u, rfl, e⟩
      · exact nomatch e
      · injection e with e1 _; rw [e1]
  byValue := fun k v h => by
    rcases keyIs_shape h with ⟨i, t, rfl, rfl⟩ | ⟨x, t, rfl, rfl⟩ <;> rfl
  pyHash := fun hv h => by
    rcases keyIs_shape hv with ⟨i, t, rfl, rfl⟩ | ⟨x, t, rfl, rfl⟩
    · exact wpAny_pyHash_int h
    · exact wpAny_pyHash_str h
  eqBool := fun hu hv h => by
    rcases keyIs_shape hu with ⟨i, t, rfl, rfl⟩ | ⟨x, t, rfl, rfl⟩
    · rcases keyIs_shape hv with ⟨j, u, rfl, rfl⟩ | ⟨y, u, rfl, rfl⟩
      · rw [key_ll] at h; exact wpAny_eqBool_int h
      · rw [key_lr] at h; exact SeqAt.EqAt.int_str i t y u _ _ _ _ h
    · rcases keyIs_shape hv with ⟨j, u, rfl, rfl⟩ | ⟨y, u, rfl, rfl⟩
      · rw [key_rl] at h; exact SeqAt.EqAt.str_int x t j u _ _ _ _ h
      · rw [key_rr] at h; exact wpAny_eqBool_str h
  «strs» := fun k x t v h => by
    rcases keyIs_shape h with ⟨i, u, rfl, e⟩ | ⟨y, u, rfl, e⟩
    · exact nomatch e
    · injection e with e1 _
      subst e1
      cases v <;> rfl

end L2

namespace L2
open PySem PySem.Spec PyProof.Rows

inductive V where
  | non | bl (b : Bool) | int (i : Int) | str (x : Str) | byt (b : Array UInt8) | flt (b : UInt64) | ref (a : Addr) | ty (n : String)
  deriving DecidableEq

def RelV : V → Value → Prop
  | .non, u => u = Value.none
  | .bl b, u => u = Value.bool b
  | .int i, u => ∃ t, u = Value.int i t
  | .str x, u => ∃ t, u = Value.str x t
  | .byt b, u => ∃ t, u = Value.bytes b t
  | .flt b, u => ∃ t, u = Value.float b t
  | .ref a, u => u = Value.ref a
  | .ty n, u => u = Value.type n

abbrev Vals : List V → List Value → Prop := Paired RelV
theorem Vals.length {xs : List V} {us : List Value} (r : Vals xs us) : xs.length = us.length := Paired.length r
theorem Vals.get : ∀ {xs : List V} {us : List Value} {i : Nat} {x : V}, Vals xs us → xs[i]? = some x → ∃ u, us[i]? = some u ∧ RelV x u
  | _, _, _, _, .nil, e => by simp at e
  | _, _, 0, _, .cons r _, e => by simp at e; subst e; exact ⟨_, rfl, r⟩
  | _, _, i + 1, x, .cons _ t, e => by
    obtain ⟨u, h1, h2⟩ := Vals.get (i := i) (x := x) t (by simpa using e)
    exact ⟨u, by simpa using h1, h2⟩
theorem Vals.set {x : V} {u : Value} (r : RelV x u) : ∀ {xs : List V} {us : List Value} (i : Nat), Vals xs us → Vals (xs.set i x) (us.set i u)
  | _, _, _, .nil => .nil
  | _, _, 0, .cons _ t => .cons r t
  | _, _, i + 1, .cons q t => .cons q (Vals.set r i t)
theorem Vals.append : ∀ {xs ys : List V} {us ws : List Value}, Vals xs us → Vals ys ws → Vals (xs ++ ys) (us ++ ws)
  | _, _, _, _, .nil, s => s
  | _, _, _, _, .cons r t, s => .cons r (Vals.append t s)
theorem Vals.take : ∀ {xs : List V} {us : List Value} (n : Nat), Vals xs us → Vals (xs.take n) (us.take n)
  | _, _, 0, _ => .nil
  | _, _, _ + 1, .nil => .nil
  | _, _, n + 1, .cons r t => .cons r (Vals.take n t)
theorem Vals.drop : ∀ {xs : List V} {us : List Value} (n : Nat), Vals xs us → Vals (xs.drop n) (us.drop n)
  | _, _, 0, r => r
  | _, _, _ + 1, .nil => .nil
  | _, _, n + 1, .cons _ t => Vals.drop n t
theorem Vals.none_of : ∀ {xs : List V} {us : List Value} {i : Nat}, Vals xs us → xs[i]? = none → us[i]? = none := fun {xs us i} r e => by
  have h1 := r.length
  have h2 : xs.length ≤ i := List.getElem?_eq_none_iff.mp e
  exact List.getElem?_eq_none_iff.mpr (by omega)

def RelO : Option V → Option Value → Prop
  | some v, some u => RelV v u
  | none, none => True
  | _, _ => False
def KV {κ : Type} : List (κ × V) → List (κ × Value) → Prop := Paired fun (p : κ × V) (q : κ × Value) => p.1 = q.1 ∧ RelV p.2 q.2

def kV : Key → V
  | .inl i => .int i
  | .inr x => .str x

inductive HO where
  /-- a list -/
  | lst (xs : List V)
  /-- a tuple (never changes) -/
  | tup (xs : List V)
  /-- a dict whose keys are ints and texts; one whose keys are tuples of ints and texts (the empty one is both) -/
  | dK (kvs : List (Key × V)) | dT (kvs : List (List Key × V))
  /-- a set of ints: its members, its size -/
  | set (S : Int → Bool) (n : Nat)
  /-- an instance of the class at C, its dict at dx, its attributes -/
  | ins (C dx : Addr) (fs : List (Str × V))
  /-- the dict of the instance at x -/
  | own (x : Addr)
  /-- the dict of an exception -/
  | xd (fs : List (Str × V))
  /-- a bound method, f of x -/
  | met (f x : Addr)
  /-- a range object lo, lo + 1, .. below hi -/
  | rng (lo hi : Int)
  /-- a thing that is known to the object (the script; a dict while a loop walks it): read, never written while it is so -/
  | frz (o : Obj) (u : HO)
  /-- a code object's table -/
  | tbl (ps : Array Value)
  /-- any other thing, by what is true of its one object (a def of one's own: SetO a S n := HO.ext fun h => ..) -/
  | ext (φ : Heap → Prop)

abbrev Hp := Addr → Option HO
def upd (H : Hp) (a : Addr) (o : HO) : Hp := fun b => if b = a then some o else H b
theorem upd_same {H : Hp} {a : Addr} {o : HO} : upd H a o a = some o := by unfold upd; rw [if_pos rfl]
theorem upd_ne {H : Hp} {a b : Addr} {o : HO} (h : b ≠ a) : upd H a o b = H b := by unfold upd; rw [if_neg h]
theorem ne_of_none {H : Hp} {a b : Addr} {o : HO} (h : H a = some o) (h' : H b = none) : a ≠ b := by
  intro e; subst e; rw [h] at h'; cases h'

section
variable (P : Program) (w : World)
def ObjOk (H : Hp) (h : Heap) (a : Addr) : HO → Prop
  | .lst xs => xs.length ≤ sizeLine ∧ ∃ (its : List Value) (n : Nat), Vals xs its ∧ h.get? a = some { cls := .type "list", data := .seq its.toArray n }
  | .tup xs => xs.length ≤ sizeLine ∧ ∃ its : List Value, Vals xs its ∧ IsTup h a its.toArray
  | .dK kvs => kvs.length ≤ sizeLine ∧ (a == sysModules) = false ∧ ∃ vs, KV kvs vs ∧ h.DictOf (mixKind P w) a vs
  | .dT kvs => kvs.length ≤ sizeLine ∧ (a == sysModules) = false ∧ ∃ xs : List (List Key × Addr × Value),
      Paired (fun (p : List Key × V) (q : List Key × Addr × Value) => p.1 = q.1 ∧ H q.2.1 = some (.tup (p.1.map kV)) ∧ RelV p.2 q.2.2) kvs xs ∧
      ∃ o es ep, h.get? a = some o ∧ o.ExactDict ∧ o.data = .dict es ep ∧ es.toList = xs.map (entryOfKey (tupleKind (mixKind P w))) ∧ (xs.map (·.1)).Nodup
  | .set S n => h.SetOf (intKind P w) a S n
  | .ins C dx fs => H dx = some (.own a) ∧ fs.length ≤ 1000 ∧ dx ≠ a ∧ h.get? a = some (PySem.W.instObj C dx) ∧
      ∃ mA, h.Ns1 dx mA ∧ (∀ f, RelO (fs.lookup f) (mA f)) ∧ PySem.Within mA (fs.map (·.1))
  | .own _ => ∃ o, h.get? a = some o
  | .xd fs => ∃ mA, h.Ns1 a mA ∧ ∀ f, RelO (fs.lookup f) (mA f)
  | .rng lo hi => ∃ t u v, h.get? a = some { cls := .type "range", data := .fields #[.int lo t, .int hi u, .int 1 v] }
  | .frz o u => h.get? a = some o ∧ ObjOk H h a u
  | .tbl ps => h.get? a = some { cls := .none, data := .fields ps }
  | .met f x => h.get? a = some (PySem.W.methodObj (.ref f) (.ref x))
  | .ext φ => φ h ∧ (∃ o, h.get? a = some o) ∧ ∀ h1 h2 : Heap, φ h1 → (∀ o, h1.get? a = some o → h2.get? a = some o) → φ h2
def HOk (H : Hp) (h : Heap) : Prop := ∀ a o, H a = some o → ObjOk P w H h a o
end

section
variable {P : Program} {w : World} {H H' : Hp} {h h' : Heap} {a : Addr} {o : HO}
theorem ObjOk.lt (x : ObjOk P w H h a o) : a < h.objs.size := by
  cases o with
  | lst xs => obtain ⟨_, _, _, _, e⟩ := x; exact Heap.lt_size e
  | tup xs => obtain ⟨_, _, _, p⟩ := x; exact p.lt
  | dK kvs => obtain ⟨_, _, _, _, o, _, _, e, _⟩ := x; exact Heap.lt_size e
  | dT kvs => obtain ⟨_, _, _, _, o, _, _, e, _⟩ := x; exact Heap.lt_size e
  | set S n => obtain ⟨o, _, _, _, e, _⟩ := x; exact Heap.lt_size e
  | ins C dx fs => obtain ⟨_, _, _, e, _⟩ := x; exact Heap.lt_size e
  | own y => obtain ⟨_, e⟩ := x; exact Heap.lt_size e
  | xd fs => obtain ⟨_, ⟨_, _, _, e, _⟩, _⟩ := x; exact Heap.lt_size e
  | rng lo hi => obtain ⟨_, _, _, e⟩ := x; exact Heap.lt_size e
  | frz ob u => obtain ⟨e, _⟩ := x; exact Heap.lt_size e
  | tbl ps => exact Heap.lt_size (show h.get? a = some _ from x)
  | met f y => exact Heap.lt_size (show h.get? a = some _ from x)
  | ext φ => obtain ⟨_, ⟨_, e⟩, _⟩ := x; exact Heap.lt_size e
theorem Paired.mapP {α β : Type} {F G : α → β → Prop} : ∀ {l₁ : List α} {l₂ : List β}, Paired F l₁ l₂ → (∀ a b, F a b → G a b) → Paired G l₁ l₂
  | _, _, .nil, _ => .nil
  | _, _, .cons r t, f => .cons (f _ _ r) (Paired.mapP t f)
theorem ObjOk.stay (x : ObjOk P w H h a o) (k : ∀ b u, (b = a ∨ H b = some (.own a)) → h.get? b = some u → h'.get? b = some u)
    (ho : ∀ b, H b = some (.own a) → H' b = some (.own a)) (ht : ∀ b xs, H b = some (.tup xs) → H' b = some (.tup xs)) : ObjOk P w H' h' a o := by
  induction o with
  | lst xs => obtain ⟨z, its, n, r, e⟩ := x; exact ⟨z, its, n, r, k _ _ (.inl rfl) e⟩
  | tup xs => obtain ⟨z, its, r, ob, e, c⟩ := x; exact ⟨z, its, r, ob, k _ _ (.inl rfl) e, c⟩
  | dK kvs => obtain ⟨z, y, vs, r, ob, es, ep, e, c⟩ := x; exact ⟨z, y, vs, r, ob, es, ep, k _ _ (.inl rfl) e, c⟩
  | dT kvs =>
    obtain ⟨z, y, xs, r, ob, es, ep, e, c⟩ := x
    exact ⟨z, y, xs, Paired.mapP r fun p q z => ⟨z.1, ht _ _ z.2.1, z.2.2⟩, ob, es, ep, k _ _ (.inl rfl) e, c⟩
  | set S n => obtain ⟨ob, es, ep, t, e, c⟩ := x; exact ⟨ob, es, ep, t, k _ _ (.inl rfl) e, c⟩
  | ins C dx fs =>
    obtain ⟨d, z, ne, e, mA, ⟨od, es, ep, e2, c⟩, r⟩ := x
    exact ⟨ho _ d, z, ne, k _ _ (.inl rfl) e, mA, ⟨od, es, ep, k _ _ (.inr d) e2, c⟩, r⟩
  | own y => obtain ⟨ob, e⟩ := x; exact ⟨ob, k _ _ (.inl rfl) e⟩
  | xd fs => obtain ⟨mA, ⟨od, es, ep, e, c⟩, r⟩ := x; exact ⟨mA, ⟨od, es, ep, k _ _ (.inl rfl) e, c⟩, r⟩
  | rng lo hi => obtain ⟨t, u, v, e⟩ := x; exact ⟨t, u, v, k _ _ (.inl rfl) e⟩
  | frz ob u ih => obtain ⟨e, q⟩ := x; exact ⟨k _ _ (.inl rfl) e, ih q⟩
  | tbl ps =>
    have e : h.get? a = some { cls := .none, data := .fields ps } := x
    show h'.get? a = some { cls := .none, data := .fields ps }
    exact k a _ (.inl rfl) e
  | met f y =>
    have e : h.get? a = some (PySem.W.methodObj (.ref f) (.ref y)) := x
    show h'.get? a = some (PySem.W.methodObj (.ref f) (.ref y))
    exact k a _ (.inl rfl) e
  | ext φ => obtain ⟨p, ⟨o, e⟩, st⟩ := x; exact ⟨st _ _ p fun o q => k _ _ (.inl rfl) q, ⟨o, k _ _ (.inl rfl) e⟩, st⟩
theorem HOk.lt (x : HOk P w H h) (e : H a = some o) : a < h.objs.size := (x a o e).lt
theorem HOk.fresh (x : HOk P w H h) (e : h.objs.size ≤ a) : H a = none := by
  cases q : H a with
  | none => rfl
  | some u => exact absurd (Nat.lt_of_lt_of_le (x.lt q) e) (Nat.lt_irrefl _)
theorem HOk.kept (x : HOk P w H h) (k : ∀ b u, h.get? b = some u → h'.get? b = some u) : HOk P w H h' := fun a o e =>
  (x a o e).stay (fun b u _ q => k b u q) (fun _ q => q) fun _ _ q => q
theorem HOk.laid (x : HOk P w H h) (k : ∀ b u, h.get? b = some u → h'.get? b = some u) (hp : h.objs.size ≤ a) (new : ObjOk P w (upd H a o) h' a o) : HOk P w (upd H a o) h' := fun b u e => by
  have hn := x.fresh hp
  by_cases hb : b = a
  · subst hb; rw [upd_same] at e; cases e; exact new
  · rw [upd_ne hb] at e
    exact (x b u e).stay (fun c v _ q => k c v q) (fun c q => by rw [upd_ne (ne_of_none q hn)]; exact q) fun c xs q => by rw [upd_ne (ne_of_none q hn)]; exact q
end

def Rd (H : Hp) (a : Addr) (u : HO) : Prop := H a = some u ∨ ∃ o, H a = some (.frz o u)
theorem Rd.of {H : Hp} {a : Addr} {u : HO} (h : H a = some u) : Rd H a u := .inl h
theorem Rd.ok {P : Program} {w : World} {H : Hp} {h : Heap} {a : Addr} {u : HO} (r : Rd H a u) (x : HOk P w H h) : ObjOk P w H h a u := by
  rcases r with r | ⟨o, r⟩
  · exact x a u r
  · obtain ⟨_, q⟩ := x a _ r
    exact q
def Mut : Option HO → Prop
  | some (.lst _) => True
  | some (.dK _) => True
  | some (.dT _) => True
  | some (.set _ _) => True
  | some (.ins _ _ _) => True
  | some (.ext _) => True
  | _ => False
section
variable {P : Program} {w : World} {H : Hp} {h h' : Heap} {x e : Addr} {o' : HO}
theorem HOk.write (ok : HOk P w H h) (mu : Mut (H x)) (he : e = x ∨ H e = some (.own x)) (k : ∀ b u, b ≠ e → h.get? b = some u → h'.get? b = some u) (heo : ∃ u, h'.get? e = some u)
    (new : ObjOk P w (upd H x o') h' x o') : HOk P w (upd H x o') h' := fun b u q => by
  have nown : ∀ c y, H c = some (.own y) → c ≠ x := fun c y r z => by subst z; rw [r] at mu; exact mu
  have ntup : ∀ c xs, H c = some (.tup xs) → c ≠ x := fun c xs r z => by subst z; rw [r] at mu; exact mu
  by_cases hb : b = x
  · subst hb; rw [upd_same] at q; cases q; exact new
  · rw [upd_ne hb] at q
    by_cases hbe : b = e
    · have q' : H b = some (.own x) := by
        rcases he with z | z
        · exact absurd (hbe.trans z) hb
        · rw [hbe]; exact z
      rw [q] at q'; cases q'
      obtain ⟨v, hv⟩ := heo
      exact ⟨v, by rw [hbe]; exact hv⟩
    · refine (ok b u q).stay (fun c v hc r => k c v ?_ r) (fun c r => by rw [upd_ne (nown c b r)]; exact r) fun c xs r => by rw [upd_ne (ntup c xs r)]; exact r
      rcases hc with rfl | hc
      · exact hbe
      · rintro rfl
        rcases he with z | z
        · exact nown c b hc z
        · rw [hc] at z; cases z; exact hb rfl
end

structure Un (fs ex : List Addr) (H H' : Hp) (h h' : Heap) : Prop where
  keep : ∀ b o, h.get? b = some o → H b = none → b ∉ fs → b ∉ ex → h'.get? b = some o
  slot : ∀ b o, h.get? b = some o → H b = none → b ∈ fs → b ∉ ex → ∃ sl, h'.get? b = some { o with slots := sl }
  free : ∀ b o, h.get? b = some o → H b = none → b ∉ ex → H' b = none
  there : ∀ b o, h.get? b = some o → b ∉ ex → ∃ o', h'.get? b = some o'
  tups : ∀ b xs, H b = some (.tup xs) → H' b = some (.tup xs)
  frzs : ∀ b o u, H b = some (.frz o u) → H' b = some (.frz o u)
  tbls : ∀ b ps, H b = some (.tbl ps) → ∃ more, H' b = some (.tbl (ps ++ more))
section
variable {fs fs' ex ex' : List Addr} {H H1 H2 : Hp} {h h1 h2 h' : Heap} {a x e : Addr} {o : HO}
theorem Un.any (u : Un fs ex H H1 h h1) {b : Addr} {ob : Obj} (q : h.get? b = some ob) (n : H b = none) (hx : b ∉ ex) : ∃ sl, h1.get? b = some { ob with slots := sl } := by
  by_cases hb : b ∈ fs
  · exact u.slot b ob q n hb hx
  · exact ⟨ob.slots, u.keep b ob q n hb hx⟩
theorem Un.trans (a : Un fs ex H H1 h h1) (b : Un fs ex H1 H2 h1 h2) : Un fs ex H H2 h h2 where
  keep := fun c ob q n hc hx => b.keep c ob (a.keep c ob q n hc hx) (a.free c ob q n hx) hc hx
  slot := fun c ob q n hc hx => by
    obtain ⟨sl, e1⟩ := a.slot c ob q n hc hx
    obtain ⟨sl', e2⟩ := b.slot c _ e1 (a.free c ob q n hx) hc hx
    exact ⟨sl', e2⟩
  free := fun c ob q n hx => by
    obtain ⟨o', e1⟩ := a.there c ob q hx
    exact b.free c o' e1 (a.free c ob q n hx) hx
  there := fun c ob q hx => by
    obtain ⟨o', e1⟩ := a.there c ob q hx
    exact b.there c o' e1 hx
  tups := fun c xs q => b.tups c xs (a.tups c xs q)
  frzs := fun c ob xs q => b.frzs c ob xs (a.frzs c ob xs q)
  tbls := fun c ps q => by
    obtain ⟨m1, e1⟩ := a.tbls c ps q
    obtain ⟨m2, e2⟩ := b.tbls c _ e1
    exact ⟨m1 ++ m2, by rw [e2, Array.append_assoc]⟩
theorem Un.kept (k : ∀ b u, h.get? b = some u → h'.get? b = some u) : Un fs ex H H h h' :=
  ⟨fun b ob q _ _ _ => k b ob q, fun b ob q _ _ _ => ⟨ob.slots, k b ob q⟩, fun _ _ _ n _ => n, fun b ob q _ => ⟨ob, k b ob q⟩, fun _ _ q => q, fun _ _ _ q => q, fun _ ps q => ⟨#[], by rw [q]; simp⟩⟩
theorem Un.refl : Un fs ex H H h h := Un.kept fun _ _ q => q
theorem Un.laid (k : ∀ b u, h.get? b = some u → h'.get? b = some u) (hp : h.objs.size ≤ a) (hn : H a = none) : Un fs ex H (upd H a o) h h' where
  keep := fun b u q _ _ _ => k b u q
  slot := fun b u q _ _ _ => ⟨u.slots, k b u q⟩
  free := fun b u q n _ => by rw [upd_ne (Nat.ne_of_lt (Nat.lt_of_lt_of_le (Heap.lt_size q) hp))]; exact n
  there := fun b u q _ => ⟨u, k b u q⟩
  tups := fun b xs q => by rw [upd_ne (ne_of_none q hn)]; exact q
  frzs := fun b u xs q => by rw [upd_ne (ne_of_none q hn)]; exact q
  tbls := fun b ps q => ⟨#[], by rw [upd_ne (ne_of_none q hn), q]; simp⟩
theorem Un.write (mu : Mut (H x)) (he : e = x ∨ H e = some (.own x)) (k : ∀ b u, b ≠ e → h.get? b = some u → h'.get? b = some u) (heo : ∃ u, h'.get? e = some u) : Un fs ex H (upd H x o) h h' := by
  have hx : ∀ b, H b = none → b ≠ x := fun b n z => by subst z; rw [n] at mu; exact mu
  have hb : ∀ b, H b = none → b ≠ e := fun b n z => by
    subst z
    rcases he with r | r
    · exact hx b n r
    · rw [n] at r; cases r
  have hm : ∀ b u, H b = some u → ¬ Mut (some u) → b ≠ x := fun b u q nm z => by subst z; rw [q] at mu; exact nm mu
  refine ⟨fun b u q n _ _ => k b u (hb b n) q, fun b u q n _ _ => ⟨u.slots, k b u (hb b n) q⟩, fun b u q n _ => by rw [upd_ne (hx b n)]; exact n, fun b u q _ => ?_,
    fun b xs q => by rw [upd_ne (hm b _ q fun z => z)]; exact q, fun b u xs q => by rw [upd_ne (hm b _ q fun z => z)]; exact q, fun b ps q => ⟨#[], by rw [upd_ne (hm b _ q fun z => z), q]; simp⟩⟩
  by_cases hbe : b = e
  · subst hbe; exact heo
  · exact ⟨u, k b u hbe q⟩
theorem Un.mono (u : Un fs ex H H1 h h1) (hs : ∀ b ∈ fs, b ∈ fs') (hx : ∀ b ∈ ex, b ∈ ex') : Un fs' ex' H H1 h h1 :=
  ⟨fun b ob q n hb he => u.keep b ob q n (fun z => hb (hs b z)) fun z => he (hx b z), fun _ _ q n _ he => u.any q n fun z => he (hx _ z), fun b ob q n he => u.free b ob q n fun z => he (hx b z), fun b ob q he => u.there b ob q fun z => he (hx b z), u.tups, u.frzs, u.tbls⟩
end

def trk (h : Heap) (H : Hp) : List Addr := (List.range h.objs.size).filter fun a => (H a).isSome
def hidT (h : Heap) (H : Hp) : Heap := PySem.W.hideAll h (trk h H)
theorem hidT_size (h : Heap) (H : Hp) : (hidT h H).objs.size = h.objs.size := PySem.W.hideAll_size _ _
theorem hidT_get {h : Heap} {H : Hp} {b : Addr} {o : Obj} (e : h.get? b = some o) (n : H b = none) : (hidT h H).get? b = some o :=
  PySem.W.hideAll_get _ e fun hm => by
    have q : (H b).isSome = true := (List.mem_filter.mp hm).2
    rw [n] at q; simp at q
theorem of_hidT {h : Heap} {H : Hp} {b : Addr} {o : Obj} (e : (hidT h H).get? b = some o) : h.get? b = some o ∧ H b = none := by
  have e' : h.get? b = some o := PySem.W.of_hideAll (trk h H) e
  refine ⟨e', ?_⟩
  cases q : H b with
  | none => rfl
  | some x =>
    have hm : b ∈ trk h H := List.mem_filter.mpr ⟨List.mem_range.mpr (Heap.lt_size e'), by simp [q]⟩
    have z : (hidT h H).get? b = none := PySem.W.hideAll_none (trk h H) hm
    rw [z] at e; cases e

def allNews (g h : Heap) (L : Addr) : List (Addr × Obj) := (List.range h.objs.size).filterMap fun a => if a = L ∨ (g.get? a).isSome = true then none else (h.get? a).map fun o => (a, o)
def rest (g h : Heap) (L d : Addr) : List (Addr × Obj) := (allNews g h L).filter fun p => decide (p.1 ≠ d)
end L2

namespace L2
open PySem PySem.Spec PyProof.Rows

structure Mod (K : PySem.W.Frag) (mg : Str → Option Value) (base : Heap) : Prop where
  kin : K.In base
  glob : base.Ns mainGlobals mg
  blt : ∃ mb, base.Ns builtinsNs mb ∧ ∀ x : Str, x ≠ "__name__" → mb x = bootBuiltins x
  nolimit : base.NoLimit

structure Cx where
  prog : Program
  w : World
  K : PySem.W.Frag
  mg : Str → Option Value
  base : Heap
  A : Around
  N : List Str
  s₀ : Shared
  H₀ : Hp
  env : Env
  outer : List Env
  stack : List Env
  ex : List Addr
  fn : Str → Bool
  calm : Bool
  pn : List (Addr × Obj)
  xe : Value → Shared → Prop
def frs (l : List Env) : List Addr := l.filterMap (·.frame)
abbrev Cx.fs (X : Cx) : List Addr := frs X.outer

def Vis (sc : Scope) (x : Str) : Prop := sc.names.lookup x = some .local ∨ sc.names.lookup x = some .cell ∨ sc.names.lookup x = some .free
def Loc (sc : Scope) (x : Str) : Prop := sc.names.lookup x = some .local ∨ sc.names.lookup x = some .cell
def Look (env : Env) (h : Heap) (m : Str → Option Value) (x : Str) (u : Value) : Prop :=
  (env.kindOf x = some .local ∧ m x = some u) ∨ ((env.kindOf x = some .cell ∨ env.kindOf x = some .free) ∧ ∃ c, env.cells.lookup x = some c ∧ h.IsCell c (some u))

structure Cx.Ok (X : Cx) : Prop where
  mod : Mod X.K X.mg X.base
  kind : X.env.scope.kind = .function
  glob : X.env.globals = mainGlobals
  blt : X.env.builtins = builtinsNs
  above : X.s₀.heap.objs.size ≤ X.env.locals
  inj : ∀ x y c, X.env.cells.lookup x = some c → X.env.cells.lookup y = some c → x = y
  has : ∀ x, (X.env.kindOf x = some .cell ∨ X.env.kindOf x = some .free) → ∃ c, X.env.cells.lookup x = some c
  cab : ∀ x c, X.fn x = true → X.env.cells.lookup x = some c → X.s₀.heap.objs.size ≤ c
  hd : X.calm = true → X.A.handled = none
  frames : X.A.frames = some X.stack
  stk : X.stack = X.outer ∨ (X.stack = X.env :: X.outer ∧ X.env.frame = some X.env.locals)
  exf : ∀ b ∈ X.ex, b ≠ X.env.locals ∧ ∀ x c, X.env.cells.lookup x = some c → c ≠ b
  bs : ∀ b o, X.base.get? b = some o → X.s₀.heap.get? b = some o ∧ X.H₀ b = none
  bsz : X.base.objs.size ≤ X.s₀.heap.objs.size
  noex : ∀ b o, X.base.get? b = some o → b ∉ X.ex
  exfs : ∀ b ∈ X.ex, b ∉ X.fs
  funs : X.s₀.heap.FunFrames X.base X.outer
  frf : ∀ b ∈ X.fs, X.H₀ b = none

structure Inv (X : Cx) (pins : List (Addr × Obj)) (σ : List (Option V)) (H : Hp) (s : Shared) : Prop where
  ok : X.Ok
  os : s.os = X.s₀.os
  bare : AllBare s.gens
  base : Un X.fs X.ex X.H₀ H X.s₀.heap s.heap
  loc : ∃ m, s.heap.Ns X.env.locals m ∧ ∀ (i : Nat) (x : Str) (v : V), X.N[i]? = some x → σ[i]? = some (some v) → Vis X.env.scope x → ∃ u, RelV v u ∧ Look X.env s.heap m x u
  cell : ∀ x c, X.env.cells.lookup x = some c → ∃ v, s.heap.IsCell c v
  free : H X.env.locals = none
  freeC : ∀ x c, X.env.cells.lookup x = some c → H c = none
  pin : ∀ p ∈ X.pn ++ pins, s.heap.get? p.1 = some p.2 ∧ H p.1 = none ∧ p.1 ≠ X.env.locals ∧ p.1 ∉ X.fs ∧ ∀ v, p.2.data ≠ .cell v
  hok : HOk X.prog X.w H s.heap
  len : σ.length = X.N.length

section
variable {X : Cx} {pins : List (Addr × Obj)} {σ : List (Option V)} {H H' : Hp} {s : Shared} {h' : Heap}

theorem Cx.Ok.nofr (ok : X.Ok) {b : Addr} {o : Obj} (e : X.base.get? b = some o) : b ∉ X.fs := fun hb => by
  have := (ok.funs.mem hb).1
  rw [e] at this; cases this
theorem Inv.bs (I : Inv X pins σ H s) : ∀ b o, X.base.get? b = some o → s.heap.get? b = some o ∧ H b = none := fun b o e =>
  ⟨I.base.keep b o (I.ok.bs b o e).1 (I.ok.bs b o e).2 (I.ok.nofr e) (I.ok.noex b o e), I.base.free b o (I.ok.bs b o e).1 (I.ok.bs b o e).2 (I.ok.noex b o e)⟩
theorem Inv.bk (I : Inv X pins σ H s) : ∀ b o, X.base.get? b = some o → s.heap.get? b = some o := fun b o e => (I.bs b o e).1
theorem Inv.mod (I : Inv X pins σ H s) : Mod X.K X.mg X.base := I.ok.mod
theorem Inv.kIn (I : Inv X pins σ H s) : X.K.In s.heap := I.ok.mod.kin.keeps I.bk
theorem Inv.nolimit (I : Inv X pins σ H s) : s.heap.NoLimit := I.ok.mod.nolimit.keeps I.bk
theorem Inv.fr (I : Inv X pins σ H s) : ∃ m, Fr X.base X.env.locals s.heap m :=
  let ⟨m, hn, _⟩ := I.loc
  ⟨m, hn, I.bk, Nat.le_trans I.ok.bsz I.ok.above⟩
theorem Inv.lt (I : Inv X pins σ H s) : X.env.locals < s.heap.objs.size := let ⟨_, hn, _⟩ := I.loc; hn.lt
theorem Inv.sz (I : Inv X pins σ H s) : X.s₀.heap.objs.size ≤ s.heap.objs.size := Nat.le_trans I.ok.above (Nat.le_of_lt I.lt)
theorem Inv.nofs (I : Inv X pins σ H s) {a : Addr} (h : s.heap.objs.size ≤ a) : a ∉ X.fs := fun hb => by
  obtain ⟨_, o, ho, _⟩ := I.ok.funs.mem hb
  exact absurd (Nat.lt_of_lt_of_le (Heap.lt_size ho) (Nat.le_trans I.sz h)) (Nat.lt_irrefl _)
theorem Inv.cne (I : Inv X pins σ H s) : ∀ x c, X.env.cells.lookup x = some c → c ≠ X.env.locals := fun x c e z => by
  obtain ⟨v, o, ho, hd⟩ := I.cell x c e
  obtain ⟨m, ⟨o', es, ep, ho', hd', _⟩, _⟩ := I.loc
  rw [z, ho'] at ho; cases ho; rw [hd'] at hd; cases hd
theorem Inv.funs (I : Inv X pins σ H s) : s.heap.FunFrames X.base X.outer := by
  have all : ∀ (l : List Env), (∀ b ∈ frs l, b ∈ X.fs) → X.s₀.heap.FunFrames X.base l → s.heap.FunFrames X.base l := by
    intro l
    induction l with
    | nil => intro _ _; trivial
    | cons env r ih =>
      intro hs hl
      obtain ⟨hk, ⟨L, o, hf, hn, ho, hd⟩, hr⟩ := hl
      have hL : L ∈ X.fs := hs L (by unfold frs; rw [List.filterMap_cons, hf]; exact List.mem_cons_self)
      obtain ⟨sl, e⟩ := I.base.slot L o ho (I.ok.frf L hL) hL fun z => I.ok.exfs L z hL
      exact ⟨hk, ⟨L, _, hf, hn, e, hd⟩, ih (fun b hb => hs b (by unfold frs; rw [List.filterMap_cons, hf]; exact List.mem_cons_of_mem _ hb)) hr⟩
  exact all X.outer (fun _ hb => hb) I.ok.funs

theorem Inv.stack (I : Inv X pins σ H s) : s.heap.FunFrames X.base X.stack := by
  rcases I.ok.stk with e | ⟨e, hf⟩
  · rw [e]; exact I.funs
  · rw [e]
    obtain ⟨m, hn, _⟩ := I.loc
    refine .cons (by rw [I.ok.kind]; decide) hf hn ?_ I.funs
    exact Heap.get?_none_of_le (Nat.le_trans I.ok.bsz I.ok.above)
theorem Inv.stkSub (I : Inv X pins σ H s) : ∀ b ∈ frs X.stack, b ∈ X.env.locals :: X.fs := fun b hb => by
  rcases I.ok.stk with e | ⟨e, hf⟩
  · rw [e] at hb; exact List.mem_cons_of_mem _ hb
  · rw [e] at hb
    unfold frs at hb
    rw [List.filterMap_cons, hf] at hb
    exact hb
theorem Inv.stkFree (I : Inv X pins σ H s) : ∀ b ∈ frs X.stack, H b = none := fun b hb => by
  rcases List.mem_cons.mp (I.stkSub b hb) with e | hb
  · rw [e]; exact I.free
  · obtain ⟨_, o, ho, _⟩ := I.ok.funs.mem hb
    exact I.base.free b o ho (I.ok.frf b hb) fun z => I.ok.exfs b z hb

theorem Inv.step {g' : Array GenState} {t' : Nat} {d' : Drawn} {ch : List Addr} (I : Inv X pins σ H s)
    (hch : ∀ b ∈ ch, (b ∈ X.ex ∨ X.s₀.heap.objs.size ≤ b) ∧ b ≠ X.env.locals ∧ (∀ x c, X.env.cells.lookup x = some c → c ≠ b) ∧ ∀ p ∈ X.pn ++ pins, p.1 ≠ b)
    (keep : ∀ b o, b ≠ X.env.locals → b ∉ X.fs → b ∉ ch → s.heap.get? b = some o → H b = none → h'.get? b = some o)
    (slot : ∀ b o, b ≠ X.env.locals → b ∈ X.fs → b ∉ ch → s.heap.get? b = some o → H b = none → ∃ sl, h'.get? b = some { o with slots := sl }) (free : ∀ b o, b ∉ ch → s.heap.get? b = some o → H b = none → H' b = none)
    (there : ∀ b o, b ∉ ch → s.heap.get? b = some o → ∃ o', h'.get? b = some o')
    (tups : ∀ b xs, H b = some (.tup xs) → H' b = some (.tup xs)) (frzs : ∀ b o u, H b = some (.frz o u) → H' b = some (.frz o u)) (tbls : ∀ b ps, H b = some (.tbl ps) → ∃ more, H' b = some (.tbl (ps ++ more)))
    (ns : ∀ m, s.heap.Ns X.env.locals m → h'.Ns X.env.locals m) (hok : HOk X.prog X.w H' h') (hg : AllBare g') :
    Inv X pins σ H' { s with heap := h', gens := g', drawn := d', toks := t' } := by
  have neL : ∀ b o, X.s₀.heap.get? b = some o → b ≠ X.env.locals := fun b o e => Nat.ne_of_lt (Nat.lt_of_lt_of_le (Heap.lt_size e) I.ok.above)
  have neC : ∀ b o, X.s₀.heap.get? b = some o → b ∉ X.ex → b ∉ ch := fun b o e hx hb => by
    rcases (hch b hb).1 with z | z
    · exact hx z
    · exact absurd (Nat.lt_of_lt_of_le (Heap.lt_size e) z) (Nat.lt_irrefl _)
  have cellK : ∀ x c, X.env.cells.lookup x = some c → ∀ v, s.heap.IsCell c v → h'.IsCell c v := fun x c e v ⟨o, ho, hd⟩ => by
    have nch : c ∉ ch := fun z => (hch c z).2.2.1 x c e rfl
    by_cases hc : c ∈ X.fs
    · obtain ⟨sl, q⟩ := slot c o (I.cne x c e) hc nch ho (I.freeC x c e)
      exact ⟨_, q, hd⟩
    · exact ⟨o, keep c o (I.cne x c e) hc nch ho (I.freeC x c e), hd⟩
  refine ⟨I.ok, I.os, hg, ⟨fun b o e n hb hx => ?_, fun b o e n hb hx => ?_, fun b o e n hx => ?_, fun b o e hx => ?_, fun b xs e => tups b xs (I.base.tups b xs e), fun b o xs e => frzs b o xs (I.base.frzs b o xs e), fun b ps e => ?_⟩, ?_, fun x c e => ?_, ?_, fun x c e => ?_, fun p hp => ?_, hok, I.len⟩
  · exact keep b o (neL b o e) hb (neC b o e hx) (I.base.keep b o e n hb hx) (I.base.free b o e n hx)
  · obtain ⟨sl, e1⟩ := I.base.slot b o e n hb hx
    obtain ⟨sl', e2⟩ := slot b _ (neL b o e) hb (neC b o e hx) e1 (I.base.free b o e n hx)
    exact ⟨sl', e2⟩
  · obtain ⟨o', e1⟩ := I.base.there b o e hx
    exact free b o' (neC b o e hx) e1 (I.base.free b o e n hx)
  · obtain ⟨o', e1⟩ := I.base.there b o e hx
    exact there b o' (neC b o e hx) e1
  · obtain ⟨m1, e1⟩ := I.base.tbls b ps e
    obtain ⟨m2, e2⟩ := tbls b _ e1
    exact ⟨m1 ++ m2, by rw [e2, Array.append_assoc]⟩
  · obtain ⟨m, hn, hl⟩ := I.loc
    refine ⟨m, ns m hn, fun i x v e1 e2 e3 => ?_⟩
    obtain ⟨u, r, l⟩ := hl i x v e1 e2 e3
    refine ⟨u, r, ?_⟩
    rcases l with l | ⟨k, c, e, z⟩
    · exact .inl l
    · exact .inr ⟨k, c, e, cellK x c e _ z⟩
  · obtain ⟨v, z⟩ := I.cell x c e
    exact ⟨v, cellK x c e v z⟩
  · obtain ⟨m, ⟨o, _, _, ho, _⟩, _⟩ := I.loc
    exact free _ o (fun z => (hch _ z).2.1 rfl) ho I.free
  · obtain ⟨v, o, ho, hd⟩ := I.cell x c e
    exact free c o (fun z => (hch c z).2.2.1 x c e rfl) ho (I.freeC x c e)
  · obtain ⟨e, n, ne, nf, d⟩ := I.pin p hp
    have nch : p.1 ∉ ch := fun z => (hch p.1 z).2.2.2 p hp rfl
    exact ⟨keep p.1 p.2 ne nf nch e n, free p.1 p.2 nch e n, ne, nf, d⟩
theorem Inv.un {t' : Nat} (I : Inv X pins σ H s) (u : Un X.fs [] H H' s.heap h') (hok : HOk X.prog X.w H' h') : Inv X pins σ H' { s with heap := h', toks := t' } := by
  obtain ⟨m, ⟨o, es, ep, ho, r⟩, _⟩ := id I.loc
  obtain ⟨sl, hL⟩ := u.any ho I.free (by simp)
  exact I.step (g' := s.gens) (d' := s.drawn) (ch := []) (fun _ z => nomatch z) (fun b o _ hb _ e n => u.keep b o e n hb (by simp)) (fun b o _ hb _ e n => u.slot b o e n hb (by simp)) (fun b o _ e n => u.free b o e n (by simp)) (fun b o _ e => u.there b o e (by simp)) u.tups u.frzs u.tbls (fun m' hm => by
    obtain ⟨o', es', ep', ho', r'⟩ := hm
    rw [ho] at ho'; cases ho'
    exact ⟨_, es', ep', hL, r'⟩) hok I.bare
theorem Inv.call {g' : Array GenState} {t' : Nat} {d' : Drawn} {ch : List Addr} (I : Inv X pins σ H s) (u : Un (frs X.stack) ch H H' s.heap h') (hok : HOk X.prog X.w H' h') (hg : AllBare g')
    (hch : ∀ b ∈ ch, (b ∈ X.ex ∨ X.s₀.heap.objs.size ≤ b) ∧ b ≠ X.env.locals ∧ (∀ x c, X.env.cells.lookup x = some c → c ≠ b) ∧ ∀ p ∈ X.pn ++ pins, p.1 ≠ b) :
    Inv X pins σ H' { s with heap := h', gens := g', drawn := d', toks := t' } := by
  obtain ⟨m, ⟨o, es, ep, ho, r⟩, _⟩ := id I.loc
  obtain ⟨sl, hL⟩ := u.any ho I.free fun z => (hch _ z).2.1 rfl
  exact I.step (ch := ch) hch (fun b o hL hb hc e n => u.keep b o e n (fun z => (List.mem_cons.mp (I.stkSub b z)).elim hL hb) hc) (fun b o _ _ hc e n => u.any e n hc) (fun b o hc e n => u.free b o e n hc) (fun b o hc e => u.there b o e hc) u.tups u.frzs u.tbls (fun m' hm => by
    obtain ⟨o', es', ep', ho', r'⟩ := hm
    rw [ho] at ho'; cases ho'
    exact ⟨_, es', ep', hL, r'⟩) hok hg
theorem Inv.turned {t' : Nat} {it : Addr} (I : Inv X pins σ H s) (k : ∀ b o, b ≠ it → s.heap.get? b = some o → h'.get? b = some o) (hn : H it = none) (hL : it ≠ X.env.locals)
    (h1 : it ∈ X.ex ∨ X.s₀.heap.objs.size ≤ it) (h2 : ∀ x c, X.env.cells.lookup x = some c → c ≠ it) (h3 : ∀ p ∈ X.pn ++ pins, p.1 ≠ it) : Inv X pins σ H { s with heap := h', toks := t' } := by
  have nit : ∀ b u, H b = some u → b ≠ it := fun b u e z => by rw [z, hn] at e; cases e
  refine I.step (g' := s.gens) (d' := s.drawn) (ch := [it]) (fun b hb => ?_) (fun b o _ _ hc e _ => k b o (fun z => hc (by simp [z])) e) (fun b o _ _ hc e _ => ⟨o.slots, k b o (fun z => hc (by simp [z])) e⟩) (fun _ _ _ _ n => n)
    (fun b o hc e => ⟨o, k b o (fun z => hc (by simp [z])) e⟩) (fun _ _ e => e) (fun _ _ _ e => e) (fun b ps e => ⟨#[], by rw [e]; simp⟩) (fun m hm => ?_) (fun b u e => ?_) I.bare
  · have e : b = it := by simpa using hb
    subst e
    exact ⟨h1, hL, h2, h3⟩
  · obtain ⟨o, es, ep, ho, r⟩ := hm
    exact ⟨o, es, ep, k _ o (Ne.symm hL) ho, r⟩
  · refine (I.hok b u e).stay (fun c v hc q => k c v ?_ q) (fun _ q => q) fun _ _ q => q
    rcases hc with z | z
    · rw [z]; exact nit b u e
    · exact nit c _ z
theorem Inv.tok (I : Inv X pins σ H s) (t : Nat) : Inv X pins σ H { s with toks := t } := I.un (h' := s.heap) (t' := t) Un.refl I.hok
theorem Inv.kept {t' : Nat} (I : Inv X pins σ H s) (k : ∀ b u, s.heap.get? b = some u → h'.get? b = some u) : Inv X pins σ H { s with heap := h', toks := t' } := I.un (Un.kept k) (I.hok.kept k)
theorem Inv.laid {a : Addr} {o : HO} {t' : Nat} (I : Inv X pins σ H s) (k : ∀ b u, s.heap.get? b = some u → h'.get? b = some u) (hp : s.heap.objs.size ≤ a) (new : ObjOk X.prog X.w (upd H a o) h' a o) :
    Inv X pins σ (upd H a o) { s with heap := h', toks := t' } := I.un (Un.laid k hp (I.hok.fresh hp)) (I.hok.laid k hp new)
theorem Inv.write {x e : Addr} {o : HO} {t' : Nat} (I : Inv X pins σ H s) (mu : Mut (H x)) (he : e = x ∨ H e = some (.own x)) (k : ∀ b u, b ≠ e → s.heap.get? b = some u → h'.get? b = some u) (heo : ∃ u, h'.get? e = some u)
    (new : ObjOk X.prog X.w (upd H x o) h' x o) : Inv X pins σ (upd H x o) { s with heap := h', toks := t' } := I.un (Un.write mu he k heo) (I.hok.write mu he k heo new)
theorem Inv.weak {σ' : List (Option V)} (I : Inv X pins σ H s) (hl : σ'.length = σ.length) (w : ∀ (i : Nat) v, σ'[i]? = some (some v) → σ[i]? = some (some v)) : Inv X pins σ' H s :=
  ⟨I.ok, I.os, I.bare, I.base, let ⟨m, hn, hl'⟩ := I.loc; ⟨m, hn, fun i x v e1 e2 e3 => hl' i x v e1 (w i v e2) e3⟩, I.cell, I.free, I.freeC, I.pin, I.hok, hl.trans I.len⟩
theorem Inv.pins_of {pins' : List (Addr × Obj)} (I : Inv X pins σ H s) (h : ∀ p ∈ pins', s.heap.get? p.1 = some p.2 ∧ H p.1 = none ∧ p.1 ≠ X.env.locals ∧ p.1 ∉ X.fs ∧ ∀ v, p.2.data ≠ .cell v) : Inv X pins' σ H s :=
  ⟨I.ok, I.os, I.bare, I.base, I.loc, I.cell, I.free, I.freeC, fun p hp => (List.mem_append.mp hp).elim (fun z => I.pin p (List.mem_append_left _ z)) (h p), I.hok, I.len⟩

theorem nodup_ix {N : List Str} (hN : N.Nodup) {i j : Nat} {x : Str} (a : N[i]? = some x) (b : N[j]? = some x) : i = j := by
  obtain ⟨h1, e1⟩ := List.getElem?_eq_some_iff.mp a
  obtain ⟨h2, e2⟩ := List.getElem?_eq_some_iff.mp b
  exact (List.getElem_inj hN).mp (e1.trans e2.symm)

theorem store_ok2 {M : Model} {A : Around} {E : Value → Shared → Prop} {i : Nat} {x : Str} {v : V} {u : Value} {Q : Unit → Shared → Prop} (I : Inv X pins σ H s) (hN : X.N.Nodup) (hi : X.N[i]? = some x) (hx : Loc X.env.scope x) (r : RelV v u)
    (h : ∀ s', Inv X pins (σ.set i (some v)) H s' → (∃ a, Heap.SameBut a s.heap s'.heap ∧ (a = X.env.locals ∨ X.env.cells.lookup x = some a)) → Q () s') (hf : X.fn x = true ∨ X.env.scope.names.lookup x = some .local := by first | exact .inl rfl | exact .inr rfl | assumption) : wpAny M A (storeName X.env x u) Q E s := by
  obtain ⟨m, hn, hl⟩ := id I.loc
  have hcls : (X.env.scope.kind == .class || (X.env.scope.kind == .module && X.env.locals != X.env.globals)) = false := by rw [I.ok.kind]; rfl
  have hiσ : i < σ.length := by rw [I.len]; exact (List.getElem?_eq_some_iff.mp hi).1
  have cne := I.cne
  have tracked : ∀ {a : Addr} {h' : Heap}, (∃ o, s.heap.get? a = some o ∧ H a = none) → Heap.SameBut a s.heap h' → HOk X.prog X.w H h' := fun {a h'} ha hs b ob e => by
    obtain ⟨_, _, hfree⟩ := ha
    refine (I.hok b ob e).stay (fun c w' hc q => (hs.2 c ?_).trans q) (fun _ q => q) fun _ _ q => q
    rintro rfl
    rcases hc with rfl | hc
    · rw [hfree] at e; cases e
    · rw [hfree] at hc; cases hc
  rcases hx with hk | hk
  · refine wpAny_storeName_local hk hn (fun h' hn' hs => ?_) hcls
    obtain ⟨oL, _, _, hoL, _⟩ := id hn
    refine h _ ⟨I.ok, I.os, I.bare, ⟨fun b o e n hb hx => ?_, fun b o e n hb hx => ?_, I.base.free, fun b o e hx => ?_, I.base.tups, I.base.frzs, I.base.tbls⟩, ⟨_, hn', fun j y v' e1 e2 e3 => ?_⟩, fun y c e => ?_, I.free, I.freeC, fun p hp => ?_, tracked ⟨oL, hoL, I.free⟩ hs, by simpa using I.len⟩ ⟨_, hs, .inl rfl⟩
    · exact (hs.2 b (Nat.ne_of_lt (Nat.lt_of_lt_of_le (Heap.lt_size e) I.ok.above))).trans (I.base.keep b o e n hb hx)
    · obtain ⟨sl, e1⟩ := I.base.slot b o e n hb hx
      exact ⟨sl, (hs.2 b (Nat.ne_of_lt (Nat.lt_of_lt_of_le (Heap.lt_size e) I.ok.above))).trans e1⟩
    · obtain ⟨o', e1⟩ := I.base.there b o e hx
      exact ⟨o', (hs.2 b (Nat.ne_of_lt (Nat.lt_of_lt_of_le (Heap.lt_size e) I.ok.above))).trans e1⟩
    · by_cases hj : j = i
      · subst hj
        rw [hi] at e1; cases e1
        rw [List.getElem?_set_self hiσ] at e2
        cases e2
        exact ⟨u, r, .inl ⟨hk, by simp⟩⟩
      · rw [List.getElem?_set_ne (Ne.symm hj)] at e2
        obtain ⟨u', r', q⟩ := hl j y v' e1 e2 e3
        refine ⟨u', r', ?_⟩
        rcases q with ⟨k, e⟩ | ⟨k, c, e, z⟩
        · refine .inl ⟨k, ?_⟩
          have : y ≠ x := fun e => hj (nodup_ix hN e1 (e ▸ hi))
          simp [this, e]
        · exact .inr ⟨k, c, e, z.sameBut hs (cne y c e)⟩
    · obtain ⟨w', z⟩ := I.cell y c e
      exact ⟨w', z.sameBut hs (cne y c e)⟩
    · obtain ⟨e, n, ne, nf, d⟩ := I.pin p hp
      exact ⟨(hs.2 p.1 ne).trans e, n, ne, nf, d⟩
  · have hfn : X.fn x = true := by
      rcases hf with z | z
      · exact z
      · rw [z] at hk; cases hk
    obtain ⟨c, hc⟩ := I.ok.has x (.inl hk)
    obtain ⟨w', z⟩ := I.cell x c hc
    refine wpAny_storeName_cell I.ok.kind hk hc z (fun h' hc' hs => ?_)
    obtain ⟨oc, hoc, hocd⟩ := id z
    refine h { s with heap := h' } ⟨I.ok, I.os, I.bare, ⟨fun b o e n hb hx => ?_, fun b o e n hb hx => ?_, I.base.free, fun b o e hx => ?_, I.base.tups, I.base.frzs, I.base.tbls⟩, ⟨m, hn.sameBut hs (Ne.symm (cne x c hc)), fun j y v' e1 e2 e3 => ?_⟩, fun y c' e => ?_, I.free, I.freeC, fun p hp => ?_, tracked ⟨oc, hoc, I.freeC x c hc⟩ hs, by simpa using I.len⟩ ⟨c, hs, .inr hc⟩
    · exact (hs.2 b (Nat.ne_of_lt (Nat.lt_of_lt_of_le (Heap.lt_size e) (I.ok.cab x c hfn hc)))).trans (I.base.keep b o e n hb hx)
    · obtain ⟨sl, e1⟩ := I.base.slot b o e n hb hx
      exact ⟨sl, (hs.2 b (Nat.ne_of_lt (Nat.lt_of_lt_of_le (Heap.lt_size e) (I.ok.cab x c hfn hc)))).trans e1⟩
    · obtain ⟨o', e1⟩ := I.base.there b o e hx
      exact ⟨o', (hs.2 b (Nat.ne_of_lt (Nat.lt_of_lt_of_le (Heap.lt_size e) (I.ok.cab x c hfn hc)))).trans e1⟩
    · by_cases hj : j = i
      · subst hj
        rw [hi] at e1; cases e1
        rw [List.getElem?_set_self hiσ] at e2
        cases e2
        exact ⟨u, r, .inr ⟨.inl hk, c, hc, hc'⟩⟩
      · rw [List.getElem?_set_ne (Ne.symm hj)] at e2
        obtain ⟨u', r', q⟩ := hl j y v' e1 e2 e3
        refine ⟨u', r', ?_⟩
        rcases q with q | ⟨k, c', e, z'⟩
        · exact .inl q
        · refine .inr ⟨k, c', e, z'.sameBut hs ?_⟩
          rintro rfl
          exact hj (nodup_ix hN e1 (I.ok.inj _ _ _ e hc ▸ hi))
    · by_cases hcc : c' = c
      · subst hcc; exact ⟨_, hc'⟩
      · obtain ⟨w2, z2⟩ := I.cell y c' e
        exact ⟨w2, z2.sameBut hs hcc⟩
    · obtain ⟨e, n, ne, nf, d⟩ := I.pin p hp
      refine ⟨(hs.2 p.1 ?_).trans e, n, ne, nf, d⟩
      intro q
      rw [q, hoc] at e
      have q' : oc = p.2 := Option.some.inj e
      exact d w' (by rw [← q']; exact hocd)
theorem store_ok {M : Model} {A : Around} {E : Value → Shared → Prop} {i : Nat} {x : Str} {v : V} {u : Value} {Q : Unit → Shared → Prop} (I : Inv X pins σ H s) (hN : X.N.Nodup) (hi : X.N[i]? = some x) (hx : Loc X.env.scope x) (r : RelV v u)
    (h : ∀ s', Inv X pins (σ.set i (some v)) H s' → Q () s') (hf : X.fn x = true ∨ X.env.scope.names.lookup x = some .local := by first | exact .inl rfl | exact .inr rfl | assumption) : wpAny M A (storeName X.env x u) Q E s :=
  store_ok2 I hN hi hx r (fun s' I' _ => h s' I') hf
theorem Inv.call' {s' : Shared} {ch : List Addr} (I : Inv X pins σ H s) (ho : s'.os = s.os) (u : Un (frs X.stack) ch H H' s.heap s'.heap) (hok : HOk X.prog X.w H' s'.heap) (hg : AllBare s'.gens)
    (hch : ∀ b ∈ ch, (b ∈ X.ex ∨ X.s₀.heap.objs.size ≤ b) ∧ b ≠ X.env.locals ∧ (∀ x c, X.env.cells.lookup x = some c → c ≠ b) ∧ ∀ p ∈ X.pn ++ pins, p.1 ≠ b) : Inv X pins σ H' s' := by
  obtain ⟨h', g', d', t', o'⟩ := s'
  have e : o' = s.os := ho
  subst e
  exact I.call (g' := g') (t' := t') (d' := d') u hok hg hch
end

abbrev XK := Value → Option Addr → Hp → Prop
abbrev St := List (Option V)
abbrev VK := V → Hp → Prop
abbrev TE := St → Hp → VK → Prop
abbrev TT := St → Hp → (Bool → Hp → Prop) → Prop
abbrev TA := St → Hp → (List V → Hp → Prop) → Prop
structure Ends where
  nx : St → Hp → Prop
  rt : VK
  bk : St → Hp → Prop := fun _ _ => False
  ct : St → Hp → Prop := fun _ _ => False
abbrev TS := Ends → St → Hp → Prop

def EP (X : Cx) (pins : List (Addr × Obj)) (σ : St) (Q : VK) (u : Value) (s' : Shared) : Prop := ∃ v H', Inv X pins σ H' s' ∧ RelV v u ∧ Q v H'
def TP (X : Cx) (pins : List (Addr × Obj)) (σ : St) (Q : Bool → Hp → Prop) (b : Bool) (s' : Shared) : Prop := ∃ H', Inv X pins σ H' s' ∧ Q b H'
def AP (X : Cx) (pins : List (Addr × Obj)) (σ : St) (Q : List V → Hp → Prop) (us : List Value) (s' : Shared) : Prop := ∃ vs H', Inv X pins σ H' s' ∧ Vals vs us ∧ Q vs H'
def SP (X : Cx) (pins : List (Addr × Obj)) (D : Ends) (f : Flow) (s' : Shared) : Prop :=
  match f with
  | .next => ∃ σ' H', Inv X pins σ' H' s' ∧ D.nx σ' H'
  | .brk => ∃ σ' H', Inv X pins σ' H' s' ∧ D.bk σ' H'
  | .cont => ∃ σ' H', Inv X pins σ' H' s' ∧ D.ct σ' H'
  | .ret u => ∃ v σ' H', Inv X pins σ' H' s' ∧ RelV v u ∧ D.rt v H'

def PE (X : Cx) (e : Expr) (t : TE) : Prop :=
  ∀ (pins : List (Addr × Obj)) (s : Shared) (σ : St) (H : Hp) (Q : VK), Inv X pins σ H s → t σ H Q → wpAny (model X.prog X.w) X.A (eval e X.env) (EP X pins σ Q) X.xe s
def PT (X : Cx) (e : Expr) (t : TT) : Prop :=
  ∀ (pins : List (Addr × Obj)) (s : Shared) (σ : St) (H : Hp) (Q : Bool → Hp → Prop), Inv X pins σ H s → t σ H Q → wpAny (model X.prog X.w) X.A (isTrue e X.env (eval e X.env)) (TP X pins σ Q) X.xe s
def PW (X : Cx) (e : Expr) (t : TT) : Prop :=
  ∀ (whole : Sem Value) (pins : List (Addr × Obj)) (s : Shared) (σ : St) (H : Hp) (Q : Bool → Hp → Prop), Inv X pins σ H s → t σ H Q → wpAny (model X.prog X.w) X.A (isTrue e X.env whole) (TP X pins σ Q) X.xe s
theorem PW.pt {X : Cx} {e : Expr} {t : TT} (h : PW X e t) : PT X e t := h _
def PA (X : Cx) (es : List Expr) (t : TA) : Prop :=
  ∀ (pos : Pos) (pins : List (Addr × Obj)) (s : Shared) (σ : St) (H : Hp) (Q : List V → Hp → Prop), Inv X pins σ H s → t σ H Q → wpAny (model X.prog X.w) X.A (spliced (backTo pos (starEach es X.env))) (AP X pins σ Q) X.xe s
def PS (X : Cx) (st : Stmt) (t : TS) : Prop :=
  ∀ (pins : List (Addr × Obj)) (s : Shared) (σ : St) (H : Hp) (D : Ends), Inv X pins σ H s → t D σ H → wpAny (model X.prog X.w) X.A (exec st X.env) (SP X pins D) X.xe s
def PSs (X : Cx) (st : List Stmt) (t : TS) : Prop :=
  ∀ (pins : List (Addr × Obj)) (s : Shared) (σ : St) (H : Hp) (D : Ends), Inv X pins σ H s → t D σ H → wpAny (model X.prog X.w) X.A (execs st X.env) (SP X pins D) X.xe s
theorem thn {α : Type} {t : Sem α} {Q Q' : α → Shared → Prop} {M : Model} {A : Around} {E : Value → Shared → Prop} {s : Shared} (h : wpAny M A t Q E s) (hQ : ∀ a s, Q a s → Q' a s) : wpAny M A t Q' E s := wpAny_mono h hQ fun _ _ x => x
end L2

namespace L2
open PySem PySem.Spec PyProof.Rows
section
variable {X : Cx}

theorem bin {a b : Expr} {ta tb : TE} (ha : PE X a ta) (hb : PE X b tb) {pins : List (Addr × Obj)} {s : Shared} {σ : St} {H : Hp} {R : V → V → Hp → Prop} (I : Inv X pins σ H s) (h : ta σ H fun x H1 => tb σ H1 fun y H2 => R x y H2)
    {α : Type} {Q : α → Shared → Prop} {f : Value → Value → Sem α}
    (hf : ∀ v u s2 x y H2, Inv X pins σ H2 s2 → RelV x v → RelV y u → R x y H2 → wpAny (model X.prog X.w) X.A (f v u) Q X.xe s2) :
    wpAny (model X.prog X.w) X.A (eval a X.env) (fun v s₁ => wpAny (model X.prog X.w) X.A (eval b X.env) (fun u s₂ => wpAny (model X.prog X.w) X.A (f v u) Q X.xe s₂) X.xe s₁) X.xe s := by
  refine thn (ha pins s σ H _ I h) fun v s1 ⟨x, H1, I1, r1, q1⟩ => ?_
  refine thn (hb pins s1 σ H1 _ I1 q1) fun u s2 ⟨y, H2, I2, r2, q2⟩ => ?_
  exact hf v u s2 x y H2 I2 r1 r2 q2

def tVar (i : Nat) : TE := fun σ H Q => ∃ v, σ[i]? = some (some v) ∧ Q v H
def tC (v : V) : TE := fun _ H Q => Q v H
theorem pe_var {i : Nat} {x : Str} {pos : Pos} (hN : X.N[i]? = some x) (hv : Vis X.env.scope x) (hd : (x == ("__debug__" : Str)) = false := by decide) (hcd : (x == ("__classdict__" : Str)) = false := by decide) : PE X (.Name x pos) (tVar i) := by
  intro pins s σ H Q I h
  obtain ⟨v, e, h⟩ := h
  obtain ⟨m, hn, hl⟩ := I.loc
  obtain ⟨u, r, l⟩ := hl i x v hN e hv
  have fin : EP X pins σ Q u s := ⟨v, H, I, r, h⟩
  rcases l with ⟨hk, hm⟩ | ⟨hk, c, hc, hcell⟩
  · exact wpAny_Name (wpAny_loadName_local I.ok.kind hk hn hm fin) hd
  · rcases hk with hk | hk
    · exact wpAny_Name (wpAny_loadName_cell I.ok.kind hk hc hcell fin) hd
    · exact wpAny_Name (wpAny_loadName_free I.ok.kind hk hc hcell fin hcd) hd
theorem pe_int {i j pos} : PE X (.Constant (.int i) j pos) (tC (.int i)) := fun _ _ _ H _ I h => wpAny_Constant_int ⟨.int i, H, I.tok _, ⟨_, rfl⟩, h⟩
theorem pe_bl {b j pos} : PE X (.Constant (.bool b) j pos) (tC (.bl b)) := fun _ _ _ H _ I h => Constant_bool ⟨.bl b, H, I, rfl, h⟩
theorem pe_non {j pos} : PE X (.Constant .none j pos) (tC .non) := fun _ _ _ H _ I h => Constant_none ⟨.non, H, I, rfl, h⟩
theorem pe_str {x j pos} : PE X (.Constant (.str x) j pos) (tC (.str x)) := fun _ _ _ H _ I h => Calls.Constant_str ⟨.str x, H, I.tok _, ⟨_, rfl⟩, h⟩

def Gl (X : Cx) (x : Str) : Prop := X.env.kindOf x = some .globalImplicit
theorem ld_glob {E : Value → Shared → Prop} {pins : List (Addr × Obj)} {s : Shared} {σ : St} {H : Hp} {x : Str} {u : Value} {pos : Pos} {Q : Value → Shared → Prop} (I : Inv X pins σ H s) (hg : Gl X x) (hm : X.mg x = some u) (h : Q u s)
    (hd : (x == ("__debug__" : Str)) = false := by decide) : wpAny (model X.prog X.w) X.A (eval (.Name x pos) X.env) Q E s :=
  Calls.Name_function_global I.ok.kind hg (Calls.loadGlobal_global (by rw [I.ok.glob]; exact I.mod.glob.keeps I.bk) hm h) hd
theorem ld_blt {E : Value → Shared → Prop} {pins : List (Addr × Obj)} {s : Shared} {σ : St} {H : Hp} {x : Str} {u : Value} {pos : Pos} {Q : Value → Shared → Prop} (I : Inv X pins σ H s) (hg : Gl X x) (hm : X.mg x = none) (hv : bootBuiltins x = some u) (h : Q u s)
    (hn : x ≠ "__name__" := by decide) (hd : (x == ("__debug__" : Str)) = false := by decide) : wpAny (model X.prog X.w) X.A (eval (.Name x pos) X.env) Q E s := by
  obtain ⟨mb, h1, h2⟩ := I.mod.blt
  exact Calls.Name_function_global I.ok.kind hg (Calls.loadGlobal_builtin (by rw [I.ok.glob]; exact I.mod.glob.keeps I.bk) hm (by rw [I.ok.blt]; exact h1.keeps I.bk) ((h2 x hn).trans hv) h) hd
theorem pe_glob {x : Str} {v : V} {u : Value} {pos : Pos} (hg : Gl X x) (hm : X.mg x = some u) (r : RelV v u) (hd : (x == ("__debug__" : Str)) = false := by decide) : PE X (.Name x pos) (tC v) :=
  fun _ _ _ H _ I h => ld_glob I hg hm ⟨v, H, I, r, h⟩ hd
theorem pe_bltn {x : Str} {v : V} {u : Value} {pos : Pos} (hg : Gl X x) (hm : X.mg x = none) (hv : bootBuiltins x = some u) (r : RelV v u) (hn : x ≠ "__name__" := by decide) (hd : (x == ("__debug__" : Str)) = false := by decide) : PE X (.Name x pos) (tC v) :=
  fun _ _ _ H _ I h => ld_blt I hg hm hv ⟨v, H, I, r, h⟩ hn hd

variable {a b : Expr} {ta tb : TE} {pos : Pos}
def PC (X : Cx) (op : CmpOp) (a b : Expr) (t : TE) : Prop :=
  ∀ (pins : List (Addr × Obj)) (s : Shared) (σ : St) (H : Hp) (Q : VK), Inv X pins σ H s → t σ H Q →
    wpAny (model X.prog X.w) X.A (eval a X.env) (fun v s₁ => wpAny (model X.prog X.w) X.A (eval b X.env) (fun u s₂ => wpAny (model X.prog X.w) X.A (compareOp op v u) (EP X pins σ Q) X.xe s₂) X.xe s₁) X.xe s
theorem nobehind (b : Expr) {op : CmpOp} (h : op ≠ .In) (h2 : op ≠ .NotIn) : behindInMarks op b = false := by
  have e1 : (op == CmpOp.In) = false := by cases op <;> first | rfl | exact absurd rfl h
  have e2 : (op == CmpOp.NotIn) = false := by cases op <;> first | rfl | exact absurd rfl h2
  cases b <;> simp [behindInMarks, e1, e2]
def tIsN (ta : TE) : TE := fun σ H Q => ta σ H fun x H1 => Q (.bl (decide (x = .non))) H1
theorem RelV.none_iff {x : V} {v : Value} (r : RelV x v) : (v == Value.none) = decide (x = .non) := by
  cases x with
  | non => cases r; rfl
  | bl _ => cases r; rfl
  | int _ => obtain ⟨t, rfl⟩ := r; rfl
  | str _ => obtain ⟨t, rfl⟩ := r; rfl
  | byt _ => obtain ⟨t, rfl⟩ := r; rfl
  | flt _ => obtain ⟨t, rfl⟩ := r; rfl
  | ref _ => cases r; rfl
  | ty _ => cases r; rfl
theorem pc_isN {j pos'} (ha : PE X a ta) : PC X .Is a (.Constant .none j pos') (tIsN ta) := by
  intro pins s σ H Q I h
  refine thn (ha pins s σ H _ I h) fun v s1 ⟨x, H1, I1, r1, q1⟩ => ?_
  exact Constant_none (is_none_gen ⟨.bl _, H1, I1, by rw [r1.none_iff]; rfl, q1⟩)
def tB (t : TE) : TT := fun σ H Q => t σ H fun x H1 => ∃ c, x = .bl c ∧ Q c H1
theorem pt_cmp {op : CmpOp} {t : TE} (h : PC X op a b t) (h1 : behindInMarks op b = false := by first | exact nobehind _ (by decide) (by decide) | rfl) : PT X (.Compare a [op] [b] pos) (tB t) := by
  intro pins s σ H Q I hw
  refine wpAny_isTrue_Compare1 (thn (h pins s σ H _ I hw) fun v s1 h1 => thn h1 fun u s2 h2 => thn h2 fun c s3 ⟨x, H1, I1, r1, q1⟩ => ?_) h1
  obtain ⟨d, rfl, q⟩ := q1
  cases r1
  exact wpAny_truthy_bool ⟨H1, I1, q⟩
theorem pt_val {e : Expr} {t : TE} (h : PE X e t) (he : ∀ whole, isTrue e X.env whole = (do let v ← whole; standAt e.pos; holding [v] (truthy v)) := by intro _; rfl) : PT X e (tB t) := by
  intro pins s σ H Q I hw
  refine isTrue_plain (thn (h pins s σ H _ I hw) fun v s1 ⟨x, H1, I1, r1, q1⟩ => ?_) (he _)
  obtain ⟨d, rfl, q⟩ := q1
  cases r1
  exact wpAny_truthy_bool ⟨H1, I1, q⟩

variable {tA tB' : TT} {rest : List Expr}
def tAnd (t u : TT) : TT := fun σ H Q => t σ H fun c H1 => if c = true then u σ H1 Q else Q false H1
def tOr (t u : TT) : TT := fun σ H Q => t σ H fun c H1 => if c = true then Q true H1 else u σ H1 Q
def tNot (t : TT) : TT := fun σ H Q => t σ H fun c H1 => Q (!c) H1
theorem pw_and1 (ha : PT X a tA) : PW X (.BoolOp .And [a] pos) tA := by
  intro wh pins s σ H Q I h
  refine isTrue_and (thn (ha pins s σ H Q I h) fun c s1 e => ?_)
  cases c with
  | true => exact isTrue_and_nil e
  | false => exact e
theorem pw_or1 (ha : PT X a tA) : PW X (.BoolOp .Or [a] pos) tA := by
  intro wh pins s σ H Q I h
  refine isTrue_or (thn (ha pins s σ H Q I h) fun c s1 e => ?_)
  cases c with
  | false => exact isTrue_or_nil e
  | true => exact e
theorem pw_and (ha : PT X a tA) (hb : PW X (.BoolOp .And (b :: rest) pos) tB') : PW X (.BoolOp .And (a :: b :: rest) pos) (tAnd tA tB') := by
  intro wh pins s σ H Q I h
  refine isTrue_and (thn (ha pins s σ H _ I h) fun c s1 ⟨H1, I1, q1⟩ => ?_)
  cases c with
  | true => exact hb wh pins s1 σ H1 Q I1 q1
  | false => exact ⟨H1, I1, q1⟩
theorem pw_or (ha : PT X a tA) (hb : PW X (.BoolOp .Or (b :: rest) pos) tB') : PW X (.BoolOp .Or (a :: b :: rest) pos) (tOr tA tB') := by
  intro wh pins s σ H Q I h
  refine isTrue_or (thn (ha pins s σ H _ I h) fun c s1 ⟨H1, I1, q1⟩ => ?_)
  cases c with
  | true => exact ⟨H1, I1, q1⟩
  | false => exact hb wh pins s1 σ H1 Q I1 q1
theorem pt_not (ha : PT X a tA) : PT X (.UnaryOp .Not a pos) (tNot tA) := by
  intro pins s σ H Q I h
  exact isTrue_not (ha pins s σ H (fun c H1 => Q (!c) H1) I h)
def tAndV (ta tb : TE) : TE := fun σ H Q => ta σ H fun x H1 => ∃ c, x = .bl c ∧ if c = true then tb σ H1 Q else Q (.bl false) H1
def tOrV (ta tb : TE) : TE := fun σ H Q => ta σ H fun x H1 => ∃ c, x = .bl c ∧ if c = true then Q (.bl true) H1 else tb σ H1 Q
def tNotV (ta : TE) : TE := fun σ H Q => ta σ H fun x H1 => ∃ c, x = .bl c ∧ Q (.bl (!c)) H1
theorem pe_one {op} {t : TE} (h : PE X a t) : PE X (.BoolOp op [a] pos) t := fun pins s σ H Q I hw => BoolOp_one (h pins s σ H Q I hw)
theorem pe_and (ha : PE X a ta) (hb : PE X (.BoolOp .And (b :: rest) pos) tb) : PE X (.BoolOp .And (a :: b :: rest) pos) (tAndV ta tb) := by
  intro pins s σ H Q I h
  refine BoolOp_and (thn (ha pins s σ H _ I h) fun v s1 ⟨x, H1, I1, r1, q1⟩ => ?_)
  obtain ⟨c, rfl, q1⟩ := q1
  cases r1
  refine wpAny_truthy_bool ?_
  cases c with
  | true => exact hb pins s1 σ H1 Q I1 q1
  | false => exact ⟨.bl false, H1, I1, rfl, q1⟩
theorem pe_or (ha : PE X a ta) (hb : PE X (.BoolOp .Or (b :: rest) pos) tb) : PE X (.BoolOp .Or (a :: b :: rest) pos) (tOrV ta tb) := by
  intro pins s σ H Q I h
  refine BoolOp_or (thn (ha pins s σ H _ I h) fun v s1 ⟨x, H1, I1, r1, q1⟩ => ?_)
  obtain ⟨c, rfl, q1⟩ := q1
  cases r1
  refine wpAny_truthy_bool ?_
  cases c with
  | false => exact hb pins s1 σ H1 Q I1 q1
  | true => exact ⟨.bl true, H1, I1, rfl, q1⟩
theorem pe_not (ha : PE X a ta) : PE X (.UnaryOp .Not a pos) (tNotV ta) := by
  intro pins s σ H Q I h
  refine UnaryOp_ (thn (ha pins s σ H _ I h) fun v s1 ⟨x, H1, I1, r1, q1⟩ => ?_)
  obtain ⟨c, rfl, q1⟩ := q1
  cases r1
  exact not_of (wpAny_truthy_bool ⟨.bl (!c), H1, I1, rfl, q1⟩)
end
end L2

namespace L2
open PySem PySem.Spec PyProof.Rows

def SqL (K : PySem.W.Frag) (H : Hp) (a : Addr) (xs : List V) : Prop :=
  Rd H a (.lst xs) ∨
    ∃ (o : Obj) (its : Array Value) (n : Nat), K.lookup a = some o ∧ o.cls = .type "list" ∧ o.dict = none ∧ o.data = .seq its n ∧ its.size ≤ sizeLine ∧ Vals xs its.toList
def SqT (K : PySem.W.Frag) (H : Hp) (a : Addr) (xs : List V) : Prop :=
  Rd H a (.tup xs) ∨
    ∃ (o : Obj) (its : Array Value) (n : Nat), K.lookup a = some o ∧ o.cls = .type "tuple" ∧ o.data = .seq its n ∧ its.size ≤ sizeLine ∧ Vals xs its.toList
def absV : Value → Option V
  | .none => some .non
  | .bool b => some (.bl b)
  | .int i _ => some (.int i)
  | .str x _ => some (.str x)
  | .bytes b _ => some (.byt b)
  | .float b _ => some (.flt b)
  | .ref a => some (.ref a)
  | .type n => some (.ty n)
  | _ => none
theorem RelV.abs {x : V} {u : Value} (r : RelV x u) : absV u = some x := by
  cases x with
  | non => cases r; rfl
  | bl _ => cases r; rfl
  | int _ => obtain ⟨t, rfl⟩ := r; rfl
  | str _ => obtain ⟨t, rfl⟩ := r; rfl
  | byt _ => obtain ⟨t, rfl⟩ := r; rfl
  | flt _ => obtain ⟨t, rfl⟩ := r; rfl
  | ref _ => cases r; rfl
  | ty _ => cases r; rfl
theorem RelV.inj {x y : V} {u : Value} (r : RelV x u) (q : RelV y u) : x = y := Option.some.inj (r.abs.symm.trans q.abs)
theorem Vals.inj : ∀ {xs ys : List V} {us : List Value}, Vals xs us → Vals ys us → xs = ys
  | _, _, _, .nil, .nil => rfl
  | _, _, _, .cons r t, .cons r' t' => by rw [r.inj r', Vals.inj t t']
section
variable {X : Cx} {pins : List (Addr × Obj)} {σ : St} {H : Hp} {s : Shared} {a : Addr} {xs ys : List V}
theorem SqL.of {K : PySem.W.Frag} (h : H a = some (.lst xs)) : SqL K H a xs := .inl (.inl h)
theorem SqT.of {K : PySem.W.Frag} (h : H a = some (.tup xs)) : SqT K H a xs := .inl (.inl h)
theorem Inv.list (I : Inv X pins σ H s) (h : SqL X.K H a xs) : ∃ its : List Value, Vals xs its ∧ PlainL s.heap a its.toArray ∧ xs.length ≤ sizeLine := by
  rcases h with h | ⟨o, its, n, hk, hc, hd, hs, hz, r⟩
  · obtain ⟨z, its, n, r, e⟩ := h.ok I.hok
    exact ⟨its, r, ⟨_, n, e, rfl, rfl, rfl⟩, z⟩
  · refine ⟨its.toList, r, ⟨o, n, I.kIn a o hk, hc, hd, by simpa using hs⟩, ?_⟩
    have e := r.length
    simp only [Array.length_toList] at e
    omega
theorem Inv.tuple (I : Inv X pins σ H s) (h : SqT X.K H a xs) : ∃ its : List Value, Vals xs its ∧ IsTup s.heap a its.toArray ∧ xs.length ≤ sizeLine := by
  rcases h with h | ⟨o, its, n, hk, hc, hs, hz, r⟩
  · obtain ⟨z, its, r, p⟩ := h.ok I.hok
    exact ⟨its, r, p, z⟩
  · refine ⟨its.toList, r, ⟨o, I.kIn a o hk, hc, n, by simpa using hs⟩, ?_⟩
    have e := r.length
    simp only [Array.length_toList] at e
    omega
theorem Inv.list_inj (I : Inv X pins σ H s) (h : SqL X.K H a xs) (h' : SqL X.K H a ys) : xs = ys := by
  obtain ⟨its, r, ⟨o, n, e, _, _, d⟩, _⟩ := I.list h
  obtain ⟨its', r', ⟨o', n', e', _, _, d'⟩, _⟩ := I.list h'
  rw [e] at e'; cases e'
  rw [d] at d'
  injection d' with d1 _
  have : its = its' := by simpa using congrArg Array.toList d1
  subst this
  exact r.inj r'
end

abbrev Cx.wish (X : Cx) (E : Value → Shared → Prop) : Cx := { X with xe := E }
abbrev Cx.nox (X : Cx) : Cx := X.wish fun _ _ => False
theorem Cx.Ok.wish {X : Cx} (ok : X.Ok) (E : Value → Shared → Prop) : (X.wish E).Ok :=
  ⟨ok.mod, ok.kind, ok.glob, ok.blt, ok.above, ok.inj, ok.has, ok.cab, ok.hd, ok.frames, ok.stk, ok.exf, ok.bs, ok.bsz, ok.noex, ok.exfs, ok.funs, ok.frf⟩
theorem Cx.Ok.unwish {X : Cx} {E : Value → Shared → Prop} (ok : (X.wish E).Ok) : X.Ok :=
  ⟨ok.mod, ok.kind, ok.glob, ok.blt, ok.above, ok.inj, ok.has, ok.cab, ok.hd, ok.frames, ok.stk, ok.exf, ok.bs, ok.bsz, ok.noex, ok.exfs, ok.funs, ok.frf⟩
section
variable {X : Cx} {pins : List (Addr × Obj)} {σ : St} {H : Hp} {s : Shared} {E : Value → Shared → Prop}
theorem Inv.wish (I : Inv X pins σ H s) (E : Value → Shared → Prop) : Inv (X.wish E) pins σ H s := ⟨I.ok.wish E, I.os, I.bare, I.base, I.loc, I.cell, I.free, I.freeC, I.pin, I.hok, I.len⟩
theorem Inv.unwish (I : Inv (X.wish E) pins σ H s) : Inv X pins σ H s := ⟨I.ok.unwish, I.os, I.bare, I.base, I.loc, I.cell, I.free, I.freeC, I.pin, I.hok, I.len⟩
theorem SP.unwish {D : Ends} {f : Flow} {s' : Shared} (h : SP (X.wish E) pins D f s') : SP X pins D f s' := by
  cases f with
  | next => obtain ⟨σ', H', I, q⟩ := h; exact ⟨σ', H', I.unwish, q⟩
  | brk => obtain ⟨σ', H', I, q⟩ := h; exact ⟨σ', H', I.unwish, q⟩
  | cont => obtain ⟨σ', H', I, q⟩ := h; exact ⟨σ', H', I.unwish, q⟩
  | ret u => obtain ⟨v, σ', H', I, r, q⟩ := h; exact ⟨v, σ', H', I.unwish, r, q⟩
theorem PE.nox {e : Expr} {t : TE} (h : PE X.nox e t) : PE X e t := fun pins s σ H Q I hw =>
  wpAny_mono (h pins s σ H Q (I.wish _) hw) (fun _ _ ⟨v, H', I', r, q⟩ => ⟨v, H', I'.unwish, r, q⟩) fun _ _ z => False.elim z
theorem PT.nox {e : Expr} {t : TT} (h : PT X.nox e t) : PT X e t := fun pins s σ H Q I hw =>
  wpAny_mono (h pins s σ H Q (I.wish _) hw) (fun _ _ ⟨H', I', q⟩ => ⟨H', I'.unwish, q⟩) fun _ _ z => False.elim z
theorem PSs.nox {st : List Stmt} {t : TS} (h : PSs X.nox st t) : PSs X st t := fun pins s σ H D I hw =>
  wpAny_mono (h pins s σ H D (I.wish _) hw) (fun _ _ q => q.unwish) fun _ _ z => False.elim z
end

section
variable {X : Cx} {st : Stmt} {rest : List Stmt} {t u : TS} {e : Expr} {te : TE} {pos : Pos}
def tNext : TS := fun D σ H => D.nx σ H
def tSeq (t u : TS) : TS := fun D σ H => t { D with nx := u D } σ H
theorem pss_nil : PSs X [] tNext := fun _ _ σ H _ I h => wpAny_execs_nil ⟨σ, H, I, h⟩
theorem pss_cons (h1 : PS X st t) (h2 : PSs X rest u) : PSs X (st :: rest) (tSeq t u) := by
  intro pins s σ H D I h
  refine wpAny_execs_cons (thn (h1 pins s σ H { D with nx := u D } I h) fun f s1 q => ?_)
  cases f with
  | next =>
    obtain ⟨σ', H', I', q⟩ := q
    exact h2 pins s1 σ' H' D I' q
  | ret v => exact q
  | brk => exact q
  | cont => exact q
theorem pss_one (h1 : PS X st t) : PSs X [st] t := by
  intro pins s σ H D I h
  refine wpAny_execs_cons (thn (h1 pins s σ H D I h) fun f s1 q => ?_)
  cases f with
  | next => exact wpAny_execs_nil q
  | ret v => exact q
  | brk => exact q
  | cont => exact q
theorem Inv.quiet {pins : List (Addr × Obj)} {σ : St} {H : Hp} {s : Shared} (I : Inv X pins σ H s) : interactive X.env = false := by simp [interactive, I.ok.kind]
def tDrop (te : TE) : TS := fun D σ H => te σ H fun _ H1 => D.nx σ H1
theorem ps_expr (he : PE X e te) (hs : swapsWith e none pos.line X.env = pure false := by rfl) : PS X (.Expr e pos) (tDrop te) := by
  intro pins s σ H D I h
  exact wpAny_Expr_any (thn (he pins s σ H _ I h) fun v s1 ⟨x, H1, I1, r1, q1⟩ => ⟨σ, H1, I1, q1⟩) I.quiet hs
def tRet (te : TE) : TS := fun D σ H => te σ H D.rt
theorem ps_ret (he : PE X e te) : PS X (.Return (some e) pos) (tRet te) := by
  intro pins s σ H D I h
  exact wpAny_Return_some (thn (he pins s σ H _ I h) fun v s1 ⟨x, H1, I1, r1, q1⟩ => ⟨x, σ, H1, I1, r1, q1⟩)
def tIfS (c : TT) (t u : TS) : TS := fun D σ H => c σ H fun b H1 => if b = true then t D σ H1 else u D σ H1
theorem ps_if {c : Expr} {a b : List Stmt} {tc : TT} (hc : PT X c tc) (ha : PSs X a t) (hb : PSs X b u) : PS X (.If c a b pos) (tIfS tc t u) := by
  intro pins s σ H D I h
  refine wpAny_If (thn (hc pins s σ H _ I h) fun d s1 ⟨H1, I1, q1⟩ => ?_)
  cases d with
  | true => exact ha pins s1 σ H1 D I1 q1
  | false => exact hb pins s1 σ H1 D I1 q1
def tNever : TS := fun _ _ _ => False
theorem ps_never : PS X st tNever := fun _ _ _ _ _ _ h => h.elim
end

abbrev TG := V → St → Hp → (St → Hp → Prop) → Prop
abbrev TGs := List V → St → Hp → (St → Hp → Prop) → Prop
def PG (X : Cx) (target : Expr) (t : TG) : Prop :=
  ∀ (pins : List (Addr × Obj)) (s : Shared) (σ : St) (H : Hp) (v : V) (u : Value) (Q : St → Hp → Prop), Inv X pins σ H s → RelV v u → t v σ H Q →
    wpAny (model X.prog X.w) X.A (assign target X.env u) (fun _ s' => ∃ σ' H', Inv X pins σ' H' s' ∧ Q σ' H') X.xe s
def PGs (X : Cx) (ts : List Expr) (t : TGs) : Prop :=
  ∀ (pins : List (Addr × Obj)) (s : Shared) (σ : St) (H : Hp) (vs : List V) (us : List Value) (Q : St → Hp → Prop), Inv X pins σ H s → Vals vs us → t vs σ H Q →
    wpAny (model X.prog X.w) X.A (assignInOrder ((assignEach ts X.env).map (·.2)) us) (fun _ s' => ∃ σ' H', Inv X pins σ' H' s' ∧ Q σ' H') X.xe s
abbrev TSet := V → V → V → Hp → (Hp → Prop) → Prop
def PSet (X : Cx) (t : TSet) : Prop :=
  ∀ (pins : List (Addr × Obj)) (s : Shared) (σ : St) (H : Hp) (o i v : V) (ov iv u : Value) (Q : Hp → Prop), Inv X pins σ H s → RelV o ov → RelV i iv → RelV v u → t o i v H Q →
    wpAny (model X.prog X.w) X.A (setItem ov iv u) (fun _ s' => ∃ H', Inv X pins σ H' s' ∧ Q H') X.xe s
abbrev TIp := V → V → Hp → VK → Prop
def PIp (X : Cx) (op : Operator) (t : TIp) : Prop :=
  ∀ (pins : List (Addr × Obj)) (s : Shared) (σ : St) (H : Hp) (x y : V) (v u : Value) (Q : VK), Inv X pins σ H s → RelV x v → RelV y u → t x y H Q →
    wpAny (model X.prog X.w) X.A (inplaceOp op v u) (EP X pins σ Q) X.xe s
section
variable {X : Cx} {pos : Pos}
def gName (i : Nat) : TG := fun v σ H Q => Q (σ.set i (some v)) H
theorem pg_name {i : Nat} {x : Str} (hN : X.N.Nodup) (hi : X.N[i]? = some x) (hx : Loc X.env.scope x) (hf : X.fn x = true ∨ X.env.scope.names.lookup x = some .local := by first | exact .inl rfl | exact .inr rfl | assumption) : PG X (.Name x pos) (gName i) := by
  intro pins s σ H v u Q I r h
  exact wpAny_assign_Name (store_ok I hN hi hx r (fun s' I' => ⟨_, H, I', h⟩) hf)
def gNil : TGs := fun vs σ H Q => vs = [] ∧ Q σ H
def gCons (t : TG) (u : TGs) : TGs := fun vs σ H Q => ∃ v r, vs = v :: r ∧ t v σ H fun σ' H' => u r σ' H' Q
theorem pgs_nil : PGs X [] gNil := by
  intro pins s σ H vs us Q I r h
  obtain ⟨e, h⟩ := h
  subst e
  cases r
  exact assignInOrder_nil ⟨σ, H, I, h⟩
theorem pgs_cons {e : Expr} {es : List Expr} {t : TG} {u : TGs} (h1 : PG X e t) (h2 : PGs X es u)
    (hs : (assignEach (e :: es) X.env).map (·.2) = assign e X.env :: (assignEach es X.env).map (·.2) := by rfl) : PGs X (e :: es) (gCons t u) := by
  intro pins s σ H vs us Q I r h
  obtain ⟨v, vr, e1, h⟩ := h
  subst e1
  cases r with
  | cons r rr =>
    rw [hs]
    refine assignInOrder_cons (thn (h1 pins s σ H _ _ _ I r h) fun _ s1 ⟨σ1, H1, I1, q1⟩ => ?_)
    exact h2 pins s1 σ1 H1 _ _ Q I1 rr q1
def gTup (K : PySem.W.Frag) (n : Nat) (t : TGs) : TG := fun v σ H Q => ∃ a xs, v = .ref a ∧ SqT K H a xs ∧ xs.length = n ∧ t xs σ H Q
theorem pg_tup {es : List Expr} {k : Nat} {t : TGs} {n : Nat} (hc : X.calm = true) (h : PGs X es t)
    (hn : (assignEach es X.env).length = n := by rfl) (hst : (assignEach es X.env).findIdx? (·.1) = none := by rfl) : PG X (.Tuple es k pos) (gTup X.K n t) := by
  intro pins s σ H v u Q I r hw
  obtain ⟨a, xs, e1, hq, hl, hw⟩ := hw
  subst e1
  cases r
  obtain ⟨its, rv, ht, hz⟩ := I.tuple hq
  refine assign_Tuple_tuple (I.ok.hd hc) ht (by simp [hn, ← hl, rv.length]) hst fun h' hx => ?_
  have I1 : Inv X pins σ H { s with heap := h' } := I.kept (t' := s.toks) fun b o e => hx b o (Nat.ne_of_lt (Heap.lt_size e)) e
  exact h pins _ σ H xs _ Q I1 (by simpa using rv) hw
def gSub (to ti : TE) (t : TSet) : TG := fun v σ H Q => to σ H fun o H1 => ti σ H1 fun i H2 => t o i v H2 fun H3 => Q σ H3
theorem pg_sub {o i : Expr} {to ti : TE} {t : TSet} (ho : PE X o to) (hi : PE X i ti) (hs : PSet X t)
    (ha : ∀ v, assign (.Subscript o i pos) X.env v = (do
      let ov ← holding [v] (eval o X.env)
      let iv ← holding [v, ov] (eval i X.env)
      standAt pos
      holding [v, ov, iv] (setItem ov iv v)
      release [v, ov, iv] []) := by intro _; rfl) : PG X (.Subscript o i pos) (gSub to ti t) := by
  intro pins s σ H v u Q I r h
  rw [ha]
  refine wpAny_bind (wpAny_holding (thn (ho pins s σ H _ I h) fun ov s1 ⟨x, H1, I1, r1, q1⟩ => ?_))
  refine wpAny_bind (wpAny_holding (thn (hi pins s1 σ H1 _ I1 q1) fun iv s2 ⟨y, H2, I2, r2, q2⟩ => ?_))
  refine wpAny_bind (wpAny_standAt (wpAny_bind (wpAny_holding (thn (hs pins s2 σ H2 x y v ov iv u _ I2 r1 r2 r q2) fun _ s3 ⟨H3, I3, q3⟩ => ?_))))
  exact wpAny_release ⟨σ, H3, I3, q3⟩
def tAsg (te : TE) (g : TG) : TS := fun D σ H => te σ H fun x H1 => g x σ H1 D.nx
theorem ps_asg {tg e : Expr} {te : TE} {g : TG} (he : PE X e te) (hg : PG X tg g) (hs : swapsWithSole [tg] e pos.line X.env = pure false := by rfl) (hw : swappedStores [tg] e X.env = pure none := by rfl)
    (h1 : (assignEach [tg] X.env).map (·.2) = [assign tg X.env] := by rfl) : PS X (.Assign [tg] e pos) (tAsg te g) := by
  intro pins s σ H D I h
  refine wpAny_Assign_stores (thn (he pins s σ H _ I h) fun v s1 ⟨x, H1, I1, r1, q1⟩ => ?_) hs hw
  rw [h1]
  exact thn (hg pins s1 σ H1 x v _ I1 r1 q1) fun _ s2 q => q
theorem ps_set {i : Nat} {x : Str} {e : Expr} {te : TE} {pos' : Pos} (hN : X.N.Nodup) (hi : X.N[i]? = some x) (hx : Loc X.env.scope x) (he : PE X e te) (hs : swapsWith e (some (.Name x pos')) pos.line X.env = pure false := by rfl) (hf : X.fn x = true ∨ X.env.scope.names.lookup x = some .local := by first | exact .inl rfl | exact .inr rfl | assumption) :
    PS X (.Assign [.Name x pos'] e pos) (tAsg te (gName i)) := by
  intro pins s σ H D I h
  refine wpAny_Assign_Name (thn (he pins s σ H _ I h) fun v s1 ⟨y, H1, I1, r1, q1⟩ => ?_) hs
  exact store_ok I1 hN hi hx r1 (fun s2 I2 => ⟨_, H1, I2, q1⟩) hf
def tAug (i : Nat) (te : TE) (ti : TIp) : TS := fun D σ H => ∃ x, σ[i]? = some (some x) ∧ te σ H fun y H1 => ti x y H1 fun z H2 => D.nx (σ.set i (some z)) H2
theorem ps_aug {i : Nat} {x : Str} {e : Expr} {te : TE} {op : Operator} {ti : TIp} {pos' : Pos} (hN : X.N.Nodup) (hi : X.N[i]? = some x) (hx : Loc X.env.scope x) (he : PE X e te) (ho : PIp X op ti) (hf : X.fn x = true ∨ X.env.scope.names.lookup x = some .local := by first | exact .inl rfl | exact .inr rfl | assumption) :
    PS X (.AugAssign (.Name x pos') op e pos) (tAug i te ti) := by
  intro pins s σ H D I h
  obtain ⟨v, e1, h⟩ := h
  obtain ⟨m, hn, hl⟩ := I.loc
  have vis : Vis X.env.scope x := by rcases hx with k | k; exact .inl k; exact .inr (.inl k)
  obtain ⟨u, r, l⟩ := hl i x v hi e1 vis
  refine wpAny_AugAssign_Name ?_
  have go : wpAny (model X.prog X.w) X.A (eval e X.env) (fun w s₂ => wpAny (model X.prog X.w) X.A (inplaceOp op u w) (fun r s₃ => wpAny (model X.prog X.w) X.A (storeName X.env x r) (fun _ => SP X pins D .next) X.xe s₃) X.xe s₂) X.xe s := by
    refine thn (he pins s σ H _ I h) fun w s1 ⟨y, H1, I1, r1, q1⟩ => ?_
    refine thn (ho pins s1 σ H1 v y u w _ I1 r r1 q1) fun z s2 ⟨zv, H2, I2, r2, q2⟩ => ?_
    exact store_ok I2 hN hi hx r2 (fun s3 I3 => ⟨_, H2, I3, q2⟩) hf
  rcases l with ⟨hk, hm⟩ | ⟨hk, c, hc, hcell⟩
  · exact wpAny_loadName_local I.ok.kind hk hn hm go
  · rcases hk with hk | hk
    · exact wpAny_loadName_cell I.ok.kind hk hc hcell go
    · rcases hx with k | k
      · have : X.env.scope.names.lookup x = some .free := hk
        rw [k] at this; cases this
      · have : X.env.scope.names.lookup x = some .free := hk
        rw [k] at this; cases this
def tAugS (to ti te : TE) (tget : V → V → Hp → VK → Prop) (tip : TIp) (tset : TSet) : TS := fun D σ H => to σ H fun o H1 => ti σ H1 fun i H2 => tget o i H2 fun x H3 => te σ H3 fun y H4 => tip x y H4 fun z H5 => tset o i z H5 fun H6 => D.nx σ H6
def PGet (X : Cx) (t : V → V → Hp → VK → Prop) : Prop :=
  ∀ (pins : List (Addr × Obj)) (s : Shared) (σ : St) (H : Hp) (o i : V) (ov iv : Value) (Q : VK), Inv X pins σ H s → RelV o ov → RelV i iv → t o i H Q →
    wpAny (model X.prog X.w) X.A (getItem ov iv) (EP X pins σ Q) X.xe s
theorem ps_augS {o i e : Expr} {to ti te : TE} {tget : V → V → Hp → VK → Prop} {tip : TIp} {tset : TSet} {op : Operator} {tpos : Pos} (ho : PE X o to) (hi : PE X i ti) (hg : PGet X tget) (he : PE X e te) (hp : PIp X op tip) (hs : PSet X tset)
    (ha : ∀ ov iv new, augStore i ov iv new = (do holding [new, ov, iv] (setItem ov iv new); release [new, ov, iv] []; pure .next) := by intros; rfl) : PS X (.AugAssign (.Subscript o i tpos) op e pos) (tAugS to ti te tget tip tset) := by
  intro pins s σ H D I h
  refine wpAny_AugAssign_SubscriptAny (thn (ho pins s σ H _ I h) fun ov s1 ⟨x1, H1, I1, r1, q1⟩ => ?_) ha
  refine thn (hi pins s1 σ H1 _ I1 q1) fun iv s2 ⟨x2, H2, I2, r2, q2⟩ => ?_
  refine thn (hg pins s2 σ H2 x1 x2 ov iv _ I2 r1 r2 q2) fun old s3 ⟨x3, H3, I3, r3, q3⟩ => ?_
  refine thn (he pins s3 σ H3 _ I3 q3) fun v s4 ⟨x4, H4, I4, r4, q4⟩ => ?_
  refine thn (hp pins s4 σ H4 x3 x4 old v _ I4 r3 r4 q4) fun new s5 ⟨x5, H5, I5, r5, q5⟩ => ?_
  exact thn (hs pins s5 σ H5 x1 x2 x5 ov iv new _ I5 r1 r2 r5 q5) fun _ s6 ⟨H6, I6, q6⟩ => ⟨σ, H6, I6, q6⟩
def ipI (f : Int → Int → Int) : TIp := fun x y H Q => ∃ i j, x = .int i ∧ y = .int j ∧ Q (.int (f i j)) H
theorem ip_add : PIp X .Add (ipI fun i j => i + j) := by
  intro pins s σ H x y v u Q I r1 r2 h
  obtain ⟨i, j, e1, e2, q⟩ := h
  subst e1; subst e2
  obtain ⟨t, rfl⟩ := r1
  obtain ⟨t', rfl⟩ := r2
  exact iadd_int ⟨.int _, H, I.tok _, ⟨_, rfl⟩, q⟩
theorem ip_sub : PIp X .Sub (ipI fun i j => i - j) := by
  intro pins s σ H x y v u Q I r1 r2 h
  obtain ⟨i, j, e1, e2, q⟩ := h
  subst e1; subst e2
  obtain ⟨t, rfl⟩ := r1
  obtain ⟨t', rfl⟩ := r2
  exact isub_int ⟨.int _, H, I.tok _, ⟨_, rfl⟩, q⟩
end

section
variable {X : Cx} {pos : Pos}
def tWhile (c : TT) (tb : TS) : TS := fun D σ H => ∃ W : Nat → St → Hp → Prop, (∃ m, W m σ H) ∧ ∀ m σ H, W m σ H →
  c σ H fun b H1 => if b = true then ∃ N : St → Hp → Prop, (∀ σ' H', N σ' H' → ∃ m', m' < m ∧ W m' σ' H') ∧ tb { D with nx := N, ct := N, bk := D.nx } σ H1 else D.nx σ H1
theorem ps_while {c : Expr} {body : List Stmt} {tc : TT} {tb : TS} (hp : PassesOwn (model X.prog X.w) X.A X.env X.xe) (hc : PT X c tc) (hb : PSs X body tb) : PS X (.While c body [] pos) (tWhile tc tb) := by
  intro pins s σ H D I h
  obtain ⟨W, ⟨m0, w0⟩, turn⟩ := h
  refine wpAny_While (codeAny_whileLoop (fun n s' => ∃ σ' H', Inv X pins σ' H' s' ∧ W n σ' H') ?_ m0 ⟨σ, H, I, w0⟩)
  rintro n s1 ⟨σ1, H1, I1, w1⟩
  refine wpAny_passesOwn hp (thn (hc pins s1 σ1 H1 _ I1 (turn n σ1 H1 w1)) fun b s2 ⟨H2, I2, q2⟩ => ?_)
  cases b with
  | true =>
    obtain ⟨N, hN, q2⟩ := q2
    rw [if_pos rfl]
    refine wpAny_passesOwn hp (thn (hb pins s2 σ1 H2 _ I2 q2) fun f s3 q3 => ?_)
    cases f with
    | next =>
      obtain ⟨σ3, H3, I3, n3⟩ := q3
      obtain ⟨m', hm, w3⟩ := hN σ3 H3 n3
      exact ⟨m', hm, σ3, H3, I3, w3⟩
    | cont =>
      obtain ⟨σ3, H3, I3, n3⟩ := q3
      obtain ⟨m', hm, w3⟩ := hN σ3 H3 n3
      exact ⟨m', hm, σ3, H3, I3, w3⟩
    | brk => exact q3
    | ret v => exact q3
  | false =>
    rw [if_neg Bool.false_ne_true]
    exact wpAny_execs_nil ⟨σ1, H2, I2, q2⟩
end

structure It where
  go : Nat → Hp → Prop
  yld : Nat → Hp → V → Hp → Prop
  stop : Nat → Hp → Prop
def FpOk (X : Cx) (pins : List (Addr × Obj)) (H : Hp) (b : Addr) : Prop :=
  H b = none ∧ b ≠ X.env.locals ∧ b ∉ X.fs ∧ (b ∈ X.ex ∨ X.s₀.heap.objs.size ≤ b) ∧ (∀ x c, X.env.cells.lookup x = some c → c ≠ b) ∧ ∀ p ∈ X.pn ++ pins, p.1 ≠ b
theorem Inv.fpOk {X : Cx} {pins : List (Addr × Obj)} {σ : St} {H H' : Hp} {s : Shared} {b : Addr} (I : Inv X pins σ H s) (hb : s.heap.objs.size ≤ b) (hn : H' b = none) : FpOk X pins H' b := by
  refine ⟨hn, Nat.ne_of_gt (Nat.lt_of_lt_of_le I.lt hb), I.nofs hb, .inr (Nat.le_trans I.sz hb), fun x c e z => ?_, fun p hp z => ?_⟩
  · obtain ⟨v, q⟩ := I.cell x c e
    exact absurd (Nat.lt_of_lt_of_le q.lt (by rw [z]; exact hb)) (Nat.lt_irrefl _)
  · exact absurd (Nat.lt_of_lt_of_le (Heap.lt_size (I.pin p hp).1) (by rw [z]; exact hb)) (Nat.lt_irrefl _)
structure Turn (P : Program) (w : World) (K : PySem.W.Frag) (tg : Expr) (J : It) (fp : List Addr) (it : Addr) (tn : Nat → Heap → Prop) : Prop where
  mem : it ∈ fp
  obj : ∀ i h, tn i h → ∀ b ∈ fp, ∃ o, h.get? b = some o ∧ ∀ v, o.data ≠ .cell v
  keep : ∀ i h h', tn i h → (∀ b ∈ fp, ∀ o, h.get? b = some o → h'.get? b = some o) → tn i h'
  item : ∀ (X : Cx), X.prog = P → X.w = w → X.K = K → X.calm = true → ∀ (i : Nat) (pins : List (Addr × Obj)) (s : Shared) (σ : St) (H : Hp) (E : Value → Shared → Prop), Inv X pins σ H s → (∀ b ∈ fp, FpOk X pins H b) → tn i s.heap → J.go i H →
    wpAny (model P w) X.A (pyNext (.ref it)) (fun r s1 => ∃ u, r = some u ∧
      wpAny (model P w) X.A (letOwnedTupleGo tg (.ref it) u) (fun _ s2 => ∃ x H', Inv X pins σ H' s2 ∧ RelV x u ∧ J.yld i H x H' ∧ tn (i + 1) s2.heap ∧ ∀ b ∈ fp, H' b = none) E s1) E s
  done : ∀ (X : Cx), X.prog = P → X.w = w → X.K = K → X.calm = true → ∀ (i : Nat) (pins : List (Addr × Obj)) (s : Shared) (σ : St) (H : Hp) (E : Value → Shared → Prop), Inv X pins σ H s → (∀ b ∈ fp, FpOk X pins H b) → tn i s.heap → J.stop i H →
    wpAny (model P w) X.A (pyNext (.ref it)) (fun r s1 => r = none ∧ Inv X pins σ H s1) E s
  self : ∀ (A : Around) (i : Nat) (s : Shared) (Q : Value → Shared → Prop) (E : Value → Shared → Prop), tn i s.heap → Q (.ref it) s → wpAny (model P w) A (pyIter (.ref it)) Q E s
abbrev TI := St → Hp → (It → Hp → Prop) → Prop
def PIE (X : Cx) (pins : List (Addr × Obj)) (σ : St) (tg : Expr) (R : It → Hp → Prop) (itv : Value) (s2 : Shared) : Prop :=
  ∃ (it : Addr) (fp : List Addr) (tn : Nat → Heap → Prop) (J : It) (H' : Hp), itv = .ref it ∧ Inv X pins σ H' s2 ∧ Turn X.prog X.w X.K tg J fp it tn ∧ tn 0 s2.heap ∧ (∀ b ∈ fp, FpOk X pins H' b) ∧ R J H'
def PI (X : Cx) (tg iter : Expr) (wi : TI) : Prop :=
  ∀ (pins : List (Addr × Obj)) (s : Shared) (σ : St) (H : Hp) (R : It → Hp → Prop), Inv X pins σ H s → wi σ H R →
    wpAny (model X.prog X.w) X.A (eval iter X.env) (fun v s1 => wpAny (model X.prog X.w) X.A (pyIter v) (PIE X pins σ tg R) X.xe s1) X.xe s

theorem go_of {M : Model} {A : Around} {E : Value → Shared → Prop} {s : Shared} {tg : Expr} {it : Addr} {u : Value} {o : Obj} {n : String} {vs : Array Value} {Q : Unit → Shared → Prop} (ho : s.heap.get? it = some o) (hc : o.cls = .type n) (hd : o.data = .fields vs)
    (hn : ["enumerate", "zip", "dict_itemiterator", "dict_reverseitemiterator", "odict_iterator", "itertools.zip_longest", "itertools.pairwise"].contains n = false) (hQ : Q () s) : wpAny M A (letOwnedTupleGo tg (.ref it) u) Q E s := by
  unfold letOwnedTupleGo
  cases tg <;> first
    | exact wpAny_pure hQ
    | (cases u <;> first
        | exact wpAny_pure hQ
        | (refine wpAny_bind (wpAny_load ho ?_)
           rw [hc, hd]
           show wpAny M A (if (["enumerate", "zip", "dict_itemiterator", "dict_reverseitemiterator", "odict_iterator", "itertools.zip_longest", "itertools.pairwise"].contains n && vs[0]? == some (rawInt _)) = true then _ else _) Q E s
           rw [if_neg (by intro h; rw [hn, Bool.false_and] at h; cases h)]
           exact wpAny_pure hQ))

def Itl (K : PySem.W.Frag) (a : Addr) : It :=
  ⟨fun i H => ∃ xs x, SqL K H a xs ∧ xs[i]? = some x, fun i H x H' => H' = H ∧ ∀ xs, SqL K H a xs → xs[i]? = some x, fun i H => ∃ xs, SqL K H a xs ∧ xs.length ≤ i⟩
def Itr (lo : Int) (n : Nat) : It := ⟨fun i _ => i < n, fun i H x H' => H' = H ∧ x = .int (lo + i), fun i _ => n ≤ i⟩
theorem turn_list {P : Program} {w : World} {K : PySem.W.Frag} {tg : Expr} (a it : Addr) : Turn P w K tg (Itl K a) [it] it (fun i h => h.IsListIter it a i) where
  mem := by simp
  obj := fun i h st b hb => by
    have e : b = it := by simpa using hb
    subst e
    obtain ⟨o, e, c, d⟩ := st
    exact ⟨o, e, fun v z => by rw [d] at z; cases z⟩
  keep := fun i h h' st k => st.at fun o e => k it (by simp) o e
  item := by
    intro X hP hw hK hc i pins s σ H E I hf st hg
    subst hP hw hK
    obtain ⟨xs, x, hq, hx⟩ := hg
    obtain ⟨its, rv, p, hz⟩ := I.list hq
    obtain ⟨u, hu, ru⟩ := rv.get hx
    obtain ⟨f0, f1, f2, f3, f4, f5⟩ := hf it (by simp)
    refine wpAny_pyNext_list_item st p.isList (x := u) (by simpa using hu) fun h' st' sb => ?_
    have I1 : Inv X pins σ H { s with heap := h' } := I.turned (t' := s.toks) (fun b o hb e => (sb.2 b hb).trans e) f0 f1 f3 f4 f5
    obtain ⟨o, e, c, d⟩ := id st'
    exact ⟨u, rfl, go_of (s := { s with heap := h' }) e c d (by decide) ⟨x, H, I1, ru, ⟨rfl, fun ys hy => by rw [I.list_inj hy hq]; exact hx⟩, st', fun b hb => (hf b hb).1⟩⟩
  done := by
    intro X hP hw hK hc i pins s σ H E I hf st hg
    subst hP hw hK
    obtain ⟨xs, hq, hx⟩ := hg
    obtain ⟨its, rv, p, hz⟩ := I.list hq
    obtain ⟨f0, f1, f2, f3, f4, f5⟩ := hf it (by simp)
    have hl := rv.length
    exact wpAny_pyNext_list_end (I.ok.hd hc) st p.isList (by simp; omega) fun h' eb => ⟨rfl, I.turned (t' := s.toks) (fun b o hb e => eb b o hb e) f0 f1 f3 f4 f5⟩
  self := fun _ _ _ _ _ st h => wpAny_pyIter_listiter st h
theorem turn_range {P : Program} {w : World} {K : PySem.W.Frag} {tg : Expr} (it : Addr) (lo : Int) (n : Nat) : Turn P w K tg (Itr lo n) [it] it (fun i h => IsRangeIter h it (lo + (i : Nat) * 1) ((n : Int) - (i : Nat)) 1) where
  mem := by simp
  obj := fun i h st b hb => by
    have e : b = it := by simpa using hb
    subst e
    exact ⟨_, st, fun v z => by
      have z' : Data.fields _ = Data.cell v := z
      cases z'⟩
  keep := fun i h h' st k => k it (by simp) _ st
  item := by
    intro X hP hw hK hc i pins s σ H E I hf st hg
    subst hP hw hK
    obtain ⟨f0, f1, f2, f3, f4, f5⟩ := hf it (by simp)
    have W := Walks.range (prog := X.prog) (w := X.w) (I.ok.hd hc) it lo 1 n
    refine W.item i s _ _ hg st fun v h' tk hv st' kk => ?_
    obtain ⟨t, rfl⟩ := hv
    have I1 : Inv X pins σ H { s with heap := h', toks := tk } := I.turned (fun b o hb e => kk b o (by simpa using hb) e) f0 f1 f3 f4 f5
    refine ⟨_, rfl, go_of (s := { s with heap := h', toks := tk }) (n := "range_iterator") st' rfl rfl (by decide) ⟨.int (lo + i), H, I1, ⟨t, ?_⟩, ⟨rfl, rfl⟩, st', fun b hb => (hf b hb).1⟩⟩
    rw [Int.mul_one]
  done := by
    intro X hP hw hK hc i pins s σ H E I hf st hg
    subst hP hw hK
    obtain ⟨f0, f1, f2, f3, f4, f5⟩ := hf it (by simp)
    exact wpAny_pyNext_range_end (I.ok.hd hc) st (by have : n ≤ i := hg; omega) fun h' eb => ⟨rfl, I.turned (t' := s.toks) (fun b o hb e => eb b o hb e) f0 f1 f3 f4 f5⟩
  self := fun _ _ _ _ _ st h => wpAny_pyIter_rangeiter st h
end L2

namespace L2
open PySem PySem.Spec PyProof.Rows
section
variable {X : Cx} {tg : Expr}
def iList (K : PySem.W.Frag) (tl : TE) : TI := fun σ H R => tl σ H fun x H1 => ∃ a, x = .ref a ∧ (∃ xs, SqL K H1 a xs) ∧ R (Itl K a) H1
theorem pi_list {l : Expr} {tl : TE} (hl : PE X l tl) : PI X tg l (iList X.K tl) := by
  intro pins s σ H R I h
  refine thn (hl pins s σ H _ I h) fun v s1 ⟨x, H1, I1, r1, q1⟩ => ?_
  obtain ⟨a, e, ⟨xs, hq⟩, q⟩ := q1
  subst e
  cases r1
  obtain ⟨its, rv, p, hz⟩ := I1.list hq
  refine wpAny_pyIter_list p.isList ?_
  refine ⟨s1.heap.objs.size, [s1.heap.objs.size], _, _, H1, rfl, I1.kept (t' := s1.toks) fun b o e => Heap.get?_push_of_some _ e, turn_list a _, ⟨_, Heap.get?_push_size _ rfl, rfl, rfl⟩, fun b hb => ?_, q⟩
  have e : b = s1.heap.objs.size := by simpa using hb
  subst e
  exact I1.fpOk (Nat.le_refl _) (I1.hok.fresh (Nat.le_refl _))
theorem range_it {pins : List (Addr × Obj)} {σ : St} {H : Hp} {s : Shared} {R : It → Hp → Prop} {E : Value → Shared → Prop} {lo hi : Int} {t u v : Tok} {tk : Nat} (I : Inv X pins σ H s) (h1 : -(2 ^ 62) ≤ lo) (h2 : lo < 2 ^ 62) (h3 : -(2 ^ 62) ≤ hi) (h4 : hi < 2 ^ 62)
    (q : R (Itr lo (hi - lo).toNat) H) : wpAny (model X.prog X.w) X.A (pyIter (.ref s.heap.objs.size)) (PIE X pins σ tg R) E { s with heap := s.heap.push { cls := .type "range", data := .fields #[.int lo t, .int hi u, .int 1 v] }, toks := tk } := by
  refine wpAny_pyIter_range (IsRange.new ..) (small_one h1 h2 h3 h4) ?_
  have I1 : Inv X pins σ H { s with heap := s.heap.push { cls := .type "range", data := .fields #[.int lo t, .int hi u, .int 1 v] }, toks := tk } := I.kept fun b o e => Heap.get?_push_of_some _ e
  refine ⟨(s.heap.push { cls := .type "range", data := .fields #[.int lo t, .int hi u, .int 1 v] }).objs.size, [(s.heap.push { cls := .type "range", data := .fields #[.int lo t, .int hi u, .int 1 v] }).objs.size], _, _, H, rfl,
    I1.kept (t' := tk) fun b o e => Heap.get?_push_of_some _ e, turn_range _ lo (hi - lo).toNat, ?_, fun b hb => ?_, q⟩
  · have e1 : lo + ((0 : Nat) : Int) * 1 = lo := by simp
    have e2 : (((hi - lo).toNat : Nat) : Int) - ((0 : Nat) : Int) = Builtin.Range.rangeSize lo hi 1 := by rw [rangeSize_one]; split <;> omega
    show IsRangeIter _ _ (lo + ((0 : Nat) : Int) * 1) ((((hi - lo).toNat : Nat) : Int) - ((0 : Nat) : Int)) 1
    rw [e1, e2]
    exact Heap.get?_push_size _ rfl
  · have e : b = (s.heap.push { cls := .type "range", data := .fields #[.int lo t, .int hi u, .int 1 v] }).objs.size := by simpa using hb
    subst e
    exact I1.fpOk (Nat.le_refl _) (I1.hok.fresh (Nat.le_refl _))
def iRng1 (ta : TA) : TI := fun σ H R => ta σ H fun vs H1 => ∃ j : Int, vs = [.int j] ∧ -(2 ^ 62) ≤ j ∧ j < 2 ^ 62 ∧ R (Itr 0 j.toNat) H1
def iRng2 (ta : TA) : TI := fun σ H R => ta σ H fun vs H1 => ∃ i j : Int, vs = [.int i, .int j] ∧ (-(2 ^ 62) ≤ i ∧ i < 2 ^ 62 ∧ -(2 ^ 62) ≤ j ∧ j < 2 ^ 62) ∧ R (Itr i (j - i).toNat) H1
theorem pi_range1 {a : Expr} {ta : TA} {p pos : Pos} (hg : Gl X "range") (hm : X.mg "range" = none) (ha : PA X [a] ta) (hs : starEach [a] X.env = [(false, eval a X.env)] := by rfl) : PI X tg (.Call (.Name "range" p) [a] [] pos) (iRng1 ta) := by
  intro pins s σ H R I h
  refine Call_ (ld_blt I hg hm boot_range (PyProof.Rows.callWith_type1 (thn (ha pos pins s σ H _ I h) fun us s1 ⟨vs, H1, I1, r1, q1⟩ => ?_) hs rfl))
  obtain ⟨j, e, q1, q2, q⟩ := q1
  subst e
  cases r1 with
  | cons r rr =>
    cases rr
    obtain ⟨t, rfl⟩ := r
    exact call_range_1 (range_it I1 (by omega) (by omega) q1 q2 (by simpa using q))
theorem pi_range2 {a b : Expr} {ta : TA} {p pos : Pos} (hg : Gl X "range") (hm : X.mg "range" = none) (ha : PA X [a, b] ta) (hs : starEach [a, b] X.env = [(false, eval a X.env), (false, eval b X.env)] := by rfl) (hs2 : starEach [b] X.env = [(false, eval b X.env)] := by rfl) :
    PI X tg (.Call (.Name "range" p) [a, b] [] pos) (iRng2 ta) := by
  intro pins s σ H R I h
  refine Call_ (ld_blt I hg hm boot_range (PyProof.Rows.callWith_type1 (thn (ha pos pins s σ H _ I h) fun us s1 ⟨vs, H1, I1, r1, q1⟩ => ?_) (by rw [hs, hs2]) (by rw [hs2]; rfl)))
  obtain ⟨i, j, e, ⟨q1, q2, q3, q4⟩, q⟩ := q1
  subst e
  cases r1 with
  | cons r rr =>
    cases rr with
    | cons r' rr =>
      cases rr
      obtain ⟨t, rfl⟩ := r
      obtain ⟨t', rfl⟩ := r'
      exact call_range_2 (range_it I1 q1 q2 q3 q4 q)

def tFor (wi : TI) (g : TG) (tb : TS) : TS := fun D σ H => wi σ H fun J H1 => ∃ W : Nat → Nat → St → Hp → Prop, (∃ m, W 0 m σ H1) ∧ ∀ i m σ H, W i m σ H →
  (J.stop i H ∧ D.nx σ H) ∨ (J.go i H ∧ ∃ N : St → Hp → Prop, (∀ σ' H', N σ' H' → ∃ m', m' < m ∧ W (i + 1) m' σ' H') ∧ ∀ x H', J.yld i H x H' → g x σ H' fun σ2 H2 => tb { D with nx := N, ct := N, bk := D.nx } σ2 H2)
def pinsAt (fp : List Addr) (h : Heap) : List (Addr × Obj) := fp.filterMap fun b => (h.get? b).map fun o => (b, o)
theorem mem_pinsAt {fp : List Addr} {h : Heap} {b : Addr} {o : Obj} (hb : b ∈ fp) (e : h.get? b = some o) : (b, o) ∈ pinsAt fp h := List.mem_filterMap.mpr ⟨b, hb, by rw [e]; rfl⟩
theorem of_pinsAt {fp : List Addr} {h : Heap} {p : Addr × Obj} (hp : p ∈ pinsAt fp h) : p.1 ∈ fp ∧ h.get? p.1 = some p.2 := by
  obtain ⟨b, hb, e⟩ := List.mem_filterMap.mp hp
  cases q : h.get? b with
  | none => rw [q] at e; cases e
  | some o =>
    rw [q] at e
    have e' : (b, o) = p := Option.some.inj e
    subst e'
    exact ⟨hb, q⟩
theorem Inv.pinned {pins : List (Addr × Obj)} {σ : St} {H : Hp} {s : Shared} {fp : List Addr} (I : Inv X pins σ H s) (hf : ∀ b ∈ fp, FpOk X pins H b) (ho : ∀ b ∈ fp, ∃ o, s.heap.get? b = some o ∧ ∀ v, o.data ≠ .cell v) : Inv X (pins ++ pinsAt fp s.heap) σ H s :=
  I.pins_of fun p hp => (List.mem_append.mp hp).elim (fun z => I.pin p (List.mem_append_right _ z)) fun z => by
    obtain ⟨hb, e⟩ := of_pinsAt z
    obtain ⟨f0, f1, f2, _⟩ := hf p.1 hb
    obtain ⟨o, e', d⟩ := ho p.1 hb
    rw [e] at e'; cases e'
    exact ⟨e, f0, f1, f2, d⟩
theorem Inv.unpinned {pins pl : List (Addr × Obj)} {σ : St} {H : Hp} {s : Shared} (I : Inv X (pins ++ pl) σ H s) : Inv X pins σ H s := I.pins_of fun p hp => I.pin p (List.mem_append_right _ (List.mem_append_left _ hp))
theorem ps_for {iter : Expr} {body : List Stmt} {wi : TI} {g : TG} {tb : TS} {pos : Pos} (hp : PassesOwn (model X.prog X.w) X.A X.env X.xe) (hc : X.calm = true) (hi : PI X tg iter wi) (hg : PG X tg g) (hb : PSs X body tb)
    (hs : ∀ x, foldedSetIterable iter X.env x = pure x := by intro _; rfl) : PS X (.For tg iter body [] pos) (tFor wi g tb) := by
  intro pins s σ H D I h
  refine wpAny_For (thn (hi pins s σ H _ I h) fun v s1 h1 => thn h1 fun itv s2 h2 => ?_) hs
  obtain ⟨it, fp, tn, J, H2, e, I2, T, st2, f2, W, ⟨m0, w0⟩, turn⟩ := h2
  subst e
  -- what stays true of the iterator's objects through the loop
  have stat : ∀ {H' : Hp}, (∀ b ∈ fp, H' b = none) → ∀ b ∈ fp, FpOk X pins H' b := fun hn b hb => ⟨hn b hb, (f2 b hb).2⟩
  refine codeAny_forLoop_any (fun n s' => ∃ i σ' H', Inv X pins σ' H' s' ∧ tn i s'.heap ∧ (∀ b ∈ fp, H' b = none) ∧ W i n σ' H') ?_ m0 ⟨0, σ, H2, I2, st2, fun b hb => (f2 b hb).1, w0⟩
  rintro n s3 ⟨i, σ3, H3, I3, st3, fr3, w3⟩
  rcases turn i n σ3 H3 w3 with ⟨stop, qn⟩ | ⟨go, N, hN, step⟩
  · refine wpAny_passesOwn hp (thn (T.done X rfl rfl rfl hc i pins s3 σ3 H3 X.xe I3 (stat fr3) st3 stop) fun r s4 ⟨hr, I4⟩ => ?_)
    subst hr
    exact wpAny_execs_nil ⟨σ3, H3, I4, qn⟩
  · refine wpAny_passesOwn hp (thn (T.item X rfl rfl rfl hc i pins s3 σ3 H3 X.xe I3 (stat fr3) st3 go) fun r s4 ⟨u, hr, h4⟩ => ?_)
    subst hr
    refine wpAny_passesOwn hp (thn h4 fun _ s5 ⟨x, H5, I5, r5, y5, st5, fr5⟩ => ?_)
    have I5' := I5.pinned (stat fr5) (T.obj _ _ st5)
    refine wpAny_passesOwn hp (thn (hg _ s5 σ3 H5 x u _ I5' r5 (step x H5 y5)) fun _ s6 ⟨σ6, H6, I6, q6⟩ => ?_)
    refine wpAny_passesOwn hp (thn (hb _ s6 σ6 H6 _ I6 q6) fun f s7 q7 => ?_)
    have again : ∀ {σ7 : St} {H7 : Hp}, Inv X (pins ++ pinsAt fp s5.heap) σ7 H7 s7 → N σ7 H7 → ∃ m, m < n ∧ ∃ i σ' H', Inv X pins σ' H' s7 ∧ tn i s7.heap ∧ (∀ b ∈ fp, H' b = none) ∧ W i m σ' H' := fun {σ7 H7} I7 n7 => by
      obtain ⟨m', hm, w7⟩ := hN σ7 H7 n7
      refine ⟨m', hm, i + 1, σ7, H7, I7.unpinned, T.keep _ _ _ st5 fun b hb o e => (I7.pin (b, o) (List.mem_append_right _ (List.mem_append_right _ (mem_pinsAt hb e)))).1, fun b hb => ?_, w7⟩
      obtain ⟨o, e, d⟩ := T.obj _ _ st5 b hb
      exact (I7.pin (b, o) (List.mem_append_right _ (List.mem_append_right _ (mem_pinsAt hb e)))).2.1
    cases f with
    | next => obtain ⟨σ7, H7, I7, n7⟩ := q7; exact again I7 n7
    | cont => obtain ⟨σ7, H7, I7, n7⟩ := q7; exact again I7 n7
    | brk => obtain ⟨σ7, H7, I7, q7⟩ := q7; exact ⟨σ7, H7, I7.unpinned, q7⟩
    | ret v => obtain ⟨x7, σ7, H7, I7, r7, q7⟩ := q7; exact ⟨x7, σ7, H7, I7.unpinned, r7, q7⟩
end

theorem for_list {K : PySem.W.Frag} {a : Addr} {xs : List V} {g : TG} {tb : TS} {D : Ends} {σ : St} {H : Hp} (Pv : Nat → St → Hp → Prop) (h0 : Pv 0 σ H) (hl : ∀ i σ H, i ≤ xs.length → Pv i σ H → SqL K H a xs)
    (hs : ∀ i x σ H, xs[i]? = some x → Pv i σ H → g x σ H fun σ2 H2 => tb { D with nx := Pv (i + 1), ct := Pv (i + 1), bk := D.nx } σ2 H2) (hd : ∀ σ H, Pv xs.length σ H → D.nx σ H) :
    ∃ W : Nat → Nat → St → Hp → Prop, (∃ m, W 0 m σ H) ∧ ∀ i m σ H, W i m σ H →
      ((Itl K a).stop i H ∧ D.nx σ H) ∨ ((Itl K a).go i H ∧ ∃ N : St → Hp → Prop, (∀ σ' H', N σ' H' → ∃ m', m' < m ∧ W (i + 1) m' σ' H') ∧ ∀ x H', (Itl K a).yld i H x H' → g x σ H' fun σ2 H2 => tb { D with nx := N, ct := N, bk := D.nx } σ2 H2) := by
  refine ⟨fun i m σ H => m = xs.length - i ∧ i ≤ xs.length ∧ Pv i σ H, ⟨xs.length, by simp, Nat.zero_le _, h0⟩, ?_⟩
  rintro i m σ H ⟨rfl, hi, p⟩
  have q := hl i σ H hi p
  by_cases hlt : i < xs.length
  · refine .inr ⟨⟨xs, xs[i], q, by simp [hlt]⟩, Pv (i + 1), fun σ' H' p' => ⟨xs.length - (i + 1), by omega, rfl, hlt, p'⟩, fun x H' y => ?_⟩
    obtain ⟨e, y⟩ := y
    subst e
    exact hs i x σ _ (y xs q) p
  · have e : i = xs.length := by omega
    subst e
    exact .inl ⟨⟨xs, q, Nat.le_refl _⟩, hd σ H p⟩
theorem for_range {lo : Int} {n : Nat} {g : TG} {tb : TS} {D : Ends} {σ : St} {H : Hp} (Pv : Nat → St → Hp → Prop) (h0 : Pv 0 σ H)
    (hs : ∀ i σ H, i < n → Pv i σ H → g (.int (lo + i)) σ H fun σ2 H2 => tb { D with nx := Pv (i + 1), ct := Pv (i + 1), bk := D.nx } σ2 H2) (hd : ∀ σ H, Pv n σ H → D.nx σ H) :
    ∃ W : Nat → Nat → St → Hp → Prop, (∃ m, W 0 m σ H) ∧ ∀ i m σ H, W i m σ H →
      ((Itr lo n).stop i H ∧ D.nx σ H) ∨ ((Itr lo n).go i H ∧ ∃ N : St → Hp → Prop, (∀ σ' H', N σ' H' → ∃ m', m' < m ∧ W (i + 1) m' σ' H') ∧ ∀ x H', (Itr lo n).yld i H x H' → g x σ H' fun σ2 H2 => tb { D with nx := N, ct := N, bk := D.nx } σ2 H2) := by
  refine ⟨fun i m σ H => m = n - i ∧ i ≤ n ∧ Pv i σ H, ⟨n, by simp, Nat.zero_le _, h0⟩, ?_⟩
  rintro i m σ H ⟨rfl, hi, p⟩
  by_cases hlt : i < n
  · refine .inr ⟨hlt, Pv (i + 1), fun σ' H' p' => ⟨n - (i + 1), by omega, rfl, hlt, p'⟩, fun x H' y => ?_⟩
    obtain ⟨e, y⟩ := y
    subst e y
    exact hs i σ _ hlt p
  · have e : i = n := by omega
    subst e
    exact .inl ⟨Nat.le_refl _, hd σ H p⟩
end L2

namespace L2
open PySem PySem.Spec PyProof.Rows

abbrev R2 := V → V → Hp → VK → Prop
def OpR (X : Cx) (f : Value → Value → Sem Value) (r : R2) : Prop :=
  ∀ (pins : List (Addr × Obj)) (s : Shared) (σ : St) (H : Hp) (x y : V) (v u : Value) (Q : VK), Inv X pins σ H s → RelV x v → RelV y u → r x y H Q →
    wpAny (model X.prog X.w) X.A (f v u) (EP X pins σ Q) X.xe s
def UnR (X : Cx) (f : Value → Sem Value) (r : V → Hp → VK → Prop) : Prop :=
  ∀ (pins : List (Addr × Obj)) (s : Shared) (σ : St) (H : Hp) (x : V) (v : Value) (Q : VK), Inv X pins σ H s → RelV x v → r x H Q →
    wpAny (model X.prog X.w) X.A (f v) (EP X pins σ Q) X.xe s
def CallR (X : Cx) (f : Value) (r : List V → Hp → VK → Prop) : Prop :=
  ∀ (pins : List (Addr × Obj)) (s : Shared) (σ : St) (H : Hp) (xs : List V) (us : List Value) (Q : VK), Inv X pins σ H s → Vals xs us → r xs H Q →
    wpAny (model X.prog X.w) X.A (call f us) (EP X pins σ Q) X.xe s
def TruR (X : Cx) (r : V → Hp → (Bool → Hp → Prop) → Prop) : Prop :=
  ∀ (pins : List (Addr × Obj)) (s : Shared) (σ : St) (H : Hp) (x : V) (v : Value) (Q : Bool → Hp → Prop), Inv X pins σ H s → RelV x v → r x H Q →
    wpAny (model X.prog X.w) X.A (truthy v) (TP X pins σ Q) X.xe s

def tOp (r : R2) (ta tb : TE) : TE := fun σ H Q => ta σ H fun x H1 => tb σ H1 fun y H2 => r x y H2 Q
def tUn (r : V → Hp → VK → Prop) (ta : TE) : TE := fun σ H Q => ta σ H fun x H1 => r x H1 Q
def rI (C : Int → Int → Prop) (g : Int → Int → V) : R2 := fun x y H Q => ∃ i j, x = .int i ∧ y = .int j ∧ C i j ∧ Q (g i j) H
def rI0 (g : Int → Int → V) : R2 := fun x y H Q => ∃ i j, x = .int i ∧ y = .int j ∧ Q (g i j) H
def rU (g : Int → V) : V → Hp → VK → Prop := fun x H Q => ∃ i, x = .int i ∧ Q (g i) H

section
variable {X : Cx} {a b c : Expr} {ta tb tc : TE} {pos : Pos}

theorem binT (ha : PE X a ta) (hb : PE X b tb) {pins : List (Addr × Obj)} {s : Shared} {σ : St} {H : Hp} {R : V → V → Hp → Prop} (I : Inv X pins σ H s)
    (h : ta σ H fun x H1 => tb σ H1 fun y H2 => R x y H2) {Q : Value → Shared → Prop} {f : Value → Value → Sem Value}
    (hf : ∀ v u s2 x y H2, Inv X pins σ H2 s2 → RelV x v → RelV y u → R x y H2 → wpAny (model X.prog X.w) X.A (f v u) Q X.xe s2) :
    wpAny (model X.prog X.w) X.A (eval a X.env) (fun v s₁ => wpAny (model X.prog X.w) X.A (eval b X.env) (fun u s₂ => wpAny (model X.prog X.w) X.A (f v u) Q X.xe s₂) X.xe s₁) X.xe s := by
  refine thn (ha pins s σ H _ I h) fun v s1 ⟨x, H1, I1, r1, q1⟩ => ?_
  refine thn (hb pins s1 σ H1 _ I1 q1) fun u s2 ⟨y, H2, I2, r2, q2⟩ => ?_
  exact hf v u s2 x y H2 I2 r1 r2 q2

theorem pe_op {op : Operator} {r : R2} (ho : OpR X (binaryOp op) r) (ha : PE X a ta) (hb : PE X b tb) : PE X (.BinOp a op b pos) (tOp r ta tb) := by
  intro pins s σ H Q I h
  exact wpAny_BinOp (binT ha hb I h fun v u s2 x y H2 I2 rx ry q => ho pins s2 σ H2 x y v u Q I2 rx ry q)
theorem pe_un {op : UnaryOp} {r : V → Hp → VK → Prop} (ho : UnR X (unaryOp op) r) (ha : PE X a ta) : PE X (.UnaryOp op a pos) (tUn r ta) := by
  intro pins s σ H Q I h
  exact UnaryOp_ (thn (ha pins s σ H _ I h) fun v s1 ⟨x, H1, I1, r1, q1⟩ => ho pins s1 σ H1 x v Q I1 r1 q1)
theorem opI {f : Value → Value → Sem Value} {C : Int → Int → Prop} {g : Int → Int → Int}
    (rule : ∀ (i j : Int) (t u : Tok) (s : Shared) (Q : Value → Shared → Prop) (E : Value → Shared → Prop), C i j → Q (.int (g i j) s.toks) { s with toks := s.toks + 1 } → wpAny (model X.prog X.w) X.A (f (.int i t) (.int j u)) Q E s) :
    OpR X f (rI C fun i j => .int (g i j)) := by
  intro pins s σ H x y v u Q I rx ry h
  obtain ⟨i, j, rfl, rfl, hc, q⟩ := h
  obtain ⟨t, rfl⟩ := rx
  obtain ⟨t', rfl⟩ := ry
  exact rule i j t t' s _ _ hc ⟨.int (g i j), H, I.tok _, ⟨_, rfl⟩, q⟩
theorem opI0 {f : Value → Value → Sem Value} {g : Int → Int → Int}
    (rule : ∀ (i j : Int) (t u : Tok) (s : Shared) (Q : Value → Shared → Prop) (E : Value → Shared → Prop), Q (.int (g i j) s.toks) { s with toks := s.toks + 1 } → wpAny (model X.prog X.w) X.A (f (.int i t) (.int j u)) Q E s) :
    OpR X f (rI0 fun i j => .int (g i j)) := by
  intro pins s σ H x y v u Q I rx ry h
  obtain ⟨i, j, rfl, rfl, q⟩ := h
  obtain ⟨t, rfl⟩ := rx
  obtain ⟨t', rfl⟩ := ry
  exact rule i j t t' s _ _ ⟨.int (g i j), H, I.tok _, ⟨_, rfl⟩, q⟩
theorem opB0 {f : Value → Value → Sem Value} {g : Int → Int → Bool}
    (rule : ∀ (i j : Int) (t u : Tok) (s : Shared) (Q : Value → Shared → Prop) (E : Value → Shared → Prop), Q (.bool (g i j)) s → wpAny (model X.prog X.w) X.A (f (.int i t) (.int j u)) Q E s) :
    OpR X f (rI0 fun i j => .bl (g i j)) := by
  intro pins s σ H x y v u Q I rx ry h
  obtain ⟨i, j, rfl, rfl, q⟩ := h
  obtain ⟨t, rfl⟩ := rx
  obtain ⟨t', rfl⟩ := ry
  exact rule i j t t' s _ _ ⟨.bl (g i j), H, I, rfl, q⟩

def CDivN (i j : Int) : Prop := j ≠ 0 ∧ j.natAbs < 1073741824
def CPow (i j : Int) : Prop := 0 ≤ j ∧ j ≤ 1000000 ∧ i.natAbs < 2 ^ 64
def CMul (i j : Int) : Prop := (-(2 ^ 64) < i ∧ i < 2 ^ 64) ∨ (-(2 ^ 64) < j ∧ j < 2 ^ 64)
theorem CMul.ok {i j : Int} (h : CMul i j) : IntMulOk i j := by
  rcases h with ⟨h1, h2⟩ | ⟨h1, h2⟩
  · exact .of_left (intBits_le_64 h1 h2)
  · exact .of_right (intBits_le_64 h1 h2)
theorem op_add : OpR X (binaryOp .Add) (rI0 fun i j => .int (i + j)) := opI0 fun _ _ _ _ _ _ _ q => add_int q
theorem op_sub : OpR X (binaryOp .Sub) (rI0 fun i j => .int (i - j)) := opI0 fun _ _ _ _ _ _ _ q => sub_int q
theorem op_fdivN : OpR X (binaryOp .FloorDiv) (rI CDivN fun i j => .int (i.fdiv j)) := opI fun _ _ _ _ _ _ _ hc q => floordiv_int hc.1 q (.inl (PyProof.noPylong_small hc.2))
theorem op_modN : OpR X (binaryOp .Mod) (rI (fun _ j => j ≠ 0) fun i j => .int (i.fmod j)) := opI fun _ _ _ _ _ _ _ hc q => mod_int' hc q
theorem unI {f : Value → Sem Value} {g : Int → Int}
    (rule : ∀ (i : Int) (t : Tok) (s : Shared) (Q : Value → Shared → Prop) (E : Value → Shared → Prop), Q (.int (g i) s.toks) { s with toks := s.toks + 1 } → wpAny (model X.prog X.w) X.A (f (.int i t)) Q E s) :
    UnR X f (rU fun i => .int (g i)) := by
  intro pins s σ H x v Q I rx h
  obtain ⟨i, rfl, q⟩ := h
  obtain ⟨t, rfl⟩ := rx
  exact rule i t s _ _ ⟨.int (g i), H, I.tok _, ⟨_, rfl⟩, q⟩
theorem un_neg : UnR X (unaryOp .USub) (rU fun i => .int (-i)) := unI fun _ _ _ _ _ q => neg_int q
end

def scal : V → V → Bool
  | .non, .non => true | .non, .int _ => true | .int _, .non => true | .non, .bl _ => true | .bl _, .non => true | .non, .str _ => true | .str _, .non => true
  | .int _, .int _ => true | .bl _, .bl _ => true | .str _, .str _ => true | .byt _, .byt _ => true
  | .int _, .str _ => true | .str _, .int _ => true | .bl _, .str _ => true | .str _, .bl _ => true
  | _, _ => false
def rEq : R2 := fun x y H Q => scal x y = true ∧ Q (.bl (decide (x = y))) H
theorem dec_int {i j : Int} : decide (V.int i = V.int j) = (i == j) := by
  rw [Bool.eq_iff_iff]
  simp
theorem dec_bl {i j : Bool} : decide (V.bl i = V.bl j) = (i == j) := by
  rw [Bool.eq_iff_iff]
  simp
theorem dec_str {i j : Str} : decide (V.str i = V.str j) = (i == j) := by
  rw [Bool.eq_iff_iff]
  simp
theorem dec_byt {i j : Array UInt8} : decide (V.byt i = V.byt j) = (i.toList == j.toList) := by
  rw [Bool.eq_iff_iff]
  cases i
  cases j
  simp

section
variable {X : Cx} {a b c : Expr} {ta tb tc : TE} {pos : Pos}
theorem fin_bl {pins : List (Addr × Obj)} {σ : St} {H : Hp} {s : Shared} {Q : VK} {k k' : Bool} (I : Inv X pins σ H s) (q : Q (.bl k) H) (e : k = k') : EP X pins σ Q (.bool k') s := by
  subst e
  exact ⟨.bl k, H, I, rfl, q⟩
theorem op_eq : OpR X (compareOp .Eq) rEq := by
  intro pins s σ H x y v u Q I rx ry h
  obtain ⟨hs, q⟩ := h
  cases x with
  | non =>
    cases rx
    cases y with
    | non => cases ry; exact PySem.EqNone.eq_none_none (fin_bl I q (by simp))
    | bl j => cases ry; exact PySem.EqNone.eq_none_bool (fin_bl I q (by simp))
    | int j => obtain ⟨t', rfl⟩ := ry; exact PySem.EqNone.eq_none_int (fin_bl I q (by simp))
    | str j => obtain ⟨t', rfl⟩ := ry; exact PySem.EqNone.eq_none_str (fin_bl I q (by simp))
    | _ => exact absurd (show false = true from hs) Bool.false_ne_true
  | bl i =>
    cases rx
    cases y with
    | non => cases ry; exact PySem.EqNone.eq_bool_none (fin_bl I q (by simp))
    | bl j => cases ry; exact eq_bool (fin_bl I q dec_bl)
    | str j => obtain ⟨t', rfl⟩ := ry; exact PySem.EqMixed.eq_bool_str (fin_bl I q (by simp))
    | _ => exact absurd (show false = true from hs) Bool.false_ne_true
  | int i =>
    obtain ⟨t, rfl⟩ := rx
    cases y with
    | non => cases ry; exact PySem.EqNone.eq_int_none (fin_bl I q (by simp))
    | int j => obtain ⟨t', rfl⟩ := ry; exact eq_int (fin_bl I q dec_int)
    | str j => obtain ⟨t', rfl⟩ := ry; exact PySem.EqMixed.eq_int_str (fin_bl I q (by simp))
    | _ => exact absurd (show false = true from hs) Bool.false_ne_true
  | str i =>
    obtain ⟨t, rfl⟩ := rx
    cases y with
    | non => cases ry; exact PySem.EqNone.eq_str_none (fin_bl I q (by simp))
    | bl j => cases ry; exact PySem.EqMixed.eq_str_bool (fin_bl I q (by simp))
    | int j => obtain ⟨t', rfl⟩ := ry; exact PySem.EqMixed.eq_str_int (fin_bl I q (by simp))
    | str j => obtain ⟨t', rfl⟩ := ry; exact eq_str (fin_bl I q dec_str)
    | _ => exact absurd (show false = true from hs) Bool.false_ne_true
  | byt i =>
    obtain ⟨t, rfl⟩ := rx
    cases y with
    | byt j => obtain ⟨t', rfl⟩ := ry; exact PySem.W.eq_bytes (fin_bl I q dec_byt)
    | _ => exact absurd (show false = true from hs) Bool.false_ne_true
  | _ => cases y <;> exact absurd (show false = true from hs) Bool.false_ne_true
theorem op_lt : OpR X (compareOp .Lt) (rI0 fun i j => .bl (decide (i < j))) := opB0 fun _ _ _ _ _ _ _ q => lt_int q
theorem op_le : OpR X (compareOp .LtE) (rI0 fun i j => .bl (decide (i ≤ j))) := opB0 fun _ _ _ _ _ _ _ q => le_int q
theorem op_gt : OpR X (compareOp .Gt) (rI0 fun i j => .bl (decide (j < i))) := opB0 fun _ _ _ _ _ _ _ q => gt_int q
theorem op_ge : OpR X (compareOp .GtE) (rI0 fun i j => .bl (decide (j ≤ i))) := opB0 fun _ _ _ _ _ _ _ q => ge_int q
theorem OpR.or {f : Value → Value → Sem Value} {r r' : R2} (h : OpR X f r) (h' : OpR X f r') : OpR X f (fun x y H Q => r x y H Q ∨ r' x y H Q) := by
  intro pins s σ H x y v u Q I rx ry q
  rcases q with q | q
  · exact h pins s σ H x y v u Q I rx ry q
  · exact h' pins s σ H x y v u Q I rx ry q

theorem nomark (b : Expr) {op : CmpOp} (h : op ≠ .In := by decide) (h2 : op ≠ .NotIn := by decide) : behindInMarks op b = false := by
  have e1 : (op == CmpOp.In) = false := by cases op <;> first | rfl | exact absurd rfl h
  have e2 : (op == CmpOp.NotIn) = false := by cases op <;> first | rfl | exact absurd rfl h2
  cases b <;> simp [behindInMarks, e1, e2]
theorem pe_cmpR {op : CmpOp} {r : R2} (ho : OpR X (compareOp op) r) (ha : PE X a ta) (hb : PE X b tb) (hm : behindInMarks op b = false) : PE X (.Compare a [op] [b] pos) (tOp r ta tb) := by
  intro pins s σ H Q I h
  exact wpAny_Compare1 (binT ha hb I h fun v u s2 x y H2 I2 rx ry q => ho pins s2 σ H2 x y v u Q I2 rx ry q) hm
def tTest (t : TE) : TT := fun σ H Q => t σ H fun x H' => ∃ k, x = .bl k ∧ Q k H'
theorem pt_cmpR {op : CmpOp} {r : R2} (ho : OpR X (compareOp op) r) (ha : PE X a ta) (hb : PE X b tb) (hm : behindInMarks op b = false) : PT X (.Compare a [op] [b] pos) (tTest (tOp r ta tb)) := by
  intro pins s σ H Q I h
  refine wpAny_isTrue_Compare1 (thn (ha pins s σ H _ I h) fun v s1 ⟨x, H1, I1, r1, q1⟩ => thn (hb pins s1 σ H1 _ I1 q1) fun u s2 ⟨y, H2, I2, r2, q2⟩ =>
    thn (ho pins s2 σ H2 x y v u _ I2 r1 r2 q2) fun c s3 ⟨z, H3, I3, r3, k, e, q3⟩ => ?_) hm
  subst e
  cases r3
  exact wpAny_truthy_bool ⟨H3, I3, q3⟩
def tChain (r r' : R2) (ta tb tc : TE) : TE := fun σ H Q => ta σ H fun x H1 => tb σ H1 fun y H2 => r x y H2 fun z H3 => ∃ k, z = .bl k ∧
  (if k = true then tc σ H3 fun w' H4 => r' y w' H4 Q else Q (.bl false) H3)
theorem pt_chain {op op' : CmpOp} {r r' : R2} (ho : OpR X (compareOp op) r) (ho' : OpR X (compareOp op') r') (ha : PE X a ta) (hb : PE X b tb) (hc : PE X c tc)
    (hm : lastMarks [op, op'] [b, c] = false := by with_unfolding_all rfl) : PT X (.Compare a [op, op'] [b, c] pos) (tTest (tChain r r' ta tb tc)) := by
  intro pins s σ H Q I h
  refine isTrue_chain (thn (ha pins s σ H _ I h) fun v s1 ⟨x, H1, I1, r1, q1⟩ => test_link (thn (hb pins s1 σ H1 _ I1 q1) fun u s2 ⟨y, H2, I2, r2, q2⟩ =>
    thn (ho pins s2 σ H2 x y v u _ I2 r1 r2 q2) fun d s3 ⟨z, H3, I3, r3, k, e, q3⟩ => ?_)) hm
  subst e
  cases r3
  refine wpAny_truthy_bool ?_
  cases k with
  | false =>
    obtain ⟨k', e', q'⟩ := q3
    cases e'
    exact ite_ff ⟨H3, I3, q'⟩
  | true =>
    refine ite_tt (test_last (thn (hc pins s3 σ H3 _ I3 q3) fun w' s4 ⟨z', H4, I4, r4, q4⟩ => thn (ho' pins s4 σ H4 y z' u w' _ I4 r2 r4 q4) fun d' s5 ⟨z2, H5, I5, r5, k2, e2, q5⟩ => ?_))
    subst e2
    cases r5
    exact wpAny_truthy_bool ⟨H5, I5, q5⟩

def TruV (K : PySem.W.Frag) (x : V) (H : Hp) (k : Bool) : Prop :=
  match x with
  | .non => k = false
  | .bl b => k = b
  | .int i => k = (i != 0)
  | .str y => y.length ≤ sizeLine ∧ k = ((y.length : Int) != 0)
  | .byt y => y.size ≤ sizeLine ∧ k = ((y.size : Int) != 0)
  | .ref p => (∃ xs, SqL K H p xs ∧ k = !xs.isEmpty) ∨ (∃ xs, SqT K H p xs ∧ k = !xs.isEmpty) ∨ ∃ kvs, H p = some (.dK kvs) ∧ k = !kvs.isEmpty
  | _ => False
theorem isEmpty_kv {κ : Type} {kvs : List (κ × V)} {vs : List (κ × Value)} (r : KV kvs vs) : (!vs.isEmpty) = !kvs.isEmpty := by
  cases r <;> rfl
theorem isEmpty_of {xs : List V} {its : List Value} (r : Vals xs its) : (!its.toArray.isEmpty) = !xs.isEmpty := by
  cases r <;> simp
theorem line63 : (sizeLine : Nat) < 2 ^ 63 := by rw [sizeLine_eq]; decide
theorem tru_ok : TruR X (fun x H Q => ∃ k, TruV X.K x H k ∧ Q k H) := by
  intro pins s σ H x v Q I rx h
  obtain ⟨k, e, q⟩ := h
  have hl := line63
  have hs : sizeLine = 16777216 := sizeLine_eq
  cases x with
  | non =>
    cases rx
    have e' : k = false := e
    subst e'
    exact truthy_none ⟨H, I, q⟩
  | bl b =>
    cases rx
    have e' : k = b := e
    subst e'
    exact wpAny_truthy_bool ⟨H, I, q⟩
  | int i =>
    obtain ⟨t, rfl⟩ := rx
    have e' : k = (i != 0) := e
    subst e'
    exact PySem.P.truthy_int ⟨H, I, q⟩
  | str y =>
    obtain ⟨t, rfl⟩ := rx
    obtain ⟨hy, e'⟩ : y.length ≤ sizeLine ∧ k = ((y.length : Int) != 0) := e
    subst e'
    exact PySem.P.truthy_str (by omega) ⟨H, I.tok _, q⟩
  | byt y =>
    obtain ⟨t, rfl⟩ := rx
    obtain ⟨hy, e'⟩ : y.size ≤ sizeLine ∧ k = ((y.size : Int) != 0) := e
    subst e'
    exact PySem.W.truthy_bytes (by omega) ⟨H, I.tok _, q⟩
  | ref p =>
    cases rx
    have e' : (∃ xs, SqL X.K H p xs ∧ k = !xs.isEmpty) ∨ (∃ xs, SqT X.K H p xs ∧ k = !xs.isEmpty) ∨ ∃ kvs, H p = some (.dK kvs) ∧ k = !kvs.isEmpty := e
    rcases e' with ⟨xs, hx, e'⟩ | ⟨xs, hx, e'⟩ | ⟨kvs, hx, e'⟩
    · subst e'
      obtain ⟨its, r, pl, hz⟩ := I.list hx
      have hlen := r.length
      exact wpAny_truthy_list pl.isList (by simp only [List.size_toArray]; omega) ⟨H, I.tok _, by rw [isEmpty_of r]; exact q⟩
    · subst e'
      obtain ⟨its, r, pl, hz⟩ := I.tuple hx
      have hlen := r.length
      exact truthy_tuple pl (by simp only [List.size_toArray]; omega) ⟨H, I.tok _, by rw [isEmpty_of r]; exact q⟩
    · subst e'
      obtain ⟨hz, hS, vs, r, m⟩ : kvs.length ≤ sizeLine ∧ (p == sysModules) = false ∧ ∃ vs, KV kvs vs ∧ s.heap.DictOf (mixKind X.prog X.w) p vs := I.hok p _ hx
      have hlen : kvs.length = vs.length := Paired.length r
      exact wpAny_truthy_dict hS m (by omega) ⟨H, I.tok _, by rw [isEmpty_kv r]; exact q⟩
  | _ => exact (show False from e).elim
theorem pt_truth (ha : PE X a ta) (he : ∀ whole, isTrue a X.env whole = (do let v ← whole; standAt a.pos; holding [v] (truthy v))) :
    PT X a (fun σ H Q => ta σ H fun x H' => ∃ k, TruV X.K x H' k ∧ Q k H') := by
  intro pins s σ H Q I h
  exact isTrue_plain (thn (ha pins s σ H _ I h) fun v s1 ⟨x, H1, I1, r1, q1⟩ => tru_ok pins s1 σ H1 x v Q I1 r1 q1) (he _)

theorem vals1 {x : V} {us : List Value} (r : Vals [x] us) : ∃ u, us = [u] ∧ RelV x u := by
  cases r with
  | cons r1 r2 => cases r2; exact ⟨_, rfl, r1⟩
theorem vals2 {x y : V} {us : List Value} (r : Vals [x, y] us) : ∃ u w', us = [u, w'] ∧ RelV x u ∧ RelV y w' := by
  cases r with
  | cons r1 r2 =>
    cases r2 with
    | cons r3 r4 => cases r4; exact ⟨_, _, rfl, r1, r3⟩
theorem call_max2 (hc : X.calm = true) : CallR X (.builtin "max") (fun xs H Q => ∃ i j, xs = [.int i, .int j] ∧ Q (.int (if j > i then j else i)) H) := by
  intro pins s σ H xs us Q I r h
  obtain ⟨i, j, rfl, q⟩ := h
  obtain ⟨u, w', rfl, ⟨t, rfl⟩, ⟨t', rfl⟩⟩ := vals2 r
  refine max_two_ints (I.ok.hd hc) fun h' tk k => ⟨_, H, I.kept k, ?_, q⟩
  by_cases hj : j > i
  · rw [if_pos hj, if_pos hj]; exact ⟨_, rfl⟩
  · rw [if_neg hj, if_neg hj]; exact ⟨_, rfl⟩
theorem call_min2 (hc : X.calm = true) : CallR X (.builtin "min") (fun xs H Q => ∃ i j, xs = [.int i, .int j] ∧ Q (.int (if j < i then j else i)) H) := by
  intro pins s σ H xs us Q I r h
  obtain ⟨i, j, rfl, q⟩ := h
  obtain ⟨u, w', rfl, ⟨t, rfl⟩, ⟨t', rfl⟩⟩ := vals2 r
  refine min_two_ints (I.ok.hd hc) fun h' tk k => ⟨_, H, I.kept k, ?_, q⟩
  by_cases hj : j < i
  · rw [if_pos hj, if_pos hj]; exact ⟨_, rfl⟩
  · rw [if_neg hj, if_neg hj]; exact ⟨_, rfl⟩
end
end L2

namespace L2
open PySem PySem.Spec PyProof.Rows

structure ObjM (h : Heap) (x dx C : Addr) (mA : Str → Option Value) : Prop where
  obj : h.get? x = some (PySem.W.instObj C dx)
  ns : h.Ns1 dx mA
  ne : dx ≠ x

theorem lookIn_ns {h : Heap} {dx : Addr} {mA : Str → Option Value} (n : h.Ns1 dx mA) : ∃ od, h.get? dx = some od ∧ ∀ name, PySem.W.lookIn name od = some (mA name) := by
  obtain ⟨o, es, ep, ho, hd, hk, _, hm⟩ := n
  refine ⟨o, ho, fun name => ?_⟩
  have e := hm name
  unfold nsFind findBy at e
  rw [← Array.find?_toList] at e
  unfold PySem.W.lookIn
  rw [hd]
  dsimp only
  split
  · rename_i y q
    rw [q] at e
    exact congrArg some e
  · rename_i q
    rw [q] at e
    have a : es.toList.any (·.refKey) = false := by
      rw [List.any_eq_false]
      intro y hy
      obtain ⟨z, t, hkey⟩ := hk y (Array.mem_toList_iff.mp hy)
      simp [DictEntry.refKey, hkey]
    have a' : ¬ es.toList.any (·.refKey) = true := by rw [a]; exact Bool.false_ne_true
    rw [if_neg a']
    exact congrArg some e

theorem ObjM.look {h : Heap} {x dx C : Addr} {mA : Str → Option Value} (I : ObjM h x dx C mA) : ∃ od, PySem.W.InstAt h x (PySem.W.instObj C dx) C (some od) ∧ ∀ name, PySem.W.lookIn name od = some (mA name) :=
  let ⟨od, ho, hl⟩ := lookIn_ns I.ns
  ⟨od, ⟨I.obj, rfl, rfl, ho⟩, hl⟩

section
variable {prog : Program} {w : World} {A : Around} {E : Value → Shared → Prop} {s : Shared} {K : PySem.W.Frag} {x dx C f : Addr} {mA : Str → Option Value} {name : Str} {v : Value}

theorem get_map {expr : Bool} {Q : Value → Shared → Prop} (X : K.In s.heap) (I : ObjM s.heap x dx C mA) (hg : PySem.W.plainGet K C name = true) (hh : PySem.W.hasDictIn K C = true)
    (ha : PySem.W.findIn K (.ref C) name = some none) (hv : mA name = some v) (hv' : PySem.W.handedIn v = true) (h : Q v { s with toks := s.toks + 1 }) :
    wpAny (model prog w) A (getAttr (.ref x) name expr) Q E s := by
  obtain ⟨od, J, hl⟩ := I.look
  exact PySem.W.get_value X J (PySem.W.plainGet_of hg).1 (PySem.W.findObj_own hh ha rfl (by rw [hl, hv])) hv' h

theorem get_meth {pl : Sem Bool} {Q : Value × List Value → Shared → Prop} (X : K.In s.heap) (I : ObjM s.heap x dx C mA) (hg : PySem.W.plainGet K C name = true)
    (hf : PySem.W.findIn K (.ref C) name = some (some (.ref f))) (ht : PySem.W.isFn K (.ref f) = true) (hv : mA name = none) (h : Q (.ref f, [.ref x]) s) :
    wpAny (model prog w) A (getMethod (.ref x) name pl) Q E s := by
  obtain ⟨od, J, hl⟩ := I.look
  exact PySem.W.method_fn X J (PySem.W.plainGet_of hg).1 (PySem.W.plainGet_of hg).2 hf (beq_iff_eq.mp ht) (by show (PySem.W.lookIn name od).map (·.isSome) = some false; rw [hl, hv]; rfl) h

theorem set_map {ns : List Str} {Q : Unit → Shared → Prop} (X : K.In s.heap) (I : ObjM s.heap x dx C mA)
    (hs : PySem.W.findIn K (.ref C) "__setattr__" = some (some (.builtin "object.__setattr__"))) (hp : PySem.W.plainOver K C = true) (ht : PySem.W.takerIn K C name = some none) (hh : PySem.W.hasDictIn K C = true)
    (hw : PySem.Within mA ns) (hsz : ns.length ≤ sizeLine)
    (h : ∀ h', ObjM h' x dx C (fun y => if y = name then some v else mA y) → Heap.SameBut dx s.heap h' → Q () { s with heap := h', toks := s.toks + 2 }) :
    wpAny (model prog w) A (setAttr (.ref x) name v) Q E s := by
  obtain ⟨od, J, hl⟩ := I.look
  refine PySem.W.set_plain X J hs (PySem.W.osa_open (s := { s with toks := s.toks + 1 }) (r := none) X J hp ht fun b => ?_)
  obtain ⟨cd, hc, hd'⟩ := PySem.W.any_some hh
  have hx : s.heap.get? x = some ⟨.ref C, some dx, .plain, #[]⟩ := I.obj
  refine wpAny_bind (wpAny_pure (wpAny_bind (wpAny_bind (wpAny_loadPart hx (wpAny_bind (PySem.W.Looks.here (s := { s with toks := s.toks + 1 }) (PySem.W.looks_clsIn X hc) ?_))))))
  rw [hd']
  refine wpAny_pure (a := some dx) (wpAny_bind (wpAny_pure (wpAny_bind ?_)))
  refine wpAny_nsSet1 (s := { s with toks := s.toks + 1 }) I.ns fun h' hn2 hs2 => ?_
  obtain ⟨oD, esD, epD, hoD, hdD, hcD⟩ := hn2.count (PySem.Within.cons name v hw)
  refine wpAny_bind (wpAny_lookBehind hoD (by rw [hdD]; exact pastItsLine_dict (Nat.le_trans hcD (by rw [List.length_cons]; omega))) ?_)
  exact wpAny_pure (h _ ⟨(hs2.2 _ (Ne.symm I.ne)).trans I.obj, hn2, I.ne⟩ hs2)

theorem make_map {R : Result → Shared → Prop} {vs : List Value} {kw : List (Str × Value)} (X : K.In s.heap) (hm : PySem.W.makesIn K C = true)
    (hi : PySem.W.findIn K (.ref C) "__init__" = some (some (.ref f))) (hf : PySem.W.typeIn K (.ref f) = some (.type "function"))
    (h : codeAny (model prog w) (A.under (.builtin "type.__call__" ⟨.ref C :: vs, kw⟩)) (.call (.ref f) ⟨.ref (s.heap.objs.size + 1) :: vs, kw⟩) (PySem.W.InitBack (s.heap.objs.size + 1) R)
      { s with heap := (s.heap.push PySem.W.emptyDict).push (PySem.W.instObj C s.heap.objs.size) }) :
    codeAny (model prog w) A (.call (.ref C) ⟨vs, kw⟩) R s := by
  obtain ⟨hh, g, d, t, os⟩ := s
  exact PySem.W.make_core (PySem.W.makes_of X hm) (PySem.W.looks_findIn X hi) (fun self => PySem.W.bind_fn X self hf) (.inl rfl) h
end

def putF (f : Str) (v : V) : List (Str × V) → List (Str × V)
  | [] => [(f, v)]
  | (g, x) :: r => if g = f then (g, v) :: r else (g, x) :: putF f v r
theorem lookup_putF (f g : Str) (v : V) : ∀ fs : List (Str × V), (putF f v fs).lookup g = if g = f then some v else fs.lookup g
  | [] => by
    show List.lookup g [(f, v)] = _
    by_cases h : g = f
    · have hb : (g == f) = true := beq_iff_eq.mpr h
      simp only [List.lookup, hb, if_pos h]
    · have hb : (g == f) = false := beq_eq_false_iff_ne.mpr h
      simp only [List.lookup, hb, if_neg h]
  | (k, x) :: r => by
    have ih := lookup_putF f g v r
    rw [show putF f v ((k, x) :: r) = (if k = f then (k, v) :: r else (k, x) :: putF f v r) from rfl]
    by_cases hk : k = f
    · rw [if_pos hk]
      by_cases h : g = k
      · have hb : (g == k) = true := beq_iff_eq.mpr h
        simp only [List.lookup, hb, if_pos (h.trans hk)]
      · have hb : (g == k) = false := beq_eq_false_iff_ne.mpr h
        simp only [List.lookup, hb, if_neg (fun e : g = f => h (e.trans hk.symm))]
    · rw [if_neg hk]
      by_cases h : g = k
      · have hb : (g == k) = true := beq_iff_eq.mpr h
        simp only [List.lookup, hb, if_neg (fun e : g = f => hk (h.symm.trans e))]
      · have hb : (g == k) = false := beq_eq_false_iff_ne.mpr h
        simp only [List.lookup, hb]
        exact ih
theorem keys_putF (f : Str) (v : V) : ∀ fs : List (Str × V), f ∈ (putF f v fs).map (·.1) ∧ ∀ g, g ∈ fs.map (·.1) → g ∈ (putF f v fs).map (·.1)
  | [] => ⟨by simp [putF], fun g h => by simp at h⟩
  | (k, x) :: r => by
    obtain ⟨i1, i2⟩ := keys_putF f v r
    rw [show putF f v ((k, x) :: r) = (if k = f then (k, v) :: r else (k, x) :: putF f v r) from rfl]
    by_cases hk : k = f
    · rw [if_pos hk]
      subst hk
      exact ⟨by simp, fun g h => by simpa using h⟩
    · rw [if_neg hk]
      refine ⟨?_, fun g h => ?_⟩
      · rw [List.map_cons]
        exact List.mem_cons_of_mem _ i1
      · rw [List.map_cons] at h ⊢
        rcases List.mem_cons.mp h with e | e
        · exact List.mem_cons.mpr (.inl e)
        · exact List.mem_cons_of_mem _ (i2 g e)
theorem length_putF (f : Str) (v : V) : ∀ fs : List (Str × V), (putF f v fs).length ≤ fs.length + 1
  | [] => by simp [putF]
  | (k, x) :: r => by
    have ih := length_putF f v r
    rw [show putF f v ((k, x) :: r) = (if k = f then (k, v) :: r else (k, x) :: putF f v r) from rfl]
    by_cases hk : k = f
    · rw [if_pos hk, List.length_cons, List.length_cons]; omega
    · rw [if_neg hk, List.length_cons, List.length_cons]; omega

theorem RelO.some_of {v : V} {o : Option Value} (r : RelO (some v) o) : ∃ u, o = some u ∧ RelV v u := by
  cases o with
  | none => exact (show False from r).elim
  | some u => exact ⟨u, rfl, r⟩
theorem RelO.none_of {o : Option Value} (r : RelO none o) : o = none := by
  cases o with
  | none => rfl
  | some u => exact (show False from r).elim
theorem handed_of {v : V} {u : Value} (r : RelV v u) : PySem.W.handedIn u = true := by
  cases v with
  | non => cases (show u = Value.none from r); rfl
  | bl b => cases (show u = Value.bool b from r); rfl
  | int i => obtain ⟨t, e⟩ := (show ∃ t, u = Value.int i t from r); cases e; rfl
  | str x => obtain ⟨t, e⟩ := (show ∃ t, u = Value.str x t from r); cases e; rfl
  | byt b => obtain ⟨t, e⟩ := (show ∃ t, u = Value.bytes b t from r); cases e; rfl
  | flt b => obtain ⟨t, e⟩ := (show ∃ t, u = Value.float b t from r); cases e; rfl
  | ref a => cases (show u = Value.ref a from r); rfl
  | ty n => cases (show u = Value.type n from r); rfl

section
variable {P : Program} {w : World} {H H' : Hp} {h h' : Heap} {a C dx : Addr} {fs fs' : List (Str × V)}
theorem ins_get (hok : HOk P w H h) (e : H a = some (.ins C dx fs)) : ∃ mA, ObjM h a dx C mA ∧ (∀ f, RelO (fs.lookup f) (mA f)) ∧ PySem.Within mA (fs.map (·.1)) ∧ fs.length ≤ 1000 ∧ H dx = some (.own a) := by
  obtain ⟨d, z, ne, ob, mA, n, r, q⟩ := (show ObjOk P w H h a (.ins C dx fs) from hok a _ e)
  exact ⟨mA, ⟨ob, n, ne⟩, r, q, z, d⟩
end

structure Cls (K : PySem.W.Frag) (C : Addr) : Prop where
  pg : PySem.W.plainGet K C Str.empty = true
  hd : PySem.W.hasDictIn K C = true
  po : PySem.W.plainOver K C = true
  sa : PySem.W.findIn K (.ref C) "__setattr__" = some (some (.builtin "object.__setattr__"))
theorem Cls.get {K : PySem.W.Frag} {C : Addr} (c : Cls K C) (f : Str) : PySem.W.plainGet K C f = true := c.pg
def NoAttr (K : PySem.W.Frag) (C : Addr) (f : Str) : Prop := PySem.W.findIn K (.ref C) f = some none
theorem NoAttr.taker {K : PySem.W.Frag} {C : Addr} {f : Str} (n : NoAttr K C f) : PySem.W.takerIn K C f = some none := by
  unfold PySem.W.takerIn
  rw [show PySem.W.findIn K (.ref C) f = some none from n]
  rfl
structure Meth (K : PySem.W.Frag) (C : Addr) (m : Str) (f : Addr) : Prop where
  at_ : PySem.W.findIn K (.ref C) m = some (some (.ref f))
  fn : PySem.W.isFn K (.ref f) = true
  kp : PySem.W.keepIn K (.ref f) = true

section
variable {X : Cx} {pins : List (Addr × Obj)} {σ : St} {H : Hp} {s : Shared} {a C dx : Addr} {fs : List (Str × V)} {f : Str} {v : V} {A : Around} {E : Value → Shared → Prop}

theorem getattr_ok {b : Bool} {Q : Value → Shared → Prop} (I : Inv X pins σ H s) (e : H a = some (.ins C dx fs)) (c : Cls X.K C) (n : NoAttr X.K C f) (l : fs.lookup f = some v)
    (h : ∀ u s', Inv X pins σ H s' → RelV v u → Q u s') : wpAny (model X.prog X.w) A (getAttr (.ref a) f b) Q E s := by
  obtain ⟨mA, O, r, _, _, _⟩ := ins_get I.hok e
  obtain ⟨u, hu, ru⟩ := RelO.some_of (v := v) (o := mA f) (by rw [← l]; exact r f)
  exact get_map I.kIn O (c.get f) c.hd n hu (handed_of ru) (h u _ (I.tok _) ru)

theorem getmeth_ok {m : Str} {g : Addr} {pl : Sem Bool} {Q : Value × List Value → Shared → Prop} (I : Inv X pins σ H s) (e : H a = some (.ins C dx fs)) (c : Cls X.K C) (k : Meth X.K C m g) (l : fs.lookup m = none)
    (h : Q (.ref g, [.ref a]) s) : wpAny (model X.prog X.w) A (getMethod (.ref a) m pl) Q E s := by
  obtain ⟨mA, O, r, _, _, _⟩ := ins_get I.hok e
  have hn : mA m = none := RelO.none_of (by rw [← l]; exact r m)
  exact get_meth I.kIn O (c.get m) k.at_ k.fn hn h

theorem setattr_ok {y : V} {u : Value} {Q : Unit → Shared → Prop} (I : Inv X pins σ H s) (e : H a = some (.ins C dx fs)) (c : Cls X.K C) (n : NoAttr X.K C f) (hl : fs.length < 1000) (ry : RelV y u)
    (h : ∀ s', Inv X pins σ (upd H a (.ins C dx (putF f y fs))) s' → Q () s') : wpAny (model X.prog X.w) A (setAttr (.ref a) f u) Q E s := by
  obtain ⟨mA, O, r, wi, _, ho⟩ := ins_get I.hok e
  have hz : (fs.map (·.1)).length ≤ sizeLine := by rw [List.length_map, sizeLine_eq]; omega
  refine set_map I.kIn O c.sa c.po n.taker c.hd wi hz fun h' O' sb => h _ ?_
  have hd : ∃ o, h'.get? dx = some o := let ⟨o, _, _, e', _⟩ := O'.ns; ⟨o, e'⟩
  refine I.write (x := a) (e := dx) (by rw [e]; exact True.intro) (.inr ho) (fun b q hb z => (sb.2 b hb).trans z) hd ?_
  refine ⟨by rw [upd_ne O.ne]; exact ho, ?_, O.ne, O'.obj, _, O'.ns, fun g => ?_, fun g hg => ?_⟩
  · have := length_putF f y fs; omega
  · show RelO ((putF f y fs).lookup g) (if g = f then some u else mA g)
    rw [lookup_putF]
    by_cases q : g = f
    · rw [if_pos q, if_pos q]; exact ry
    · rw [if_neg q, if_neg q]; exact r g
  · by_cases q : g = f
    · rw [q]; exact (keys_putF f y fs).1
    · refine (keys_putF f y fs).2 g (wi g fun z => hg ?_)
      show (if g = f then some u else mA g) = none
      rw [if_neg q]; exact z

theorem Inv.made (I : Inv X pins σ H s) : Inv X pins σ (upd (upd H s.heap.objs.size (.own (s.heap.objs.size + 1))) (s.heap.objs.size + 1) (.ins C s.heap.objs.size []))
    { s with heap := (s.heap.push PySem.W.emptyDict).push (PySem.W.instObj C s.heap.objs.size) } := by
  have e1 : (s.heap.push PySem.W.emptyDict).get? s.heap.objs.size = some PySem.W.emptyDict := Heap.get?_push_size s.heap rfl
  have e2 : ((s.heap.push PySem.W.emptyDict).push (PySem.W.instObj C s.heap.objs.size)).get? (s.heap.objs.size + 1) = some (PySem.W.instObj C s.heap.objs.size) := by
    have := Heap.get?_push_size (s.heap.push PySem.W.emptyDict) (o := PySem.W.instObj C s.heap.objs.size) rfl
    rwa [Heap.size_push] at this
  have e3 : (s.heap.push PySem.W.emptyDict).Ns s.heap.objs.size (fun _ => none) := ⟨PySem.W.emptyDict, #[], _, e1, rfl, (fun e he => absurd he (by simp)), fun _ => rfl⟩
  have I1 := I.laid (a := s.heap.objs.size) (o := .own (s.heap.objs.size + 1)) (h' := s.heap.push PySem.W.emptyDict) (t' := s.toks) (fun b u q => Heap.get?_push_of_some _ q) (Nat.le_refl _) ⟨_, e1⟩
  refine I1.laid (a := s.heap.objs.size + 1) (o := .ins C s.heap.objs.size []) (t' := s.toks) (fun b u q => Heap.get?_push_of_some _ q) (Nat.le_of_eq (Heap.size_push _ _)) ?_
  have ne : s.heap.objs.size ≠ s.heap.objs.size + 1 := Nat.ne_of_lt (Nat.lt_succ_self _)
  refine ⟨by rw [upd_ne ne, upd_same], Nat.zero_le _, ne, e2, fun _ => none, (Heap.Ns1.of_empty e3).at fun o q => Heap.get?_push_of_some _ q, fun _ => True.intro, fun y hy => absurd rfl hy⟩

theorem attr_of {prog : Program} {w : World} {env : Env} {e : Expr} {f : Str} {pos : Pos} {s : Shared} {Q : Value → Shared → Prop} (hb : attributeBase e f env (eval e env) = eval e env)
    (h : wpAny (model prog w) A (eval e env) (fun o s₁ => wpAny (model prog w) A (getAttr o f true) Q E s₁) E s) : wpAny (model prog w) A (eval (.Attribute e f pos) env) Q E s :=
  Attribute_any_ h (by rw [arm_eval_Attribute, hb])
end

def tFld (K : PySem.W.Frag) (ta : TE) (f : Str) : TE := fun σ H Q => ta σ H fun x H1 => ∃ a C dx fs v, x = .ref a ∧ H1 a = some (.ins C dx fs) ∧ Cls K C ∧ NoAttr K C f ∧ fs.lookup f = some v ∧ Q v H1
def sFld (K : PySem.W.Frag) (ta tv : TE) (f : Str) : TS := fun D σ H => tv σ H fun y H1 => ta σ H1 fun x H2 => ∃ a C dx fs, x = .ref a ∧ H2 a = some (.ins C dx fs) ∧ Cls K C ∧ NoAttr K C f ∧ fs.length < 1000 ∧
  D.nx σ (upd H2 a (.ins C dx (putF f y fs)))
section
variable {X : Cx} {o e value : Expr} {f : Str} {pos pos' tpos : Pos} {ta tv : TE}
theorem pe_fld (he : PE X e ta) (hb : attributeBase e f X.env (eval e X.env) = eval e X.env) : PE X (.Attribute e f pos) (tFld X.K ta f) := by
  intro pins s σ H Q I h
  refine attr_of hb (thn (he pins s σ H _ I h) fun u s1 ⟨x, H1, I1, rx, a, C, dx, fs, v, ex, ea, c, n, l, q⟩ => ?_)
  subst ex
  obtain rfl : u = Value.ref a := rx
  exact getattr_ok I1 ea c n l fun u' s2 I2 ru => ⟨v, H1, I2, ru, q⟩
theorem ps_fld (ha : PE X o ta) (hv : PE X value tv) (hs : swapsWith value (some (.Attribute o f pos')) pos.line X.env = pure false) : PS X (.Assign [.Attribute o f pos'] value pos) (sFld X.K ta tv f) := by
  intro pins s σ H D I h
  refine plainObj_wpAny_Assign_Attribute (thn (hv pins s σ H _ I h) fun u s1 ⟨y, H1, I1, ry, q⟩ => thn (ha pins s1 σ H1 _ I1 q) fun ov s2 ⟨x, H2, I2, rx, a, C, dx, fs, ex, ea, c, n, l, q2⟩ => ?_) hs
  subst ex
  obtain rfl : ov = Value.ref a := rx
  exact setattr_ok I2 ea c n l ry fun s3 I3 => ⟨σ, _, I3, q2⟩
end

section
variable {X : Cx} {pins : List (Addr × Obj)} {σ : St} {H : Hp} {s : Shared} {A : Around} {E : Value → Shared → Prop} {Q : Value → Shared → Prop} {c : Value} {b : Bool}
inductive TyOf (K : PySem.W.Frag) (H : Hp) : V → Value → Prop where
  | non : TyOf K H .non (.type "NoneType")
  | bl (x : Bool) : TyOf K H (.bl x) (.type "bool")
  | int (i : Int) : TyOf K H (.int i) (.type "int")
  | str (x : Str) : TyOf K H (.str x) (.type "str")
  | flt (x : UInt64) : TyOf K H (.flt x) (.type "float")
  | lst {a : Addr} {xs : List V} (e : H a = some (.lst xs)) : TyOf K H (.ref a) (.type "list")
  | frz {a : Addr} {o : Obj} {xs : List V} (e : H a = some (.frz o (.lst xs))) : TyOf K H (.ref a) (.type "list")
  | tup {a : Addr} {xs : List V} (e : H a = some (.tup xs)) : TyOf K H (.ref a) (.type "tuple")
  | dK {a : Addr} {kvs : List (Key × V)} (e : H a = some (.dK kvs)) : TyOf K H (.ref a) (.type "dict")
  | dT {a : Addr} {kvs : List (List Key × V)} (e : H a = some (.dT kvs)) : TyOf K H (.ref a) (.type "dict")
  | ins {a C dx : Addr} {fs : List (Str × V)} (e : H a = some (.ins C dx fs)) (cl : Cls K C) (ha : PySem.W.findIn K (.ref C) "__class__" = some (some (.builtin "object.__class__")))
      (hn : PySem.W.specialIn K (.builtin "object.__class__") "__get__" = some (some (.builtin "getset_descriptor.__get__"))) (htk : PySem.W.takesIn K (.builtin "object.__class__") = some true)
      (hm : PySem.W.mroIn K C (.type "object") = some true) : TyOf K H (.ref a) (.ref C)
theorem isinst_ok {x : V} {u t : Value} (I : Inv X pins σ H s) (rx : RelV x u) (ty : TyOf X.K H x t) (e : PySem.W.kitOne X.K t c = some b) (h : ∀ tk, Q (.bool b) { s with toks := tk }) :
    wpAny (model X.prog X.w) A (call (.builtin "isinstance") [u, c]) Q E s := by
  cases ty with
  | non => cases (show u = Value.none from rx); exact PySem.W.kia_one PySem.W.kitx_none I.kIn True.intro e (fun z => nomatch z) h
  | bl y => cases (show u = Value.bool y from rx); exact PySem.W.kia_one PySem.W.kitx_bool I.kIn True.intro e (fun z => nomatch z) h
  | int i => obtain ⟨t, q⟩ := (show ∃ t, u = Value.int i t from rx); cases q; exact PySem.W.kia_one PySem.W.kitx_int I.kIn True.intro e (fun z => nomatch z) h
  | str y => obtain ⟨t, q⟩ := (show ∃ t, u = Value.str y t from rx); cases q; exact PySem.W.kia_one PySem.W.kitx_str I.kIn True.intro e (fun z => nomatch z) h
  | flt y => obtain ⟨t, q⟩ := (show ∃ t, u = Value.float y t from rx); cases q; exact PySem.W.kia_one PySem.W.kitx_float I.kIn True.intro e (fun z => nomatch z) h
  | @lst a xs ea =>
    cases (show u = Value.ref a from rx)
    obtain ⟨_, _, n, _, h1⟩ := (show ObjOk X.prog X.w H s.heap a (.lst xs) from I.hok a _ ea)
    exact PySem.W.kia_one PySem.W.kitx_list I.kIn ⟨_, h1, rfl⟩ e (fun z => nomatch z) h
  | @frz a ob xs ea =>
    cases (show u = Value.ref a from rx)
    obtain ⟨_, _, _, n, _, h1⟩ := (show ObjOk X.prog X.w H s.heap a (.frz ob (.lst xs)) from I.hok a _ ea)
    exact PySem.W.kia_one PySem.W.kitx_list I.kIn ⟨_, h1, rfl⟩ e (fun z => nomatch z) h
  | @tup a xs ea =>
    cases (show u = Value.ref a from rx)
    obtain ⟨_, _, _, p⟩ := (show ObjOk X.prog X.w H s.heap a (.tup xs) from I.hok a _ ea)
    obtain ⟨o, h1, h2, _⟩ := p
    exact PySem.W.kia_one PySem.W.kitx_tuple I.kIn ⟨o, h1, h2⟩ e (fun z => nomatch z) h
  | @dK a kvs ea =>
    cases (show u = Value.ref a from rx)
    obtain ⟨_, _, vs, _, p⟩ := (show ObjOk X.prog X.w H s.heap a (.dK kvs) from I.hok a _ ea)
    obtain ⟨o, es, ep, h1, h2, _⟩ := p
    exact PySem.W.kia_one PySem.W.kitx_dict I.kIn ⟨o, h1, h2.1⟩ e (fun z => nomatch z) h
  | @dT a kvs ea =>
    cases (show u = Value.ref a from rx)
    obtain ⟨_, _, xs, _, o, es, ep, h1, h2, _⟩ := (show ObjOk X.prog X.w H s.heap a (.dT kvs) from I.hok a _ ea)
    exact PySem.W.kia_one PySem.W.kitx_dict I.kIn ⟨o, h1, h2.1⟩ e (fun z => nomatch z) h
  | @ins a C dx fs ea cl ha hn htk hm =>
    cases (show u = Value.ref a from rx)
    obtain ⟨mA, O, _⟩ := ins_get I.hok ea
    obtain ⟨od, J, _⟩ := O.look
    exact PySem.W.kia_one (PySem.W.kitx_own (cl.get _) cl.hd ha hn htk hm) I.kIn J e (fun z => nomatch z) h
end
end L2

namespace L2
open PySem PySem.Spec PyProof.Rows

structure Room (k : Nat) (A : Around) : Prop where
  hd : A.handled = none
  dp : A.depth + 3 * k + 5 < recursionLimit
  un : A.units + 16 * k + 200 < cLine
theorem Room.mono {j k : Nat} {A : Around} (r : Room k A) (h : j ≤ k) : Room j A := ⟨r.hd, by have := r.dp; omega, by have := r.un; omega⟩
theorem Room.deeper {k : Nat} {A : Around} (r : Room (k + 1) A) (env : Env) : Room k (A.deeper env) :=
  ⟨r.hd, by have := r.dp; show A.depth + 1 + 3 * k + 5 < _; omega, by have := r.un; show A.units + 3 + 16 * k + 200 < _; omega⟩
theorem Room.in1 {k : Nat} {A : Around} (r : Room (k + 1) A) : Room k A.in1 :=
  ⟨r.hd, by have := r.dp; show A.depth + 3 * k + 5 < _; omega, by have := r.un; show A.units + 1 + 16 * k + 200 < _; omega⟩
theorem make_depth {A : Around} {C : Addr} {us : List Value} {kw : List (Str × Value)} : (A.under (.builtin "type.__call__" ⟨.ref C :: us, kw⟩)).depth = A.depth + 1 := by
  first | rfl | simp [Around.under, Code.weight, Code.isCreation, Code.isGuard, Code.isCaller, Code.frames, Code.isFrame, guardIds]
theorem make_units {A : Around} {C : Addr} {us : List Value} {kw : List (Str × Value)} : (A.under (.builtin "type.__call__" ⟨.ref C :: us, kw⟩)).units = A.units + 1 := by
  first | rfl | simp [Around.under, Code.cUnits, Code.frames, Code.isFrame]
theorem Room.make {k : Nat} {A : Around} (r : Room (k + 1) A) (C : Addr) (us : List Value) (kw : List (Str × Value)) : Room k (A.under (.builtin "type.__call__" ⟨.ref C :: us, kw⟩)) :=
  ⟨r.hd, by have := r.dp; rw [make_depth]; omega, by have := r.un; rw [make_units]; omega⟩
theorem Room.depth {k : Nat} {A : Around} (r : Room k A) : A.depth < recursionLimit := by have := r.dp; omega
theorem Room.units {k : Nat} {A : Around} (r : Room k A) : A.units + 64 < cLine := by have := r.un; omega
def tNil : TA := fun _ H Q => Q [] H
def tCons (ta : TE) (tr : TA) : TA := fun σ H Q => ta σ H fun x H1 => tr σ H1 fun xs H2 => Q (x :: xs) H2
section
variable {X : Cx} {e : Expr} {es : List Expr} {te : TE} {t : TA} {pos : Pos}
theorem pa_nil : PA X [] tNil := fun _ _ _ _ H Q I h => Calls.spliced_nil ⟨[], H, I, .nil, h⟩
theorem pa_cons (ha : PE X e te) (hr : PA X es t) (hs : starEach (e :: es) X.env = (false, eval e X.env) :: starEach es X.env := by rfl) : PA X (e :: es) (tCons te t) := by
  intro pos pins s σ H Q I h
  rw [hs]
  show wpAny _ _ (spliced ((false, eval e X.env) :: backTo pos (starEach es X.env))) _ _ s
  refine Calls.spliced_cons (thn (ha pins s σ H _ I h) fun u s1 ⟨x, H1, I1, r1, q1⟩ => ?_)
  exact thn (hr pos pins s1 σ H1 _ I1 q1) fun us s2 ⟨xs, H2, I2, r2, q2⟩ => ⟨x :: xs, H2, I2, .cons r1 r2, q2⟩

def tTup (t : TA) : TE := fun σ H Q => t σ H fun xs H1 => xs.length ≤ sizeLine ∧ ∀ p, H1 p = none → Q (.ref p) (upd H1 p (.tup xs))
def tLst (t : TA) : TE := fun σ H Q => t σ H fun xs H1 => xs.length ≤ sizeLine ∧ ∀ p, H1 p = none → Q (.ref p) (upd H1 p (.lst xs))
theorem pe_tup {x1} (h : PA X es t) : PE X (.Tuple es x1 pos) (tTup t) := by
  intro pins s σ H Q I hq
  refine wpAny_Tuple_spliced (thn (h pos pins s σ H _ I hq) fun us s1 ⟨xs, H1, I1, r, z, q⟩ => ⟨by rw [← r.length]; exact z, ?_⟩)
  have hf : H1 s1.heap.objs.size = none := I1.hok.fresh (Nat.le_refl _)
  refine ⟨.ref s1.heap.objs.size, upd H1 s1.heap.objs.size (.tup xs), I1.laid (t' := s1.toks) (fun b u e => Heap.get?_push_of_some _ e) (Nat.le_refl _) ?_, rfl, q _ hf⟩
  exact ⟨z, us, r, ⟨_, Heap.get?_push_size _ rfl, rfl, _, rfl⟩⟩
theorem pe_lst (h : PA X es t) : PE X (.List es pos) (tLst t) := by
  intro pins s σ H Q I hq
  refine wpAny_List_spliced (thn (h pos pins s σ H _ I hq) fun us s1 ⟨xs, H1, I1, r, z, q⟩ => ⟨by rw [← r.length]; exact z, ?_⟩)
  have hf : H1 s1.heap.objs.size = none := I1.hok.fresh (Nat.le_refl _)
  refine ⟨.ref s1.heap.objs.size, upd H1 s1.heap.objs.size (.lst xs), I1.laid (t' := s1.toks) (fun b u e => Heap.get?_push_of_some _ e) (Nat.le_refl _) ?_, rfl, q _ hf⟩
  exact ⟨z, us, 0, r, Heap.get?_push_size _ rfl⟩
end

abbrev Sp := List V → Hp → VK → XK → Prop
abbrev CXT := List Env → Hp → Shared → XK → Value → Shared → Prop

structure Env0 (P : Program) (w : World) (K : PySem.W.Frag) (mg : Str → Option Value) (base : Heap) (A : Around) (outer : List Env) (s : Shared) (H : Hp) : Prop where
  frames : A.frames = some outer
  mod : Mod K mg base
  bs : ∀ b o, base.get? b = some o → s.heap.get? b = some o ∧ H b = none
  bsz : base.objs.size ≤ s.heap.objs.size
  funs : s.heap.FunFrames base outer
  frf : ∀ b ∈ frs outer, H b = none
  hok : HOk P w H s.heap
  bare : AllBare s.gens
def CE (outer : List Env) (P : Program) (w : World) (H : Hp) (s : Shared) (Q : VK) (u : Value) (s' : Shared) : Prop :=
  ∃ v H', s'.os = s.os ∧ AllBare s'.gens ∧ Un (frs outer) [] H H' s.heap s'.heap ∧ HOk P w H' s'.heap ∧ RelV v u ∧ Q v H'
def CR (CX : CXT) (outer : List Env) (P : Program) (w : World) (H : Hp) (s : Shared) (Q : VK) (E : XK) (r : Result) (s' : Shared) : Prop :=
  match r with
  | .ok (.ret u) => CE outer P w H s Q u s'
  | .ok _ => False
  | .error e => CX outer H s E e s'
structure FnOk (P : Program) (w : World) (K : PySem.W.Frag) (mg : Str → Option Value) (base : Heap) (CX : CXT) (k : Nat) (f : Addr) (fd : FuncData) (ps : List Str) (sp : Sp) : Prop where
  len : ∀ vs H Q E, sp vs H Q E → vs.length = ps.length
  run : ∀ (A : Around) (outer : List Env) (s : Shared) (H : Hp) (args : Args) (us : List Value) (vs : List V) (Q : VK) (E : XK), Room k A → Env0 P w K mg base A outer s H → BindsTo s fd args (ps.zip us) → Vals vs us → sp vs H Q E →
    codeAny (model P w) A (.call (.ref f) args) (CR CX outer P w H s Q E) s
theorem FnOk.mono {P : Program} {w : World} {K : PySem.W.Frag} {mg : Str → Option Value} {base : Heap} {CX : CXT} {j k : Nat} {f : Addr} {fd : FuncData} {ps : List Str} {sp : Sp} (F : FnOk P w K mg base CX j f fd ps sp) (h : j ≤ k) :
    FnOk P w K mg base CX k f fd ps sp := ⟨F.len, fun A outer s H args us vs Q E hr => F.run A outer s H args us vs Q E (hr.mono h)⟩
theorem FnOk.imp {P : Program} {w : World} {K : PySem.W.Frag} {mg : Str → Option Value} {base : Heap} {CX : CXT} {k : Nat} {f : Addr} {fd : FuncData} {ps : List Str} {sp sp' : Sp} (F : FnOk P w K mg base CX k f fd ps sp)
    (h : ∀ vs H Q E, sp' vs H Q E → sp vs H Q E) : FnOk P w K mg base CX k f fd ps sp' :=
  ⟨fun vs H Q E q => F.len vs H Q E (h _ _ _ _ q), fun A outer s H args us vs Q E hr he hb hv hs => F.run A outer s H args us vs Q E hr he hb hv (h _ _ _ _ hs)⟩

theorem Env0.make {P : Program} {w : World} {K : PySem.W.Frag} {mg : Str → Option Value} {base : Heap} {A : Around} {outer : List Env} {s : Shared} {H : Hp} (e : Env0 P w K mg base A outer s H) (C : Addr) (us : List Value) (kw : List (Str × Value)) :
    Env0 P w K mg base (A.under (.builtin "type.__call__" ⟨.ref C :: us, kw⟩)) outer s H := ⟨by first | exact e.frames | (simpa [Around.under, Code.envs, Code.isFrame, pushEnvs] using e.frames), e.mod, e.bs, e.bsz, e.funs, e.frf, e.hok, e.bare⟩
theorem Env0.in1 {P : Program} {w : World} {K : PySem.W.Frag} {mg : Str → Option Value} {base : Heap} {A : Around} {outer : List Env} {s : Shared} {H : Hp} (e : Env0 P w K mg base A outer s H) :
    Env0 P w K mg base A.in1 outer s H := ⟨e.frames, e.mod, e.bs, e.bsz, e.funs, e.frf, e.hok, e.bare⟩

section
variable {X : Cx} {pins : List (Addr × Obj)} {σ : St} {H : Hp} {s s' : Shared}
theorem Inv.env0 (I : Inv X pins σ H s) : Env0 X.prog X.w X.K X.mg X.base X.A X.stack s H :=
  ⟨I.ok.frames, I.ok.mod, I.bs, Nat.le_trans I.ok.bsz I.sz, I.stack, I.stkFree, I.hok, I.bare⟩
theorem Inv.after {Q : VK} {u : Value} (I : Inv X pins σ H s) (h : CE X.stack X.prog X.w H s Q u s') : EP X pins σ Q u s' := by
  obtain ⟨v, H', os, bare, un, hok, r, q⟩ := h
  obtain ⟨hh, g, d, t, os'⟩ := s'
  obtain rfl : os' = s.os := os
  exact ⟨v, H', I.call (h' := hh) (g' := g) (d' := d) (t' := t) (ch := []) un hok bare (fun b z => absurd z (by simp)), r, q⟩
end

def tCall (sp : Sp) (dvs : List V) (E : XK) (t : TA) : TE := fun σ H Q => t σ H fun vs H1 => sp (vs ++ dvs) H1 Q E
def tMake (C : Addr) (sp : Sp) (dvs : List V) (E : XK) (t : TA) : TE := fun σ H Q => t σ H fun vs H1 => ∀ x dx, H1 x = none → H1 dx = none → dx ≠ x →
  sp (.ref x :: (vs ++ dvs)) (upd (upd H1 dx (.own x)) x (.ins C dx [])) (fun v H2 => v = .non ∧ Q (.ref x) H2) E

def Binds (K : PySem.W.Frag) (fd : FuncData) (ps : List Str) (ds : List Value) : Prop :=
  ∀ (s : Shared) (us : List Value), K.In s.heap → (us ++ ds).length = ps.length → BindsTo s fd ⟨us, []⟩ (ps.zip (us ++ ds))
theorem Binds.all {K : PySem.W.Frag} {fd : FuncData} {ps : List Str} (h : ∀ us : List Value, us.length = ps.length → bindArgs fd ⟨us, []⟩ = pure (ps.zip us)) : Binds K fd ps [] := fun s us _ hl => by
  rw [List.append_nil] at hl ⊢
  exact .of_eq (h us hl)

def Passes (CX : CXT) (X : Cx) (E : XK) : Prop := ∀ (pins : List (Addr × Obj)) (σ : St) (H : Hp) (s : Shared) (e : Value) (s' : Shared), Inv X pins σ H s → CX X.stack H s E e s' → X.xe e s'

section
variable {X : Cx} {CX : CXT} {k : Nat} {f C : Addr} {fd : FuncData} {ps : List Str} {sp : Sp} {dvs : List V} {ds : List Value} {E : XK} {x m : Str} {p pos apos : Pos} {e o : Expr} {es : List Expr} {ta : TE} {t : TA}

theorem run_fn {pins : List (Addr × Obj)} {σ : St} {H : Hp} {s : Shared} {Q : VK} {us : List Value} {vs : List V} (F : FnOk X.prog X.w X.K X.mg X.base CX k f fd ps sp) (hr : Room k X.A) (hb : Binds X.K fd ps ds) (hd : Vals dvs ds) (hx : Passes CX X E)
    (I : Inv X pins σ H s) (r : Vals vs us) (h : sp (vs ++ dvs) H Q E) : wpAny (model X.prog X.w) X.A (call (.ref f) us) (EP X pins σ Q) X.xe s := by
  have r2 : Vals (vs ++ dvs) (us ++ ds) := r.append hd
  have hl : (us ++ ds).length = ps.length := by rw [← r2.length]; exact F.len _ _ _ _ h
  refine wpAny_call (codeAny_mono (F.run X.A X.stack s H ⟨us, []⟩ (us ++ ds) (vs ++ dvs) Q E hr I.env0 (hb s us I.kIn hl) r2 h) fun r s' hq => ?_)
  cases r with
  | error e => exact hx pins σ H s e s' I hq
  | ok fl =>
    cases fl with
    | ret u => exact I.after hq
    | next => exact False.elim hq
    | brk => exact False.elim hq
    | cont => exact False.elim hq

theorem pe_call (F : FnOk X.prog X.w X.K X.mg X.base CX k f fd ps sp) (hr : Room k X.A) (hg : Gl X x) (hm : X.mg x = some (.ref f)) (hk : PySem.W.keepIn X.K (.ref f) = true) (hb : Binds X.K fd ps ds) (hd : Vals dvs ds) (hx : Passes CX X E)
    (ha : PA X (e :: es) t) (hdb : (x == ("__debug__" : Str)) = false := by decide) (he : starEach (e :: es) X.env = (false, eval e X.env) :: starEach es X.env := by rfl) (hpl : (backTo pos (starEach es X.env)).any (·.1) = false := by rfl) :
    PE X (.Call (.Name x p) (e :: es) [] pos) (tCall sp dvs E t) := by
  intro pins s σ H Q I h
  refine wpAny_Call_Name_kw (ld_glob I hg hm ?_ hdb)
  refine PySem.W.callWith_K (h₀ := X.base) I.ok.mod.kin hk (thn (ha pos pins s σ H _ I h) fun us s1 ⟨vs, H1, I1, r, q⟩ => ⟨I1.kIn, ?_⟩) he hpl
  exact run_fn F hr hb hd hx I1 r q
structure Mk (K : PySem.W.Frag) (C f : Addr) : Prop where
  makes : PySem.W.makesIn K C = true
  init : PySem.W.findIn K (.ref C) "__init__" = some (some (.ref f))
  fn : PySem.W.isFn K (.ref f) = true
  kp : PySem.W.keepIn K (.ref C) = true

theorem run_make {pins : List (Addr × Obj)} {σ : St} {H : Hp} {s : Shared} {Q : VK} {us : List Value} {vs : List V} (M : Mk X.K C f) (F : FnOk X.prog X.w X.K X.mg X.base CX k f fd ps sp) (hr : Room (k + 1) X.A) (hb : Binds X.K fd ps ds) (hd : Vals dvs ds)
    (hx : Passes CX X E) (I : Inv X pins σ H s) (r : Vals vs us)
    (h : ∀ x dx, H x = none → H dx = none → dx ≠ x → sp (.ref x :: (vs ++ dvs)) (upd (upd H dx (.own x)) x (.ins C dx [])) (fun v H2 => v = .non ∧ Q (.ref x) H2) E) :
    wpAny (model X.prog X.w) X.A (call (.ref C) us) (EP X pins σ Q) X.xe s := by
  have hq := h (s.heap.objs.size + 1) s.heap.objs.size (I.hok.fresh (Nat.le_succ _)) (I.hok.fresh (Nat.le_refl _)) (Nat.ne_of_lt (Nat.lt_succ_self _))
  have I2 := Inv.made (C := C) I
  have r2 : Vals (V.ref (s.heap.objs.size + 1) :: (vs ++ dvs)) (Value.ref (s.heap.objs.size + 1) :: (us ++ ds)) := .cons rfl (r.append hd)
  have hl : (Value.ref (s.heap.objs.size + 1) :: us ++ ds).length = ps.length := by
    have e := r2.length
    rw [F.len _ _ _ _ hq] at e
    exact e.symm
  refine wpAny_call (make_map (f := f) I.kIn M.makes M.init (beq_iff_eq.mp M.fn) (codeAny_mono (F.run _ X.stack _ _ ⟨Value.ref (s.heap.objs.size + 1) :: us, []⟩ (Value.ref (s.heap.objs.size + 1) :: (us ++ ds)) _ _ E (hr.make C us [])
    (I2.env0.make C us []) (hb _ (Value.ref (s.heap.objs.size + 1) :: us) I2.kIn hl) r2 hq) fun r s' hq' => ?_))
  cases r with
  | error e => exact hx pins σ _ _ e s' I2 hq'
  | ok fl =>
    cases fl with
    | ret u =>
      obtain ⟨v, H', I3, rv, ev, q3⟩ := I2.after hq'
      subst ev
      exact ⟨rv, ⟨V.ref (s.heap.objs.size + 1), H', I3, rfl, q3⟩⟩
    | next => exact False.elim hq'
    | brk => exact False.elim hq'
    | cont => exact False.elim hq'
theorem pe_make (M : Mk X.K C f) (F : FnOk X.prog X.w X.K X.mg X.base CX k f fd ps sp) (hr : Room (k + 1) X.A) (hg : Gl X x) (hm : X.mg x = some (.ref C)) (hb : Binds X.K fd ps ds) (hd : Vals dvs ds) (hx : Passes CX X E)
    (ha : PA X (e :: es) t) (hdb : (x == ("__debug__" : Str)) = false := by decide) (he : starEach (e :: es) X.env = (false, eval e X.env) :: starEach es X.env := by rfl) (hpl : (backTo pos (starEach es X.env)).any (·.1) = false := by rfl) :
    PE X (.Call (.Name x p) (e :: es) [] pos) (tMake C sp dvs E t) := by
  intro pins s σ H Q I h
  refine wpAny_Call_Name_kw (ld_glob I hg hm ?_ hdb)
  refine PySem.W.callWith_K (h₀ := X.base) I.ok.mod.kin M.kp (thn (ha pos pins s σ H _ I h) fun us s1 ⟨vs, H1, I1, r, q⟩ => ⟨I1.kIn, ?_⟩) he hpl
  exact run_make M F hr hb hd hx I1 r q
end

section
variable {X : Cx} {CX : CXT} {k : Nat} {f C : Addr} {fd : FuncData} {ps ks : List Str} {sp : Sp} {E : XK} {x m : Str} {p pos apos kpos : Pos} {e o : Expr} {es : List Expr} {kws : List Keyword} {te ta : TE} {t tk : TA} {nm : Option Str}
variable {g : List Value → List Value → List Value} {gV : List V → List V → List V}
end

structure FnScope (N P : List Str) (sc : Scope) : Prop where
  kind : sc.kind = .function
  co : sc.isCoroutine = false
  gen : sc.isGenerator = false
  nd : N.Nodup
  pre : N.take P.length = P
  par : ∀ x ∈ P, sc.names.lookup x = some .local ∨ sc.names.lookup x = some .cell
  nofree : ∀ y ∈ sc.names, y.2 ≠ .free

theorem bindL_out {kindOf : Str → Option NameKind} {x : Str} : ∀ {binds : List (Str × Value)} {m : Str → Option Value}, (∀ v, (x, v) ∉ binds) → bindL kindOf binds m x = m x
  | [], _, _ => rfl
  | (n, v) :: r, m, h => by
    unfold bindL
    rw [bindL_out fun w hw => h w (List.mem_cons_of_mem _ hw)]
    split
    · have : x ≠ n := by rintro rfl; exact h v List.mem_cons_self
      simp [this]
    · rfl
theorem bindC_out {kindOf : Str → Option NameKind} {x : Str} : ∀ {binds : List (Str × Value)} {m : Str → Option Value}, (∀ v, (x, v) ∉ binds) → bindC kindOf binds m x = m x
  | [], _, _ => rfl
  | (n, v) :: r, m, h => by
    unfold bindC
    rw [bindC_out fun w hw => h w (List.mem_cons_of_mem _ hw)]
    split
    · rfl
    · have : x ≠ n := by rintro rfl; exact h v List.mem_cons_self
      simp [this]
theorem bindL_get {kindOf : Str → Option NameKind} {x : Str} {v : Value} : ∀ {P : List Str} {vs : List Value} {i : Nat} {m : Str → Option Value}, P.Nodup → P[i]? = some x → vs[i]? = some v → kindOf x = some .local →
    bindL kindOf (P.zip vs) m x = some v
  | [], _, _, _, _, h, _, _ => by simp at h
  | _ :: _, [], _, _, _, _, h, _ => by simp at h
  | p :: P, w :: vs, 0, m, nd, h1, h2, hk => by
    simp at h1 h2; subst h1; subst h2
    show bindL kindOf ((p, w) :: P.zip vs) m p = _
    unfold bindL
    rw [bindL_out fun v hv => (List.nodup_cons.mp nd).1 (List.of_mem_zip hv).1, if_pos hk]
    simp
  | p :: P, w :: vs, i + 1, m, nd, h1, h2, hk => by
    show bindL kindOf ((p, w) :: P.zip vs) m x = _
    unfold bindL
    exact bindL_get (i := i) (List.nodup_cons.mp nd).2 (by simpa using h1) (by simpa using h2) hk
theorem bindC_get {kindOf : Str → Option NameKind} {x : Str} {v : Value} : ∀ {P : List Str} {vs : List Value} {i : Nat} {m : Str → Option Value}, P.Nodup → P[i]? = some x → vs[i]? = some v → kindOf x ≠ some .local →
    bindC kindOf (P.zip vs) m x = some v
  | [], _, _, _, _, h, _, _ => by simp at h
  | _ :: _, [], _, _, _, _, h, _ => by simp at h
  | p :: P, w :: vs, 0, m, nd, h1, h2, hk => by
    simp at h1 h2; subst h1; subst h2
    show bindC kindOf ((p, w) :: P.zip vs) m p = _
    unfold bindC
    rw [bindC_out fun v hv => (List.nodup_cons.mp nd).1 (List.of_mem_zip hv).1, if_neg hk]
    simp
  | p :: P, w :: vs, i + 1, m, nd, h1, h2, hk => by
    show bindC kindOf ((p, w) :: P.zip vs) m x = _
    unfold bindC
    exact bindC_get (i := i) (List.nodup_cons.mp nd).2 (by simpa using h1) (by simpa using h2) hk

def start (N : List Str) (vs : List V) : St := vs.map some ++ List.replicate (N.length - vs.length) none

def cxOf (CX : CXT) (P : Program) (w : World) (K : PySem.W.Frag) (mg : Str → Option Value) (base : Heap) (N : List Str) (qual : Str) (scope : Scope) (f : Addr) (cd : Value) (A : Around) (outer : List Env) (s : Shared) (H : Hp) (E : XK) : Cx where
  prog := P
  w := w
  K := K
  mg := mg
  base := base
  A := A.deeper (envOfC qual scope s.heap.objs.size f cd)
  N := N
  s₀ := s
  H₀ := H
  env := envOfC qual scope s.heap.objs.size f cd
  outer := outer
  stack := envOfC qual scope s.heap.objs.size f cd :: outer
  ex := []
  calm := true
  fn := fun _ => true
  pn := []
  xe := fun e s' => wpAny (model P w) (A.deeper (envOfC qual scope s.heap.objs.size f cd)) (leaving (envOfC qual scope s.heap.objs.size f cd) e) (fun _ s'' => CX outer H s E e s'') (fun e' s'' => CX outer H s E e' s'') s'

theorem cell_has {sc : Scope} {n : Nat} {x : Str} (h : sc.names.lookup x = some .cell) : ∃ c, (cellsFrom n sc.names []).lookup x = some c := by
  have q := PySem.W.cellsFrom_some sc.names n [] (.inl h)
  exact Option.isSome_iff_exists.mp q

theorem inv_start {CX : CXT} {P : Program} {w : World} {K : PySem.W.Frag} {mg : Str → Option Value} {base : Heap} {N ps : List Str} {qual : Str} {scope : Scope} {f : Addr} {cd : Value} {A : Around} {outer : List Env} {s s1 : Shared} {H : Hp} {E : XK} {us : List Value} {vs : List V}
    (S : FnScope N ps scope) (hd : A.handled = none) (e0 : Env0 P w K mg base A outer s H) (hl : vs.length = ps.length) (r : Vals vs us)
    (x : InCallC s s.heap.objs.size (bindL (envOfC qual scope s.heap.objs.size f cd).kindOf (ps.zip us) fun _ => none) (cellsFrom (s.heap.objs.size + 1) scope.names []) (bindC (envOfC qual scope s.heap.objs.size f cd).kindOf (ps.zip us) fun _ => none) s1) :
    Inv (cxOf CX P w K mg base N qual scope f cd A outer s H E) [] (start N vs) H s1 := by
  have hpl : ps.length ≤ N.length := by have := congrArg List.length S.pre; rw [List.length_take] at this; omega
  obtain ⟨h1, tk, rfl, hk⟩ := x.done
  have noA : ∀ b : Addr, b ∉ (cxOf CX P w K mg base N qual scope f cd A outer s H E).ex := fun b z => absurd (show b ∈ ([] : List Addr) from z) (by simp)
  refine ⟨⟨e0.mod, S.kind, rfl, rfl, Nat.le_refl _, fun y z c h1 h2 => ?_, fun y hy => ?_, fun y c _ h => ?_, fun _ => hd, Around.frames_deeper e0.frames, .inr ⟨rfl, rfl⟩, fun b z => absurd z (noA b), e0.bs, e0.bsz, fun b _ _ => noA b, fun b z => absurd z (noA b), e0.funs, e0.frf⟩,
    rfl, e0.bare, Un.kept hk, ⟨_, x.toInCall.ns, fun i y v h1 h2 h3 => ?_⟩, fun y c h => ⟨_, x.cell y c h⟩, e0.hok.fresh (Nat.le_refl _), fun y c h => ?_, fun p hp => absurd (show p ∈ ([] : List (Addr × Obj)) from hp) (by simp), e0.hok.kept hk, ?_⟩
  · exact name_of_addr x.apart (PySem.mem_of_lookup h1) (PySem.mem_of_lookup h2)
  · have hy : scope.names.lookup y = some .cell ∨ scope.names.lookup y = some .free := hy
    rcases hy with hy | hy
    · exact cell_has hy
    · exact absurd rfl (S.nofree _ (PySem.mem_of_lookup hy))
  · exact Nat.le_of_lt (x.above y c (PySem.mem_of_lookup h))
  · have hi : i < vs.length := by
      unfold start at h2
      by_cases hi : i < vs.length
      · exact hi
      · rw [List.getElem?_append_right (by simpa using hi)] at h2
        rw [List.getElem?_replicate] at h2
        split at h2 <;> cases h2
    have ha : vs[i]? = some v := by
      unfold start at h2
      rw [List.getElem?_append_left (by simpa using hi), List.getElem?_map] at h2
      cases e : vs[i]? with
      | none => rw [e] at h2; cases h2
      | some a => rw [e] at h2; cases h2; rfl
    obtain ⟨u, hu, rv⟩ := r.get ha
    have hp : ps[i]? = some y := by
      rw [← S.pre, List.getElem?_take_of_lt (by omega)]; exact h1
    have ndP : ps.Nodup := by rw [← S.pre]; exact S.nd.sublist (List.take_sublist _ _)
    refine ⟨u, rv, ?_⟩
    rcases S.par y (List.mem_of_getElem? hp) with k | k
    · exact .inl ⟨k, bindL_get ndP hp hu k⟩
    · obtain ⟨c, e⟩ := cell_has (n := s.heap.objs.size + 1) k
      refine .inr ⟨.inl k, c, e, ?_⟩
      have q := x.cell y c e
      rw [bindC_get ndP hp hu (by show scope.names.lookup y ≠ _; rw [k]; decide)] at q
      exact q
  · exact e0.hok.fresh (Nat.le_of_lt (x.above y c (PySem.mem_of_lookup h)))
  · unfold start
    show _ = N.length
    rw [List.length_append, List.length_map, List.length_replicate]
    omega

theorem fn_of {CX : CXT} {P : Program} {w : World} {K : PySem.W.Frag} {mg : Str → Option Value} {base : Heap} {k : Nat} {f : Addr} {name qual : Str} {params : Arguments} {body : List Stmt} {scope : Scope} {dV kV doc pm cdv ct oc : Value} {an od : Option Addr}
    {osl : Array (Option Value)} {N ps : List Str} {sp : Sp} (lk : K.lookup f = some ⟨oc, od, .func (PySem.W.fnOf name qual params body scope dV kV doc pm an cdv ct), osl⟩) (hcd : PySem.W.codeIn K cdv qual = true) (S : FnScope N ps scope)
    (len : ∀ vs H Q E, sp vs H Q E → vs.length = ps.length)
    (hbody : ∀ (A : Around) (outer : List Env) (s : Shared) (H : Hp) (vs : List V) (Q : VK) (E : XK), Room k (A.deeper (envOfC qual scope s.heap.objs.size f cdv)) → sp vs H Q E →
      ∃ t, PSs (cxOf CX P w K mg base N qual scope f cdv A outer s H E) body t ∧ t { nx := fun _ H' => Q .non H', rt := Q } (start N vs) H) :
    FnOk P w K mg base CX (k + 1) f (PySem.W.fnOf name qual params body scope dV kV doc pm an cdv ct) ps sp := by
  refine ⟨len, fun A outer s H args us vs Q E hr e0 hb r hsp => ?_⟩
  have hl := len _ _ _ _ hsp
  have KX : K.In s.heap := e0.mod.kin.keeps fun b o e => (e0.bs b o e).1
  have lim : s.heap.NoLimit := e0.mod.nolimit.keeps fun b o e => (e0.bs b o e).1
  have hkind : ∀ y ∈ ps.zip us, scope.names.lookup y.1 = some .local ∨ (scope.names.lookup y.1 = some .cell ∧ ((cellsFrom (s.heap.objs.size + 1) scope.names []).lookup y.1).isSome = true) := fun ⟨n, v⟩ hy => by
    rcases S.par n (List.of_mem_zip hy).1 with q | q
    · exact .inl q
    · exact .inr ⟨q, PySem.W.cellsFrom_some _ _ _ (.inl q)⟩
  refine codeAny_call_function hr.depth (KX _ _ lk) rfl S.co S.gen rfl (PySem.W.codeRec_of KX hcd) (hb _ _ _ _ ?_)
  refine wpAny_newFunctionEnv_cells S.kind hkind fun env he s1 x => ?_
  subst he
  refine ⟨lim.keeps x.toInCall.keep, codeAny_func ?_⟩
  obtain ⟨t, ht, hq⟩ := hbody A outer s H vs Q E (hr.deeper _) hsp
  have I : Inv (cxOf CX P w K mg base N qual scope f cdv A outer s H E) [] (start N vs) H s1 := inv_start S hr.hd e0 hl r x
  refine wpAny_mono (ht [] s1 (start N vs) H _ I hq) (fun fl s' hs => ?_) fun e s' hs => hs
  have fin : ∀ {σ' : St} {H' : Hp} {v : V} {u : Value}, Inv (cxOf CX P w K mg base N qual scope f cdv A outer s H E) [] σ' H' s' → RelV v u → Q v H' → CE outer P w H s Q u s' :=
    fun {σ' H' v u} J rv q => ⟨v, H', J.os, J.bare, J.base, J.hok, rv, q⟩
  cases fl with
  | ret u =>
    obtain ⟨v, σ', H', J, rv, q⟩ := hs
    exact fin J rv q
  | next =>
    obtain ⟨σ', H', J, q⟩ := hs
    exact fin (v := V.non) (u := Value.none) J rfl q
  | brk =>
    obtain ⟨_, _, _, q⟩ := hs
    exact False.elim q
  | cont =>
    obtain ⟨_, _, _, q⟩ := hs
    exact False.elim q
end L2

namespace L2
open PySem PySem.Spec PyProof.Rows
section
variable {X : Cx} {x : Str} {p pos : Pos} {e : Expr} {es : List Expr} {t : TA} {id T : String} {r : List V → Hp → VK → Prop}

def tCB (r : List V → Hp → VK → Prop) (t : TA) : TE := fun σ H Q => t σ H fun vs H1 => r vs H1 Q
theorem pe_callB (hc : CallR X (.builtin id) r) (hg : Gl X x) (hm : X.mg x = none) (hv : bootBuiltins x = some (.builtin id)) (ha : PA X (e :: es) t) (hn : x ≠ "__name__" := by decide) (hdb : (x == ("__debug__" : Str)) = false := by decide)
    (he : starEach (e :: es) X.env = (false, eval e X.env) :: starEach es X.env := by rfl) (hpl : (backTo pos (starEach es X.env)).any (·.1) = false := by rfl) : PE X (.Call (.Name x p) (e :: es) [] pos) (tCB r t) := by
  intro pins s σ H Q I h
  refine wpAny_Call_Name_kw (ld_blt I hg hm hv ?_ hn hdb)
  exact PyProof.Rows.callWith_builtin1 (thn (ha pos pins s σ H _ I h) fun us s1 ⟨vs, H1, I1, r1, q1⟩ => hc pins s1 σ H1 vs us Q I1 r1 q1) he hpl
theorem pe_callTy (hc : CallR X (.type T) r) (hg : Gl X x) (hm : X.mg x = none) (hv : bootBuiltins x = some (.type T)) (ha : PA X (e :: es) t) (hn : x ≠ "__name__" := by decide) (hdb : (x == ("__debug__" : Str)) = false := by decide)
    (he : starEach (e :: es) X.env = (false, eval e X.env) :: starEach es X.env := by rfl) (hpl : (backTo pos (starEach es X.env)).any (·.1) = false := by rfl) : PE X (.Call (.Name x p) (e :: es) [] pos) (tCB r t) := by
  intro pins s σ H Q I h
  refine wpAny_Call_Name_kw (ld_blt I hg hm hv ?_ hn hdb)
  exact PyProof.Rows.callWith_type1 (thn (ha pos pins s σ H _ I h) fun us s1 ⟨vs, H1, I1, r1, q1⟩ => hc pins s1 σ H1 vs us Q I1 r1 q1) he hpl
end
end L2

namespace HT
open PySem PyProof.Rows

section
open PySem.SeqAt
open PySem.AutoSeq1 (wpAny_loadPart')
open PySem.MeetsSeq PySem.MeetsSeq2 PySem.MeetsSeq3

end

section
variable {prog : Program} {w : World} {A : Around} {E : Value → Shared → Prop} {s : Shared}

def sIx (n d : Nat) : Option Int → Nat
  | none => d
  | some v => if v < 0 then (v + (n : Int)).toNat else min v.toNat n
theorem sIx_nat (n d k : Nat) : sIx n d (some (k : Int)) = min k n := by
  show (if (k : Int) < 0 then ((k : Int) + (n : Int)).toNat else min (k : Int).toNat n) = min k n
  rw [if_neg (by omega), Int.toNat_natCast]
end
end HT

namespace L2
open PySem PySem.Spec PyProof.Rows

abbrev TO := St → Hp → (Option Int → Hp → Prop) → Prop
def PO (X : Cx) (e : Option Expr) (t : TO) : Prop :=
  ∀ (pins : List (Addr × Obj)) (s : Shared) (σ : St) (H : Hp) (Q : Option Int → Hp → Prop), Inv X pins σ H s → t σ H Q →
    wpAny (model X.prog X.w) X.A (evalPart e X.env) (fun u s' => ∃ o H', Inv X pins σ H' s' ∧ IsPart u o ∧ Q o H') X.xe s
def tPart (t : TE) : TO := fun σ H Q => t σ H fun x H1 => ∃ i, x = .int i ∧ Q (some i) H1

section
variable {X : Cx} {e : Expr} {te : TE} {lo hi : Option Expr} {tl th : TO} {pos p2 : Pos}

theorem po_some (h : PE X e te) : PO X (some e) (tPart te) := by
  intro pins s σ H Q I hw
  rw [evalPart_some]
  refine thn (h pins s σ H _ I hw) fun u s1 ⟨x, H1, I1, r1, q1⟩ => ?_
  obtain ⟨i, rfl, q⟩ := q1
  obtain ⟨t, rfl⟩ := r1
  exact ⟨some i, H1, I1, .int i t, q⟩

def SlR (X : Cx) (r : V → Option Int → Option Int → Hp → VK → Prop) : Prop :=
  ∀ (pins : List (Addr × Obj)) (s : Shared) (σ : St) (H : Hp) (x : V) (v vl vu : Value) (lo hi : Option Int) (sl : Addr) (Q : VK), Inv X pins σ H s → RelV x v → s.heap.IsSliceOf sl vl vu .none → IsPart vl lo → IsPart vu hi → r x lo hi H Q →
    ∃ T id, typeLookup (.type T) "__getitem__" = pure (some (.builtin id)) ∧ s.TypeIs v T ∧ wpAny (model X.prog X.w) X.A (getItem v (.ref sl)) (EP X pins σ Q) X.xe s
theorem SlR.or {r r' : V → Option Int → Option Int → Hp → VK → Prop} (h : SlR X r) (h' : SlR X r') : SlR X (fun x lo hi H Q => r x lo hi H Q ∨ r' x lo hi H Q) := by
  intro pins s σ H x v vl vu lo hi sl Q I rx hs pl pu q
  rcases q with q | q
  · exact h pins s σ H x v vl vu lo hi sl Q I rx hs pl pu q
  · exact h' pins s σ H x v vl vu lo hi sl Q I rx hs pl pu q
def tSl (r : V → Option Int → Option Int → Hp → VK → Prop) (te : TE) (tl th : TO) : TE := fun σ H Q => te σ H fun x H1 => tl σ H1 fun l H2 => th σ H2 fun u H3 => r x l u H3 Q
theorem pe_slice {r : V → Option Int → Option Int → Hp → VK → Prop} (hr : SlR X r) (he : PE X e te) (hl : PO X lo tl) (hu : PO X hi th) : PE X (.Subscript e (.Slice lo hi none p2) pos) (tSl r te tl th) := by
  intro pins s σ H Q I h
  refine Subscript_ (thn (he pins s σ H _ I h) fun v s1 ⟨x, H1, I1, r1, q1⟩ => ?_)
  refine wpAny_Slice (thn (hl pins s1 σ H1 _ I1 q1) fun vl s2 ⟨l, H2, I2, pl, q2⟩ => thn (hu pins s2 σ H2 _ I2 q2) fun vu s3 ⟨u, H3, I3, pu, q3⟩ => ?_)
  rw [evalPart_none]
  refine wpAny_pure ?_
  have I4 : Inv X pins σ H3 { s3 with heap := s3.heap.push { cls := .type "slice", data := .fields #[vl, vu, .none] } } := I3.kept (t' := s3.toks) fun b ob q => Heap.get?_push_of_some _ q
  obtain ⟨T, id, hT, ht, hg⟩ := hr pins { s3 with heap := s3.heap.push { cls := .type "slice", data := .fields #[vl, vu, .none] } } σ H3 x v vl vu l u s3.heap.objs.size Q I4 r1 (Heap.IsSliceOf.new ..) pl pu q3
  show wpAny (model X.prog X.w) X.A (subscriptTail e (.Slice lo hi none p2) v (.ref s3.heap.objs.size)) (EP X pins σ Q) X.xe { s3 with heap := s3.heap.push { cls := .type "slice", data := .fields #[vl, vu, .none] } }
  exact tail_any (ops := [.ref s3.heap.objs.size, v]) ht hT hg (by with_unfolding_all rfl)

def cutV (xs : List V) (lo hi : Option Int) : List V := (xs.drop (HT.sIx xs.length 0 lo)).take (HT.sIx xs.length xs.length hi - HT.sIx xs.length 0 lo)
theorem cutV_length (xs : List V) (lo hi : Option Int) : (cutV xs lo hi).length ≤ xs.length := by
  unfold cutV
  rw [List.length_take, List.length_drop]
  omega
end
end L2

namespace L2
open PySem PySem.Spec PyProof.Rows

def ixN (n : Nat) (i : Int) : Option Nat := if 0 ≤ i then (if i < n then some i.toNat else none) else if -(n : Int) ≤ i then some (i + n).toNat else none
def atI {α : Type} (xs : List α) (i : Int) : Option α := (ixN xs.length i).bind fun j => xs[j]?
theorem ixN_seq {n : Nat} {i : Int} {j : Nat} (h : ixN n i = some j) : seqIndex? i n = some j ∧ j < n ∧ -(n : Int) ≤ i ∧ i < n := by
  unfold ixN at h
  by_cases h0 : 0 ≤ i
  · rw [if_pos h0] at h
    by_cases h1 : i < n
    · rw [if_pos h1] at h
      have e : i.toNat = j := Option.some.inj h
      exact ⟨by rw [seqIndex_of h0 h1, e], by omega, by omega, h1⟩
    · rw [if_neg h1] at h; cases h
  · rw [if_neg h0] at h
    by_cases h1 : -(n : Int) ≤ i
    · rw [if_pos h1] at h
      have e : (i + n).toNat = j := Option.some.inj h
      exact ⟨by rw [seqIndex_neg (by omega) h1, e], by omega, h1, by omega⟩
    · rw [if_neg h1] at h; cases h
theorem atI_get {α : Type} {xs : List α} {i : Int} {v : α} (h : atI xs i = some v) : ∃ j, seqIndex? i xs.length = some j ∧ xs[j]? = some v ∧ j < xs.length ∧ -(xs.length : Int) ≤ i ∧ i < xs.length := by
  unfold atI at h
  cases e : ixN xs.length i with
  | none => rw [e] at h; cases h
  | some j =>
    rw [e] at h
    obtain ⟨h1, h2, h3, h4⟩ := ixN_seq e
    exact ⟨j, h1, h, h2, h3, h4⟩
theorem atI_nat {α : Type} {xs : List α} {j : Nat} {v : α} (h : xs[j]? = some v) : atI xs (j : Int) = some v := by
  have hj : j < xs.length := (List.getElem?_eq_some_iff.mp h).1
  have e : ixN xs.length (j : Int) = some j := by
    unfold ixN
    rw [if_pos (by omega), if_pos (by omega)]; simp
  unfold atI; rw [e]; exact h
theorem atI_last {α : Type} (xs : List α) (v : α) : atI (xs ++ [v]) (-1) = some v := by
  have hl : (xs ++ [v]).length = xs.length + 1 := by simp
  have e : ixN (xs ++ [v]).length (-1) = some xs.length := by
    unfold ixN
    rw [hl, if_neg (by decide), if_pos (by omega)]
    congr 1
    omega
  unfold atI
  rw [e]
  show (xs ++ [v])[xs.length]? = some v
  simp

def PlainIx (b : Expr) : Prop := ∀ o i, subscripted b false o i = operate [o, i] (getItem o i)
def IxR (X : Cx) (r : R2) : Prop :=
  ∀ (value slice : Expr) (pins : List (Addr × Obj)) (s : Shared) (σ : St) (H : Hp) (x y : V) (v u : Value) (Q : VK), Inv X pins σ H s → RelV x v → RelV y u → r x y H Q →
    subscripted slice false v u = operate [v, u] (getItem v u) → wpAny (model X.prog X.w) X.A (subscriptTail value slice v u) (EP X pins σ Q) X.xe s
def MtR (X : Cx) (id : String) (r : V → List V → Hp → VK → Prop) : Prop :=
  ∀ (pins : List (Addr × Obj)) (s : Shared) (σ : St) (H : Hp) (x : V) (xs : List V) (v : Value) (us : List Value) (Q : VK), Inv X pins σ H s → RelV x v → Vals xs us → r x xs H Q →
    wpAny (model X.prog X.w) X.A (call (.builtin id) (v :: us)) (EP X pins σ Q) X.xe s
section
variable {X : Cx} {a b : Expr} {ta tb : TE} {pos : Pos}
theorem IxR.or {r r' : R2} (h : IxR X r) (h' : IxR X r') : IxR X (fun x y H Q => r x y H Q ∨ r' x y H Q) := by
  intro value slice pins s σ H x y v u Q I rx ry q hs
  rcases q with q | q
  · exact h value slice pins s σ H x y v u Q I rx ry q hs
  · exact h' value slice pins s σ H x y v u Q I rx ry q hs
theorem MtR.or {id : String} {r r' : V → List V → Hp → VK → Prop} (h : MtR X id r) (h' : MtR X id r') : MtR X id (fun x xs H Q => r x xs H Q ∨ r' x xs H Q) := by
  intro pins s σ H x xs v us Q I rx rs q
  rcases q with q | q
  · exact h pins s σ H x xs v us Q I rx rs q
  · exact h' pins s σ H x xs v us Q I rx rs q
theorem pe_ix {r : R2} (hr : IxR X r) (ha : PE X a ta) (hb : PE X b tb) (hs : PlainIx b) : PE X (.Subscript a b pos) (tOp r ta tb) := by
  intro pins s σ H Q I h
  exact Subscript_ (binT ha hb I h fun v u s2 x y H2 I2 rx ry q => hr a b pins s2 σ H2 x y v u Q I2 rx ry q (hs _ _))

def rIxL (K : PySem.W.Frag) : R2 := fun x y H Q => ∃ p xs i v, x = .ref p ∧ y = .int i ∧ SqL K H p xs ∧ atI xs i = some v ∧ Q v H
def rIxT (K : PySem.W.Frag) : R2 := fun x y H Q => ∃ p xs i v, x = .ref p ∧ y = .int i ∧ SqT K H p xs ∧ atI xs i = some v ∧ Q v H
def rIxS : R2 := fun x y H Q => ∃ z i c, x = .str z ∧ y = .int i ∧ z.length ≤ sizeLine ∧ atI z.cps.toList i = some c ∧ Q (.str ⟨#[c]⟩) H
theorem ix_list : IxR X (rIxL X.K) := by
  intro value slice pins s σ H x y v u Q I rx ry h hs
  obtain ⟨p, xs, i, z, rfl, rfl, hq, he, q⟩ := h
  cases rx
  obtain ⟨t, rfl⟩ := ry
  obtain ⟨its, r, pl, hz⟩ := I.list hq
  obtain ⟨j, h1, h2, h3, h4, h5⟩ := atI_get he
  obtain ⟨w, ew, rw'⟩ := r.get h2
  have hl := r.length
  have hn := line63
  have fin : EP X pins σ Q w s := ⟨z, H, I, rw', q⟩
  by_cases h0 : 0 ≤ i
  · have hj : i.toNat = j := by
      rw [seqIndex_of h0 h5] at h1
      exact Option.some.inj h1
    exact item_listR pl.isList h0 (by omega) (by rw [hj]; simpa using ew) fin hs
  · have hj : (i + (its.toArray.size : Int)).toNat = j := by
      rw [seqIndex_neg (by omega) h4] at h1
      rw [List.size_toArray, ← hl]
      exact Option.some.inj h1
    exact subscriptTail_builtinR (x := w) pl.isList.typeIs slot_list_getitem.lookup
      (wpAny_getItem_list_neg (Q := fun r s' => r = w ∧ EP X pins σ Q r s') pl.isList (by omega) (by rw [List.size_toArray] <;> omega) (by omega) (by rw [hj]; simpa using ew) ⟨rfl, fin⟩) hs
theorem ix_tup : IxR X (rIxT X.K) := by
  intro value slice pins s σ H x y v u Q I rx ry h hs
  obtain ⟨p, xs, i, z, rfl, rfl, hq, he, q⟩ := h
  cases rx
  obtain ⟨t, rfl⟩ := ry
  obtain ⟨its, r, pl, hz⟩ := I.tuple hq
  obtain ⟨j, h1, h2, h3, h4, h5⟩ := atI_get he
  obtain ⟨w, ew, rw'⟩ := r.get h2
  have hl := r.length
  have hn := line63
  have fin : EP X pins σ Q w s := ⟨z, H, I, rw', q⟩
  exact subscriptTail_builtinR (x := w) pl.typeIs slot_tuple_getitem.lookup
    (getItem_tuple (j := j) (Q := fun r s' => r = w ∧ EP X pins σ Q r s') pl (by omega) (by omega) (by rw [List.size_toArray, ← hl]; exact h1) (by simpa using ew) ⟨rfl, fin⟩) hs
theorem ix_str : IxR X rIxS := by
  intro value slice pins s σ H x y v u Q I rx ry h hs
  obtain ⟨z, i, c, rfl, rfl, hz, he, q⟩ := h
  obtain ⟨t, rfl⟩ := rx
  obtain ⟨t', rfl⟩ := ry
  obtain ⟨j, h1, h2, h3, h4, h5⟩ := atI_get he
  have hl : z.cps.toList.length = z.length := by simp [Str.length]
  rw [hl] at h1 h4 h5
  have hn := line63
  exact tail_any (typeIs_str s z t) slot_str_getitem.lookup (getItem_str (c := c) (by
    have e1 : decide (i < -(2 ^ 63 : Int)) = false := decide_eq_false (by omega)
    have e2 : decide (i ≥ 2 ^ 63) = false := decide_eq_false (by omega)
    rw [e1, e2, Bool.or_false]) (by rw [h1]; simpa using h2) ⟨.str ⟨#[c]⟩, H, I.tok _, ⟨_, rfl⟩, q⟩) hs
def rIx (K : PySem.W.Frag) : R2 := fun x y H Q => rIxL K x y H Q ∨ rIxT K x y H Q ∨ rIxS x y H Q
theorem ix_seq : IxR X (rIx X.K) := ix_list.or (ix_tup.or ix_str)

theorem mapSeq_set (its : List Value) (n j : Nat) (u : Value) : Obj.mapSeq (·.setIfInBounds j u) { cls := .type "list", data := .seq its.toArray n } = { cls := .type "list", data := .seq (its.set j u).toArray n } := by
  simp [Obj.mapSeq]
theorem Inv.lst {pins : List (Addr × Obj)} {σ : St} {H : Hp} {s : Shared} {p : Addr} {xs : List V} (I : Inv X pins σ H s) (h : H p = some (.lst xs)) :
    ∃ (its : List Value) (n : Nat), Vals xs its ∧ s.heap.get? p = some { cls := .type "list", data := .seq its.toArray n } ∧ xs.length ≤ sizeLine := by
  obtain ⟨z, its, n, r, e⟩ := I.hok p _ h
  exact ⟨its, n, r, e, z⟩
theorem Inv.lstUpd {pins : List (Addr × Obj)} {σ : St} {H : Hp} {s : Shared} {p : Addr} {xs ys : List V} {its its' : List Value} {n n' : Nat} {f : Obj → Obj} (I : Inv X pins σ H s) (h : H p = some (.lst xs))
    (ho : s.heap.get? p = some { cls := .type "list", data := .seq its.toArray n }) (hf : f { cls := .type "list", data := .seq its.toArray n } = { cls := .type "list", data := .seq its'.toArray n' }) (r : Vals ys its') (hz : ys.length ≤ sizeLine) (t : Nat) :
    Inv X pins σ (upd H p (.lst ys)) { s with heap := s.heap.update p f, toks := t } := by
  have e : (s.heap.update p f).get? p = some { cls := .type "list", data := .seq its'.toArray n' } := by
    rw [Heap.get?_update_self f ho (by rw [hf] <;> rfl), hf]
  refine I.write (x := p) (e := p) (by rw [h]; trivial) (.inl rfl) (fun b u hb q => (Heap.get?_update_other _ _ (Ne.symm hb)).trans q) ⟨_, e⟩ ?_
  exact ⟨hz, its', n', r, e⟩
def rSetL : V → V → V → Hp → (Hp → Prop) → Prop := fun o i v H Q => ∃ p xs k j, o = .ref p ∧ i = .int k ∧ H p = some (.lst xs) ∧ ixN xs.length k = some j ∧ Q (upd H p (.lst (xs.set j v)))
theorem set_list : PSet X rSetL := by
  intro pins s σ H o i v ov iv u Q I ro ri rv h
  obtain ⟨p, xs, k, j, rfl, rfl, hp, hj, q⟩ := h
  cases ro
  obtain ⟨t, rfl⟩ := ri
  obtain ⟨its, n, r, ho, hz⟩ := I.lst hp
  obtain ⟨h1, h2, h3, h4⟩ := ixN_seq hj
  have hl := r.length
  have hn := line63
  have I' : Inv X pins σ (upd H p (.lst (xs.set j v))) { s with heap := s.heap.update p (Obj.mapSeq (·.setIfInBounds j u)) } :=
    I.lstUpd hp ho (mapSeq_set its n j u) (r.set rv j) (by rw [List.length_set]; exact hz) s.toks
  by_cases h0 : 0 ≤ k
  · have hk : k.toNat = j := by
      rw [seqIndex_of h0 h4] at h1
      exact Option.some.inj h1
    exact PySem.W.ki_setAt ho h0 (by omega) (by rw [List.size_toArray, ← hl]; exact h4) (by rw [hk]; exact ⟨_, I', q⟩)
  · have hk : (k + (its.toArray.size : Int)).toNat = j := by
      rw [seqIndex_neg (by omega) h3] at h1
      rw [List.size_toArray, ← hl]
      exact Option.some.inj h1
    exact PySem.W.ki_setBack ho (by omega) (by rw [List.size_toArray, ← hl]; exact h3) (by omega) (by rw [hk]; exact ⟨_, I', q⟩)

theorem slice_bounds (lo hi : Option Int) (n : Nat) : (sliceBounds lo hi none n).1 = ((HT.sIx n 0 lo : Nat) : Int) ∧ (sliceBounds lo hi none n).2.1 = ((HT.sIx n n hi : Nat) : Int) ∧ (sliceBounds lo hi none n).2.2 = 1 := by
  refine ⟨?_, ?_, rfl⟩
  · cases lo with
    | none => simp [sliceBounds, HT.sIx]
    | some i =>
      simp only [sliceBounds, HT.sIx, Option.getD_none, show (1 : Int) > 0 by decide, if_true]
      by_cases h : i < 0
      · simp only [h, if_true] <;> omega
      · simp only [h, if_false] <;> omega
  · cases hi with
    | none => simp [sliceBounds, HT.sIx]
    | some i =>
      simp only [sliceBounds, HT.sIx, Option.getD_none, show (1 : Int) > 0 by decide, if_true]
      by_cases h : i < 0
      · simp only [h, if_true] <;> omega
      · simp only [h, if_false] <;> omega
theorem slicePick_cut (its : List Value) (lo hi : Option Int) : slicePick its.toArray lo hi none = ((its.drop (HT.sIx its.length 0 lo)).take (HT.sIx its.length its.length hi - HT.sIx its.length 0 lo)).toArray := by
  obtain ⟨h1, h2, h3⟩ := slice_bounds lo hi its.toArray.size
  unfold slicePick
  rw [h1, h2, h3]
  simp only [sliceRange_one, pick_run, List.size_toArray] <;> rfl
def rSlL (K : PySem.W.Frag) : V → Option Int → Option Int → Hp → VK → Prop := fun x lo hi H Q => ∃ a xs, x = .ref a ∧ SqL K H a xs ∧ ∀ p, H p = none → Q (.ref p) (upd H p (.lst (cutV xs lo hi)))
theorem sl_list : SlR X (rSlL X.K) := by
  intro pins s σ H x v vl vu lo hi sl Q I rx hs pl pu h
  obtain ⟨a, xs, rfl, hx, q⟩ := h
  cases rx
  obtain ⟨its, r, ht, hz⟩ := I.list hx
  have hlen := r.length
  refine ⟨"list", _, slot_list_getitem.lookup, ht.isList.typeIs, ?_⟩
  refine wpAny_getItem_list_slice ht.isList hs pl pu .none (by simp) ?_ (by rw [List.size_toArray] <;> omega)
  rw [slicePick_cut, ← hlen]
  refine ⟨.ref s.heap.objs.size, _, I.laid (t' := s.toks) (o := .lst (cutV xs lo hi)) (fun b ob q => Heap.get?_push_of_some _ q) (Nat.le_refl _) ?_, rfl, q _ (I.hok.fresh (Nat.le_refl _))⟩
  exact ⟨Nat.le_trans (cutV_length xs lo hi) hz, _, 0, (r.drop (HT.sIx xs.length 0 lo)).take (HT.sIx xs.length xs.length hi - HT.sIx xs.length 0 lo), Heap.get?_push_size _ rfl⟩

def flatV : V → Bool
  | .non => true
  | .bl _ => true
  | .int _ => true
  | .str _ => true
  | _ => false
def eqV : V → V → Bool
  | .non, .non => true
  | .bl a, .bl b => a == b
  | .bl a, .int b => (if a then 1 else 0) == b
  | .int a, .bl b => a == (if b then 1 else 0)
  | .int a, .int b => a == b
  | .str a, .str b => a == b
  | _, _ => false
theorem eqAt_V {A : Around} {s : Shared} {y x : V} {u v : Value} (ry : RelV y u) (rx : RelV x v) (fy : flatV y = true) (fx : flatV x = true) : SeqAt.EqAt A s u v (eqV y x) := by
  cases y with
  | non =>
    cases ry
    cases x with
    | non => cases rx; exact SeqAt.EqAt.same _
    | bl b => cases rx; exact SeqAt.EqAt.none_bool b
    | int b => obtain ⟨t, rfl⟩ := rx; exact SeqAt.EqAt.none_int b t
    | str b => obtain ⟨t, rfl⟩ := rx; exact SeqAt.EqAt.none_str b t
    | _ => exact absurd (show false = true from fx) Bool.false_ne_true
  | bl a =>
    cases ry
    cases x with
    | non => cases rx; exact SeqAt.EqAt.bool_none a
    | bl b => cases rx; exact SeqAt.EqAt.bool_bool a b
    | int b => obtain ⟨t, rfl⟩ := rx; exact SeqAt.EqAt.bool_int a b t
    | str b => obtain ⟨t, rfl⟩ := rx; exact SeqAt.EqAt.bool_str a b t
    | _ => exact absurd (show false = true from fx) Bool.false_ne_true
  | int a =>
    obtain ⟨t', rfl⟩ := ry
    cases x with
    | non => cases rx; exact SeqAt.EqAt.int_none a t'
    | bl b => cases rx; exact SeqAt.EqAt.int_bool a t' b
    | int b => obtain ⟨t, rfl⟩ := rx; exact SeqAt.EqAt.int_int a t' b t
    | str b => obtain ⟨t, rfl⟩ := rx; exact SeqAt.EqAt.int_str a t' b t
    | _ => exact absurd (show false = true from fx) Bool.false_ne_true
  | str a =>
    obtain ⟨t', rfl⟩ := ry
    cases x with
    | non => cases rx; exact SeqAt.EqAt.str_none a t'
    | bl b => cases rx; exact SeqAt.EqAt.str_bool a t' b
    | int b => obtain ⟨t, rfl⟩ := rx; exact SeqAt.EqAt.str_int a t' b t
    | str b => obtain ⟨t, rfl⟩ := rx; exact SeqAt.EqAt.str_str a t' b t
    | _ => exact absurd (show false = true from fx) Bool.false_ne_true
  | _ => exact absurd (show false = true from fy) Bool.false_ne_true
theorem call_len_seq : CallR X (.builtin "len") (fun xs H Q => ∃ p ys, xs = [.ref p] ∧ (SqL X.K H p ys ∨ SqT X.K H p ys) ∧ Q (.int ys.length) H) := by
  intro pins s σ H xs us Q I r h
  obtain ⟨p, ys, rfl, hq, q⟩ := h
  obtain ⟨u, rfl, rx⟩ := vals1 r
  cases rx
  have hn := line63
  rcases hq with hq | hq
  · obtain ⟨its, r', pl, hz⟩ := I.list hq
    have hlen := r'.length
    exact Calls.call_len_list pl.isList (by simp only [List.size_toArray] <;> omega) ⟨.int ys.length, H, I.tok _, ⟨s.toks + 1, by rw [List.size_toArray, hlen]⟩, q⟩
  · obtain ⟨its, r', pl, hz⟩ := I.tuple hq
    have hlen := r'.length
    exact len_tuple pl (by simp only [List.size_toArray] <;> omega) ⟨.int ys.length, H, I.tok _, ⟨s.toks + 1, by rw [List.size_toArray, hlen]⟩, q⟩
theorem CallR.or {f : Value} {r r' : List V → Hp → VK → Prop} (h : CallR X f r) (h' : CallR X f r') : CallR X f (fun xs H Q => r xs H Q ∨ r' xs H Q) := by
  intro pins s σ H xs us Q I rs q
  rcases q with q | q
  · exact h pins s σ H xs us Q I rs q
  · exact h' pins s σ H xs us Q I rs q
theorem call_list_of : CallR X (.type "list") (fun xs H Q => ∃ p ys, xs = [.ref p] ∧ (SqL X.K H p ys ∨ SqT X.K H p ys) ∧ ∀ l, H l = none → Q (.ref l) (upd H l (.lst ys))) := by
  intro pins s σ H xs us Q I r h
  obtain ⟨p, ys, rfl, hq, q⟩ := h
  obtain ⟨u, rfl, rx⟩ := vals1 r
  cases rx
  have fin : ∀ (its : List Value), Vals ys its → ys.length ≤ sizeLine → ∀ (h' : Heap) (c' : Nat), (∀ b o', s.heap.get? b = some o' → h'.get? b = some o') →
      h'.get? s.heap.objs.size = some { cls := .type "list", dict := none, data := .seq its.toArray c', slots := #[] } → EP X pins σ Q (.ref s.heap.objs.size) { s with heap := h' } := fun its r' hz h' c' kp e =>
    ⟨.ref s.heap.objs.size, _, I.laid (t' := s.toks) kp (Nat.le_refl _) (show ObjOk X.prog X.w _ h' _ (.lst ys) from ⟨hz, its, c', r', e⟩), rfl, q _ (I.hok.fresh (Nat.le_refl _))⟩
  rcases hq with hq | hq
  · obtain ⟨its, r', pl, hz⟩ := I.list hq
    have hlen := r'.length
    obtain ⟨o, ho, hc, n, hd⟩ := pl.isList
    exact call_list_seq p (.inl rfl) ho hc hd (fun h' c' kp e => fin its r' hz h' c' kp e) (by simp only [List.size_toArray] <;> omega)
  · obtain ⟨its, r', pl, hz⟩ := I.tuple hq
    have hlen := r'.length
    obtain ⟨o, ho, hc, n, hd⟩ := pl
    exact call_list_seq p (.inr rfl) ho hc hd (fun h' c' kp e => fin its r' hz h' c' kp e) (by simp only [List.size_toArray] <;> omega)
def tyV (K : PySem.W.Frag) (T : String) (x : V) (H : Hp) : Prop := match x with
  | .str _ => T = "str"
  | .int _ => T = "int"
  | .ref p => (T = "list" ∧ ∃ xs, SqL K H p xs) ∨ (T = "tuple" ∧ ∃ o, K.lookup p = some o ∧ o.cls = .type "tuple" ∧ o.dict = none) ∨
      (T = "dict" ∧ ((∃ kvs, H p = some (.dK kvs)) ∨ ∃ kvs, H p = some (.dT kvs))) ∨ (T = "set" ∧ ∃ S n, H p = some (.set S n))
  | _ => False
theorem tyV_is {pins : List (Addr × Obj)} {σ : St} {H : Hp} {s : Shared} {T : String} {x : V} {v : Value} (I : Inv X pins σ H s) (r : RelV x v) (ty : tyV X.K T x H) :
    s.TypeIs v T ∧ ∀ a, v = .ref a → ∃ ob, s.heap.get? a = some ob ∧ ob.dict = none := by
  cases x with
  | str z =>
    obtain ⟨t, rfl⟩ := r
    cases (show T = "str" from ty)
    exact ⟨typeIs_str s z t, fun _ e => nomatch e⟩
  | int i =>
    obtain ⟨t, rfl⟩ := r
    cases (show T = "int" from ty)
    exact ⟨typeIs_int s i t, fun _ e => nomatch e⟩
  | ref p =>
    cases r
    rcases ty with ⟨rfl, xs, hq⟩ | ⟨rfl, o, hk, hc, hd⟩ | ⟨rfl, hk⟩ | ⟨rfl, S, n, hk⟩
    · obtain ⟨its, _, pl, _⟩ := I.list hq
      refine ⟨pl.isList.typeIs, fun a e => ?_⟩
      cases e
      obtain ⟨o, n, e, c, hd, _⟩ := pl
      exact ⟨o, e, hd⟩
    · refine ⟨⟨o, I.kIn p o hk, hc⟩, fun a e => ?_⟩
      cases e
      exact ⟨o, I.kIn _ o hk, hd⟩
    · have z : ∃ o, s.heap.get? p = some o ∧ o.ExactDict := by
        rcases hk with ⟨kvs, hk⟩ | ⟨kvs, hk⟩
        · obtain ⟨_, _, _, _, o, _, _, e, ex, _⟩ := I.hok p _ hk
          exact ⟨o, e, ex⟩
        · obtain ⟨_, _, _, _, o, _, _, e, ex, _⟩ := I.hok p _ hk
          exact ⟨o, e, ex⟩
      obtain ⟨o, e, ex⟩ := z
      refine ⟨⟨o, e, ex.1⟩, fun a e2 => ?_⟩
      cases e2
      exact ⟨o, e, ex.2.1⟩
    · obtain ⟨o, _, _, _, e, ex, _⟩ := I.hok p _ hk
      refine ⟨⟨o, e, ex.1⟩, fun a e2 => ?_⟩
      cases e2
      exact ⟨o, e, ex.2.1⟩
  | _ => exact False.elim ty
def tBM0 (K : PySem.W.Frag) (T : String) (r : V → List V → Hp → VK → Prop) (to : TE) : TE := fun σ H Q => to σ H fun x H1 => tyV K T x H1 ∧ r x [] H1 Q
def tBM (K : PySem.W.Frag) (T : String) (r : V → List V → Hp → VK → Prop) (to : TE) (t : TA) : TE := fun σ H Q => to σ H fun x H1 => tyV K T x H1 ∧ t σ H1 fun xs H2 => r x xs H2 Q
variable {o e : Expr} {es : List Expr} {to : TE} {t : TA} {name : Str} {apos cpos : Pos} {T id : String} {r : V → List V → Hp → VK → Prop}
theorem pe_bm0 (pa : PlainAttrs T) (slot : Slot T name id) (hty : typeOf (.builtin id) = pure (.type "method_descriptor")) (hm : MtR X id r) (ho : PE X o to)
    (hbase : attributeBase o name X.env (eval o X.env) = eval o X.env := by rfl) (hline : (apos.endLine == cpos.line) = true := by rfl) : PE X (.Call (.Attribute o name apos) [] [] cpos) (tBM0 X.K T r to) := by
  intro pins s σ H Q I h
  refine wpAny_Call_method0_late hbase hline (thn (ho pins s σ H _ I h) fun v s1 ⟨x, H1, I1, r1, ty, q1⟩ => ?_)
  obtain ⟨h1, h2⟩ := tyV_is I1 r1 ty
  exact ⟨T, id, pa, slot, hty, h1, h2, Calls.callWith_builtin rfl (PySem.evalArgs_none (hm pins s1 σ H1 x [] v [] Q I1 r1 .nil q1))⟩
theorem pe_bm (pa : PlainAttrs T) (slot : Slot T name id) (hty : typeOf (.builtin id) = pure (.type "method_descriptor")) (hm : MtR X id r) (ho : PE X o to) (ha : PA X (e :: es) t)
    (hbase : attributeBase o name X.env (eval o X.env) = eval o X.env := by rfl)
    (hfew : ((backTo cpos (starEach (e :: es) X.env)).all (fun x => !x.1) && (backToKw cpos (keywordEach [] X.env)).all (fun x => x.1.isSome)
      && decide ((e :: es).length + ([] : List Keyword).length + (if ([] : List Keyword).isEmpty then 0 else 1) < 30)) = true := by rfl)
    (hline : (apos.endLine == cpos.line) = true := by rfl) (hs : starEach (e :: es) X.env = (false, eval e X.env) :: starEach es X.env := by rfl) (hplain : (backTo cpos (starEach es X.env)).any (·.1) = false := by rfl) :
    PE X (.Call (.Attribute o name apos) (e :: es) [] cpos) (tBM X.K T r to t) := by
  intro pins s σ H Q I h
  refine wpAny_Call_method_late hbase hfew hline rfl (thn (ho pins s σ H _ I h) fun v s1 ⟨x, H1, I1, r1, ty, q1⟩ => ?_)
  obtain ⟨h1, h2⟩ := tyV_is I1 r1 ty
  refine ⟨T, id, pa, slot, hty, h1, h2, ?_⟩
  have hA := ha cpos pins s1 σ H1 _ I1 q1
  rw [hs] at hA ⊢
  refine Calls.callWith_builtin (by show (false || (backTo cpos (starEach es X.env)).any (·.1)) = false; rw [hplain] <;> rfl) (Calls.evalArgs_plain ?_)
  exact thn hA fun us s2 ⟨vs, H2, I2, r2, q2⟩ => hm pins s2 σ H2 x vs v us Q I2 r1 r2 q2
/- xs.append(e), list.index on a module's tuple .. are MtR facts of 06m -/
end
end L2

namespace L2
open PySem PySem.Spec PyProof.Rows

def MtM (X : Cx) (id : String) (r : V → List V → Hp → VK → Prop) : Prop :=
  ∀ (pins : List (Addr × Obj)) (s : Shared) (σ : St) (H : Hp) (x : V) (xs : List V) (v : Value) (us : List Value) (Q : VK), Inv X pins σ H s → RelV x v → Vals xs us → r x xs H Q →
    wpAny (model X.prog X.w) X.A (call (.builtin id) (v :: us)) (EP X pins σ Q) X.xe s

theorem Vals.one : ∀ {x : V} {us : List Value}, Vals [x] us → ∃ u, us = [u] ∧ RelV x u
  | _, _, .cons r .nil => ⟨_, rfl, r⟩
theorem Vals.two : ∀ {x y : V} {us : List Value}, Vals [x, y] us → ∃ u v, us = [u, v] ∧ RelV x u ∧ RelV y v
  | _, _, _, .cons r (.cons q .nil) => ⟨_, _, rfl, r, q⟩
theorem Vals.zero : ∀ {us : List Value}, Vals [] us → us = []
  | _, .nil => rfl
theorem Vals.dropLast {xs : List V} {us : List Value} (h : Vals xs us) : Vals xs.dropLast us.dropLast := by
  induction h with
  | nil => exact .nil
  | cons r t ih =>
    cases t with
    | nil => exact .nil
    | cons q t' => exact .cons r ih
theorem Vals.eraseIdx : ∀ {xs : List V} {us : List Value} (i : Nat), Vals xs us → Vals (xs.eraseIdx i) (us.eraseIdx i)
  | _, _, _, .nil => .nil
  | _, _, 0, .cons _ t => t
  | _, _, i + 1, .cons r t => .cons r (Vals.eraseIdx i t)
theorem Vals.reverse {xs : List V} {us : List Value} (h : Vals xs us) : Vals xs.reverse us.reverse := by
  induction h with
  | nil => exact .nil
  | cons r t ih => rw [List.reverse_cons, List.reverse_cons]; exact Vals.append ih (.cons r .nil)
theorem Vals.rep {xs : List V} {us : List Value} (h : Vals xs us) : ∀ k : Nat, Vals (List.replicate k xs).flatten (List.replicate k us).flatten
  | 0 => .nil
  | k + 1 => by
    rw [List.replicate_succ, List.replicate_succ, List.flatten_cons, List.flatten_cons]
    exact Vals.append h (Vals.rep h k)
theorem erase_last {α : Type} (l : List α) : l.eraseIdx (l.length - 1) = l.dropLast := by
  induction l with
  | nil => rfl
  | cons a r ih =>
    cases r with
    | nil => rfl
    | cons b r =>
      have e : (a :: b :: r).length - 1 = ((b :: r).length - 1) + 1 := by
        have h1 : (a :: b :: r).length = r.length + 2 := rfl
        have h2 : (b :: r).length = r.length + 1 := rfl
        omega
      rw [e, List.eraseIdx_cons_succ, ih]
      all_goals rfl
theorem foldl_rep (its : List Value) : ∀ (k : Nat) (acc : List Value),
    List.foldl (fun x1 x2 => x1 ++ x2) acc.toArray (List.replicate k its.toArray) = (acc ++ (List.replicate k its).flatten).toArray
  | 0, acc => by simp
  | k + 1, acc => by
    have e : acc.toArray ++ its.toArray = (acc ++ its).toArray := by simp
    have e2 : (acc ++ its) ++ (List.replicate k its).flatten = acc ++ (List.replicate (k + 1) its).flatten := by
      rw [List.replicate_succ, List.flatten_cons, List.append_assoc]
    rw [← e2, ← foldl_rep its k (acc ++ its), ← e, List.replicate_succ, List.foldl_cons]

section
variable {X : Cx} {pins : List (Addr × Obj)} {σ : St} {H : Hp} {s : Shared} {l b : Addr} {xs ys zs : List V}

theorem Inv.lset {its its' : List Value} {n : Nat} {f : Array Value → Array Value} {t' : Nat} (I : Inv X pins σ H s) (hH : H l = some (.lst xs))
    (e : s.heap.get? l = some { cls := .type "list", data := .seq its.toArray n }) (hf : f its.toArray = its'.toArray) (hv : Vals ys its') (hz : ys.length ≤ sizeLine) :
    Inv X pins σ (upd H l (.lst ys)) { s with heap := s.heap.update l (Obj.mapSeq f), toks := t' } := by
  have q := PySem.IsL.update e f
  rw [hf] at q
  refine I.write (x := l) (e := l) (by rw [hH]; exact trivial) (.inl rfl) (fun b' u hb hu => (Heap.get?_update_other s.heap (Obj.mapSeq f) (Ne.symm hb)).trans hu) ⟨_, q⟩ ?_
  exact ⟨hz, its', _, hv, q⟩
theorem Inv.lnew {its : List Value} {t' : Nat} (I : Inv X pins σ H s) (hv : Vals ys its) (hz : ys.length ≤ sizeLine) :
    Inv X pins σ (upd H s.heap.objs.size (.lst ys)) { s with heap := s.heap.push { cls := .type "list", data := .seq its.toArray }, toks := t' } :=
  I.laid (fun _ _ q => Heap.get?_push_of_some _ q) (Nat.le_refl _) ⟨hz, its, 0, hv, Heap.get?_push_size _ rfl⟩
theorem Inv.fresh (I : Inv X pins σ H s) : H s.heap.objs.size = none := I.hok.fresh (Nat.le_refl _)
theorem Inv.lstM (I : Inv X pins σ H s) (hH : H l = some (.lst xs)) : xs.length ≤ sizeLine ∧ ∃ (its : List Value) (n : Nat), Vals xs its ∧ xs.length = its.length ∧ s.heap.get? l = some { cls := .type "list", data := .seq its.toArray n } := by
  obtain ⟨z, its, n, r, e⟩ := I.hok l _ hH
  exact ⟨z, its, n, r, r.length, e⟩

theorem notLongL {n : Nat} (h : n ≤ sizeLine) : Builtin.List.listTooLong n = false := by
  unfold Builtin.List.listTooLong
  exact decide_eq_false (by omega)
end

section
variable {X : Cx}

def rAppend : V → List V → Hp → VK → Prop := fun x vs H Q => ∃ l xs y, x = .ref l ∧ vs = [y] ∧ H l = some (.lst xs) ∧ xs.length < sizeLine ∧ Q .non (upd H l (.lst (xs ++ [y])))
theorem mt_append : MtM X "list.append" rAppend := by
  intro pins s σ H x vs v us Q I rx rv h
  obtain ⟨l, xs, y, rfl, rfl, hH, hz, q⟩ := h
  cases rx
  obtain ⟨u, rfl, ru⟩ := rv.one
  obtain ⟨z, its, n, r, hl, e⟩ := I.lstM hH
  refine call_meets F.slot_list_append ⟨_, e, rfl⟩ F.entry_list_append (F.args_list_append_2 _ _) (PySem.list_append l its.toArray n u (by rw [List.size_toArray]; omega)) ⟨e, ?_⟩
  refine ⟨.non, _, I.lset (its' := its ++ [u]) hH e (by simp) (r.append (.cons ru .nil)) ?_, rfl, q⟩
  rw [List.length_append, List.length_singleton]
  omega

def rExtend : V → List V → Hp → VK → Prop := fun x vs H Q => ∃ l b xs zs, x = .ref l ∧ vs = [.ref b] ∧ H l = some (.lst xs) ∧ H b = some (.lst zs) ∧ xs.length + zs.length ≤ sizeLine ∧ Q .non (upd H l (.lst (xs ++ zs)))
theorem mt_extend : MtM X "list.extend" rExtend := by
  intro pins s σ H x vs v us Q I rx rv h
  obtain ⟨l, b, xs, zs, rfl, rfl, hH, hB, hz, q⟩ := h
  cases rx
  obtain ⟨u, rfl, ru⟩ := rv.one
  cases ru
  obtain ⟨z, its, n, r, hl, e⟩ := I.lstM hH
  obtain ⟨z2, its2, n2, r2, hl2, e2⟩ := I.lstM hB
  have hsz : its.toArray.size + its2.toArray.size ≤ sizeLine := by rw [List.size_toArray, List.size_toArray]; omega
  have hlong : ¬ (!its.toArray.isEmpty && Builtin.List.listTooLong (its.toArray.size + its2.toArray.size)) = true := by
    rw [notLongL hsz, Bool.and_false]
    exact Bool.false_ne_true
  refine call_meets F.slot_list_extend ⟨_, e, rfl⟩ F.entry_list_extend (F.args_list_extend_2 _ _)
    (AutoSeq1.list_extend_list_list_0 l its.toArray n b its2.toArray n2 hlong (by rw [List.size_toArray]; omega) (by omega)) ⟨e, e2, ?_⟩
  refine ⟨.non, _, I.lset (its' := its ++ its2) hH e (by simp) (r.append r2) ?_, rfl, q⟩
  rw [List.length_append]
  omega

def rPop : V → List V → Hp → VK → Prop := fun x vs H Q => ∃ l xs y, x = .ref l ∧ vs = [] ∧ H l = some (.lst xs) ∧ xs[xs.length - 1]? = some y ∧ Q y (upd H l (.lst xs.dropLast))
theorem mt_pop : MtM X "list.pop" rPop := by
  intro pins s σ H x vs v us Q I rx rv h
  obtain ⟨l, xs, y, rfl, rfl, hH, hy, q⟩ := h
  cases rx
  have hus := rv.zero
  subst hus
  obtain ⟨z, its, n, r, hl, e⟩ := I.lstM hH
  obtain ⟨u, hu, ru⟩ := r.get hy
  have hy' : its.toArray[its.toArray.size - 1]? = some u := by
    show its.toArray[its.length - 1]? = some u
    rw [← Array.getElem?_toList, ← hl]
    exact hu
  refine call_meets F.slot_list_pop ⟨_, e, rfl⟩ F.entry_list_pop (F.args_list_pop_1 _) (MeetsSeq.list_pop_last l its.toArray n u hy' (by rw [List.size_toArray]; omega)) ⟨e, ?_⟩
  refine ⟨y, _, I.lset (its' := its.dropLast) hH e ?_ r.dropLast ?_, ru, q⟩
  · show its.toArray.eraseIdxIfInBounds (its.toArray.size - 1) = its.dropLast.toArray
    rw [List.size_toArray, List.eraseIdxIfInBounds_toArray, erase_last]
  · rw [List.length_dropLast]
    omega

def rReverse : V → List V → Hp → VK → Prop := fun x vs H Q => ∃ l xs, x = .ref l ∧ vs = [] ∧ H l = some (.lst xs) ∧ Q .non (upd H l (.lst xs.reverse))
theorem mt_reverse : MtM X "list.reverse" rReverse := by
  intro pins s σ H x vs v us Q I rx rv h
  obtain ⟨l, xs, rfl, rfl, hH, q⟩ := h
  cases rx
  have hus := rv.zero
  subst hus
  obtain ⟨z, its, n, r, hl, e⟩ := I.lstM hH
  refine call_meets F.slot_list_reverse ⟨_, e, rfl⟩ F.entry_list_reverse (F.args_list_reverse_1 _) (AutoSeq1.list_reverse_list_0 l its.toArray n (by rw [List.size_toArray]; omega)) ⟨e, ?_⟩
  refine ⟨.non, _, I.lset (its' := its.reverse) hH e (by simp) r.reverse ?_, rfl, q⟩
  rw [List.length_reverse]
  omega

def rCat : R2 := fun x y H Q => ∃ l b xs zs, x = .ref l ∧ y = .ref b ∧ H l = some (.lst xs) ∧ H b = some (.lst zs) ∧ xs.length + zs.length ≤ sizeLine ∧ ∀ p, H p = none → Q (.ref p) (upd H p (.lst (xs ++ zs)))
theorem op_cat : OpR X (binaryOp .Add) rCat := by
  intro pins s σ H x y v u Q I rx ry h
  obtain ⟨l, b, xs, zs, rfl, rfl, hH, hB, hz, q⟩ := h
  cases rx
  cases ry
  obtain ⟨z, its, n, r, hl, e⟩ := I.lstM hH
  obtain ⟨z2, its2, n2, r2, hl2, e2⟩ := I.lstM hB
  refine PySem.P.add_list e e2 ?_ (by rw [List.size_toArray, List.size_toArray]; omega)
  have ea : its.toArray ++ its2.toArray = (its ++ its2).toArray := by simp
  rw [ea]
  exact ⟨.ref _, _, I.lnew (t' := s.toks) (r.append r2) (by rw [List.length_append]; omega), rfl, q _ I.fresh⟩
def rRep : R2 := fun x y H Q => ∃ l k xs, x = .ref l ∧ y = .int k ∧ H l = some (.lst xs) ∧ -(2 ^ 63) ≤ k ∧ k < 2 ^ 63 ∧ xs.length * k.toNat ≤ sizeLine ∧
  ∀ p, H p = none → Q (.ref p) (upd H p (.lst (List.replicate k.toNat xs).flatten))
theorem len_rep {α : Type} (xs : List α) (k : Nat) : (List.replicate k xs).flatten.length = k * xs.length := by
  induction k with
  | zero => simp
  | succ k ih => rw [List.replicate_succ, List.flatten_cons, List.length_append, ih, Nat.succ_mul, Nat.add_comm]
theorem op_rep : OpR X (binaryOp .Mult) rRep := by
  intro pins s σ H x y v u Q I rx ry h
  obtain ⟨l, k, xs, rfl, rfl, hH, h1, h2, hz, q⟩ := h
  cases rx
  obtain ⟨t, rfl⟩ := ry
  obtain ⟨z, its, n, r, hl, e⟩ := I.lstM hH
  have hlen : its.toArray.size * k.toNat ≤ sizeLine := by rw [List.size_toArray, ← hl]; exact hz
  have hcap : ¬ its.toArray.size * k.toNat > (2 ^ 63 - 1) / 8 := by
    have : (sizeLine : Nat) ≤ (2 ^ 63 - 1) / 8 := by decide
    omega
  have hfit : ¬ (!Builtin.List.listFitsIndex k) = true := by
    rw [fitsIndex_both h1 h2]
    exact Bool.false_ne_true
  have hlong : ¬ Builtin.List.listTooLong (its.toArray.size * k.toNat) = true := by
    rw [notLongL hlen]
    exact Bool.false_ne_true
  have hnew : List.foldl (fun x1 x2 => x1 ++ x2) #[] (List.replicate (if its.toArray.isEmpty = true then 0 else k.toNat) its.toArray) = (List.replicate k.toNat its).flatten.toArray := by
    have f0 : ∀ m : Nat, List.foldl (fun x1 x2 => x1 ++ x2) #[] (List.replicate m its.toArray) = (List.replicate m its).flatten.toArray := fun m => by
      have := foldl_rep its m []
      rw [List.nil_append] at this
      exact this
    rw [f0]
    cases its with
    | nil => simp
    | cons a r' => rw [if_neg (by simp)]
  refine wpAny_binaryOp_repeat_ref (T := "list") (U := "int") (by decide) ⟨_, e, rfl⟩ (fun s' => typeIs_int s' k t) noFill_list_mul F.fills_int_mul F.slot_int_rmul repeat_list F.slot_int_index.lookup
    (call_meets F.slot_int_rmul (typeIs_int s k t) F.entry_int_rmul (F.args_int_rmul_2 _ _) (int___rmul___int_list k t l its.toArray n)
      ⟨e, rfl, ⟨_, e, rfl⟩, call_meets F.slot_list_mul ⟨_, e, rfl⟩ F.entry_list_mul (F.args_list_mul_2 _ _) (AutoListH.list___mul___list_int_3 l its.toArray n k t hfit hcap hlong) ⟨e, ?_⟩⟩)
  rw [hnew]
  exact ⟨.ref _, _, I.lnew (t' := s.toks) (r.rep k.toNat) (by rw [len_rep, Nat.mul_comm]; exact hz), rfl, q _ I.fresh⟩

end

section
variable {prog : Program} {w : World} {A : Around} {E : Value → Shared → Prop} {s : Shared}
set_option maxRecDepth 100000 in
end

section
variable {X : Cx}
end
end L2

namespace Att
open PySem PySem.W PySem.Calls PyProof.Rows

theorem ints_of_wellAll {P : Params} {h : Heap} : ∀ (ns : List Int) (vs : List Value), WellAll P h vs (ns.map WData.int) → IntsAre vs ns := by
  intro ns
  induction ns with
  | nil =>
    intro vs w
    rw [List.map_nil] at w
    cases w
    exact .nil
  | cons n ns ih =>
    intro vs w
    rw [List.map_cons] at w
    cases w with
    | cons a b =>
      cases a
      exact .cons _ _ (ih _ b)

theorem script_of {l : OpenLaw} {n : Nat} (hn : l.most = some n) {P : Params} {h : Heap} {args : List WData} {vals : List Value}
    (hpre : l.row.toRowW.claim.pre args = true) (hwl : WellAll P h vals args) :
    ∃ a vs ns, vals = [Value.ref a] ∧ args = [WData.list (ns.map WData.int)] ∧ h.get? a = some { cls := .type "list", data := .seq vs.toArray } ∧ IntsAre vs ns ∧ ns.length ≤ n := by
  have hsh : WShape.hasAll [] args [.list .int] = true := (pre_splitW hpre).1
  have hc : l.pre.holds [] { args := args } = true := (pre_splitW hpre).2
  obtain ⟨d, r, rfl, h1, h2⟩ := hasAllW_cons hsh
  obtain rfl := hasAllW_nil h2
  obtain ⟨xs, rfl, h3⟩ := hasW_list h1
  obtain ⟨ns, rfl⟩ := items_int h3
  have hlen : ns.length ≤ n := by
    unfold OpenLaw.pre at hc
    have h4 : (WTm.not (.lt (.lit (.int (n : Int))) (.len (.arg 0)))).holds [] { args := [.list (ns.map .int)] } = true := by
      have h4 := (holds_andW hc).1
      rw [hn] at h4
      exact h4
    have h5 := condW_of h4 (w_not (w_lt w_lit (w_len_list (w_arg rfl))))
    rw [List.length_map] at h5
    refine Nat.le_of_not_lt fun q => ?_
    have q' : (n : Int) < ((ns.length : Nat) : Int) := by omega
    first
      | (rw [decide_eq_true q'] at h5; exact absurd h5 (by decide))
      | (simp at h5; omega)
  cases hwl with
  | cons w1 w2 =>
    cases w2
    cases w1 with
    | list ho hall => exact ⟨_, _, ns, rfl, rfl, ho, ints_of_wellAll ns _ hall, hlen⟩

theorem post_true (l : OpenLaw) (args : List WData) : l.row.toRowW.claim.post args (.bool true) args = true :=
  postW_of (r := l.row.toRowW) (X := (true == true))
    (show WShape.has [] (.bool true) .bool = true by first | rfl | decide | simp [WShape.has, WShape.arms, WShape.armsAll])
    (show (WTm.eq .res (.lit (.bool true))).value [] { args := args, res := some (.bool true), after := args } = some (.bool (true == true)) from w_eq_bool (w_res rfl) w_lit) rfl

theorem attach_call {l : OpenLaw} {n : Nat} {q : Program} {loose : List Str} {XP : (Str → Option Value) → Heap → Prop} {YP : World → Heap → Prop} {d : DefRec}
    (hn : l.most = some n) (hdf : d.params.defaults = [])
    (call : ∀ (w : World) (s₀ s₁ : Shared) (mg mb : Str → Option Value) (fa : Addr) (o : Obj) (pm cd doc : Value) (a : Addr) (vs : List Value) (ns : List Int),
      Ground q loose [] XP w s₀ mg mb s₁.heap → YP w s₁.heap →
      s₁.heap.get? fa = some o → o.data = .func (docDef d.name d.params d.body d.scope pm cd doc) → s₁.heap.CodeRec cd d.name → mg d.name = some (.ref fa) →
      s₁.heap.get? a = some { cls := .type "list", data := .seq vs.toArray } → IntsAre vs ns → ns.length ≤ n → s₁.gens = #[] →
      codeAny (model l.prog w) callerA (.call (.ref fa) ⟨[.ref a], []⟩) (fun r s' => r = .ok (.ret (.bool true)) ∧ OldK s₁.heap s'.heap ∧ s'.os = s₁.os ∧ AllBare s'.gens) s₁) :
    WalkO q loose XP YP l.row.toRowW d [] (fun f vs => PySem.call f vs) := by
  intro w s₀ s₁ mg mb G Y fa o pm cd doc dV kV ho hd hcd hD hmg hg args vals as hpre hlay hrd hwl hlo
  obtain rfl : dV = .none := Dflts.none hD hdf
  obtain rfl : kV = .none := Dflts.noKw hD
  obtain ⟨a, vs, ns, rfl, rfl, hobj, hints, hlen⟩ := script_of hn hpre hwl
  refine enter_call (codeAny_mono (call w s₀ s₁ mg mb fa o pm cd doc a vs ns G Y ho (fd_plain hd) hcd hmg hobj hints hlen hg) fun r s' hq => ?_)
  obtain ⟨rfl, h2, h3, h4⟩ := hq
  exact ⟨.inl ⟨.bool true, .bool true, [], rfl, fun _ => rfl, .bool true, post_true l _, fun _ => ⟨List.Pairwise.nil, fun _ hm => (nomatch hm)⟩⟩, h2, h3, h4⟩

section
variable {prog : Program} {w : World} {A : Around} {E : Value → Shared → Prop} {s : Shared} {K : Frag}

def ledger (h : Heap) (L d : Addr) : List (Addr × Obj) := (List.range h.objs.size).filterMap fun a => if a = L ∨ a = d then none else (h.get? a).map fun o => (a, o)
end
end Att

namespace L2
open PySem PySem.Spec PyProof.Rows

theorem vals_ints : ∀ {vs : List Value} {ns : List Int}, IntsAre vs ns → Vals (ns.map V.int) vs
  | _, _, .nil => .nil
  | _, _, .cons n t h => .cons ⟨t, rfl⟩ (vals_ints h)

def Only (H : Hp) : Prop := ∀ b, H b = none ∨ ∃ o xs, H b = some (.frz o (.lst xs))

theorem law_call {P : Program} {w : World} {K : PySem.W.Frag} {mg mb : Str → Option Value} {CX : CXT} {k : Nat} {fa a : Addr} {fd : FuncData} {x : Str} {sp : Sp} {s₁ : Shared} {vs : List Value} {ns : List Int}
    (KX : K.In s₁.heap) (hns : s₁.heap.Ns mainGlobals mg) (hb : s₁.heap.Ns builtinsNs mb) (hbb : ∀ x : Str, x ≠ "__name__" → mb x = bootBuiltins x) (hlim : s₁.heap.NoLimit) (hg : s₁.gens = #[])
    (ha : s₁.heap.get? a = some { cls := .type "list", data := .seq vs.toArray }) (hi : IntsAre vs ns) (hl : ns.length ≤ sizeLine) (hr : Room k callerA)
    (F : ∀ base : Heap, K.In base → base.Ns mainGlobals mg → FnOk P w K mg base CX k fa fd [x] sp) (hbind : ∀ (s : Shared) (u : Value), BindsTo s fd ⟨[u], []⟩ [(x, u)])
    (hsp : ∀ H : Hp, Only H → SqL K H a (ns.map V.int) → sp [.ref a] H (fun v _ => v = .bl true) fun _ _ _ => False)
    (hCX : ∀ H e s', CX [] H s₁ (fun _ _ _ => False) e s' → False) :
    codeAny (model P w) callerA (.call (.ref fa) ⟨[.ref a], []⟩) (fun r s' => r = .ok (.ret (.bool true)) ∧ OldK s₁.heap s'.heap ∧ s'.os = s₁.os ∧ AllBare s'.gens) s₁ := by
  have rv := vals_ints hi
  have lenV := hi.length
  -- from an abstract heap in which nothing but the script may be tracked
  have core : ∀ H : Hp, Only H → SqL K H a (ns.map V.int) → HOk P w H s₁.heap → (∀ b, H b ≠ none → b = a) → (H a ≠ none → K.lookup a = none) →
      codeAny (model P w) callerA (.call (.ref fa) ⟨[.ref a], []⟩) (fun r s' => r = .ok (.ret (.bool true)) ∧ OldK s₁.heap s'.heap ∧ s'.os = s₁.os ∧ AllBare s'.gens) s₁ := by
    intro H hO hS hok hA hK
    have base_of : ∀ {b : Addr} {o : Obj}, s₁.heap.get? b = some o → H b = none → (hidT s₁.heap H).get? b = some o := fun e n => hidT_get e n
    have noA : ∀ {b : Addr} {o : Obj} {es : Array DictEntry} {ep : Nat}, s₁.heap.get? b = some o → o.data = .dict es ep → H b = none := fun {b o es ep} e d => by
      cases q : H b with
      | none => rfl
      | some u =>
        have e' : b = a := hA b (by rw [q]; simp)
        subst e'
        rw [ha] at e; cases e
        have d' : Data.seq vs.toArray _ = Data.dict es ep := d
        cases d'
    have nsK : ∀ {b : Addr} {m : Str → Option Value}, s₁.heap.Ns b m → (hidT s₁.heap H).Ns b m := fun {b m} ⟨o, es, ep, e, d, r⟩ => ⟨o, es, ep, base_of e (noA e d), d, r⟩
    have hKb : K.In (hidT s₁.heap H) := fun b o e => base_of (KX b o e) (by
      cases q : H b with
      | none => rfl
      | some u =>
        have e' : b = a := hA b (by rw [q]; simp)
        subst e'
        rw [hK (by rw [q]; simp)] at e; cases e)
    have hM : Mod K mg (hidT s₁.heap H) := ⟨hKb, nsK hns, ⟨mb, nsK hb, hbb⟩, let ⟨mc, h1, h2⟩ := hlim; ⟨mc, nsK h1, h2⟩⟩
    have e0 : Env0 P w K mg (hidT s₁.heap H) callerA [] s₁ H := ⟨rfl, hM, fun b o e => of_hidT e, Nat.le_of_eq (hidT_size _ _), trivial, fun b hb => absurd (show b ∈ ([] : List Addr) from hb) (by simp), hok, .of_eq hg⟩
    refine codeAny_mono ((F _ hKb (nsK hns)).run callerA [] s₁ H ⟨[.ref a], []⟩ [.ref a] [.ref a] _ _ hr e0 (hbind s₁ (.ref a)) (.cons rfl .nil) (hsp H hO hS)) fun r s' h => ?_
    cases r with
    | error e => exact (hCX H e s' h).elim
    | ok fl =>
      cases fl with
      | next => exact False.elim h
      | brk => exact False.elim h
      | cont => exact False.elim h
      | ret u =>
        obtain ⟨v, H', os, bare, un, hok', r', q⟩ := h
        have q' : v = .bl true := q
        subst q'
        obtain rfl : u = Value.bool true := r'
        refine ⟨rfl, OldK.of_keep fun b o e => ?_, os, bare⟩
        cases q : H b with
        | none => exact un.keep b o e q (by intro z; exact absurd (show b ∈ ([] : List Addr) from z) (by simp)) (by simp)
        | some u =>
          rcases hO b with z | ⟨ob, xs, z⟩
          · rw [q] at z; cases z
          · have z2 := un.frzs b ob _ z
            obtain ⟨e1, _⟩ := hok b _ z
            obtain ⟨e2, _⟩ := hok' b _ z2
            rw [e] at e1; cases e1
            exact e2
  cases hk : K.lookup a with
  | some o =>
    -- the script is one of the module's own objects
    have e := KX a o hk
    rw [ha] at e
    cases e
    refine core (fun _ => none) (fun _ => .inl rfl) (.inr ⟨_, vs.toArray, _, hk, rfl, rfl, rfl, by rw [List.size_toArray, lenV]; exact hl, by simpa using rv⟩) (fun b u z => by have z' : (none : Option HO) = some u := z; cases z') (fun b z => absurd rfl z) fun z => absurd rfl z
  | none =>
    refine core (fun b => if b = a then some (.frz { cls := .type "list", data := .seq vs.toArray } (.lst (ns.map V.int))) else none) (fun b => ?_) (.inl (.inr ⟨{ cls := .type "list", data := .seq vs.toArray }, if_pos rfl⟩)) (fun b u z => ?_) (fun b z => ?_) fun _ => hk
    · by_cases hb : b = a
      · exact .inr ⟨_, _, if_pos hb⟩
      · exact .inl (if_neg hb)
    · by_cases hb : b = a
      · have z' := (if_pos hb).symm.trans z
        cases z'
        subst hb
        exact ⟨ha, by rw [List.length_map]; exact hl, vs, _, rv, ha⟩
      · have z' := (if_neg hb).symm.trans z
        cases z'
    · by_cases hb : b = a
      · exact hb
      · exact absurd (if_neg hb) z
end L2

namespace L2
open PySem PySem.Spec PyProof.Rows

abbrev KOf {K : PySem.W.Frag} {h : Heap} (_ : K.In h) : PySem.W.Frag := K

theorem walk_of {l : PySem.W.OpenLaw} {n k : Nat} {q : Program} {loose : List Str} {XP : (Str → Option Value) → Heap → Prop} {YP : World → Heap → Prop} {d : DefRec} {K : Params → PySem.W.Frag} {CX : World → CXT} {sp : World → Sp} {x : Str}
    (hn : l.most = some n) (hn2 : n ≤ sizeLine) (hdf : d.params.defaults = []) (hr : Room k callerA)
    (hY : ∀ (w : World) (h : Heap), YP w h → (K w.params).In h)
    (F : ∀ (w : World) (mg : Str → Option Value) (fa : Addr) (h : Heap), (K w.params).In h → h.Ns mainGlobals mg → mg d.name = some (.ref fa) →
      ∃ fd : FuncData, (∀ (s : Shared) (u : Value), BindsTo s fd ⟨[u], []⟩ [(x, u)]) ∧
        ∀ base : Heap, (K w.params).In base → base.Ns mainGlobals mg → FnOk l.prog w (K w.params) mg base (CX w) k fa fd [x] (sp w))
    (hsp : ∀ (w : World) (H : Hp) (a : Addr) (ns : List Int), ns.length ≤ n → Only H → SqL (K w.params) H a (ns.map V.int) → sp w [.ref a] H (fun v _ => v = .bl true) fun _ _ _ => False)
    (hCX : ∀ (w : World) (H : Hp) (s : Shared) (e : Value) (s' : Shared), CX w [] H s (fun _ _ _ => False) e s' → False) :
    PySem.W.WalkO q loose XP YP l.row.toRowW d [] (fun f vs => PySem.call f vs) := by
  refine Att.attach_call hn hdf fun w s₀ s₁ mg mb fa o pm cd doc a vs ns G Y ho hd hcd hmg hobj hints hlen hg => ?_
  have KX := hY w _ Y
  obtain ⟨fd, hb, hF⟩ := F w mg fa _ KX G.T.g hmg
  exact law_call KX G.T.g G.T.b G.T.builtins G.T.nolimit hg hobj hints (Nat.le_trans hlen hn2) hr hF hb (fun H hO hS => hsp w H a ns hlen hO hS) fun H e s' => hCX w H s₁ e s'
end L2


namespace L2
open PySem PySem.Spec PyProof.Rows

def inClass (s : Stmt) (j : Nat) : Stmt := match s with
  | .ClassDef _ _ _ body _ _ _ _ _ _ _ => body.getD j (.Pass ⟨0, 0, 0, 0⟩)
  | _ => .Pass ⟨0, 0, 0, 0⟩
def defArgs (s : Stmt) : Arguments := match s with
  | .FunctionDef _ a _ _ _ _ _ _ _ _ => a
  | _ => { posonlyargs := [], args := [], vararg := none, kwonlyargs := [], kw_defaults := [], kwarg := none, defaults := [] }
def defBody (s : Stmt) : List Stmt := match s with
  | .FunctionDef _ _ b _ _ _ _ _ _ _ => b
  | _ => []
def defScope (s : Stmt) : Scope := match s with
  | .FunctionDef _ _ _ _ _ _ sc _ _ _ => sc
  | _ => { kind := .function, names := [], isGenerator := false, isCoroutine := false }

abbrev CX0 : CXT := fun _ _ _ _ _ _ => False
abbrev E0 : XK := fun _ _ _ => False
theorem pass0 {X : Cx} : Passes CX0 X E0 := fun _ _ _ _ _ _ _ h => h.elim

structure Fun (K : PySem.W.Frag) (x qual : Str) (st : Stmt) (f : Addr) (fd : FuncData) : Prop where
  ex : ∃ (oc : Value) (od : Option Addr) (kV doc pm : Value) (an : Option Addr) (cdv ct : Value) (osl : Array (Option Value)),
    fd = PySem.W.fnOf x qual (defArgs st) (defBody st) (defScope st) .none kV doc pm an cdv ct ∧ K.lookup f = some ⟨oc, od, .func fd, osl⟩ ∧ PySem.W.codeIn K cdv qual = true
  kp : PySem.W.keepIn K (.ref f) = true
section
variable {P : Program} {w : World} {K : PySem.W.Frag} {mg : Str → Option Value} {base : Heap}
theorem Fun.ok {x qual : Str} {st : Stmt} {f : Addr} {fd : FuncData} {N ps : List Str} {k : Nat} {sp : Sp} (F : Fun K x qual st f fd) (S : FnScope N ps (defScope st)) (len : ∀ vs H Q E, sp vs H Q E → vs.length = ps.length)
    (hbody : ∀ (cdv : Value) (A : Around) (outer : List Env) (s : Shared) (H : Hp) (vs : List V) (Q : VK) (E : XK), Room k (A.deeper (envOfC qual (defScope st) s.heap.objs.size f cdv)) → sp vs H Q E →
      ∃ t, PSs (cxOf CX0 P w K mg base N qual (defScope st) f cdv A outer s H E).nox (defBody st) t ∧ t { nx := fun _ H' => Q .non H', rt := Q } (start N vs) H) : FnOk P w K mg base CX0 (k + 1) f fd ps sp := by
  obtain ⟨oc, od, kV, doc, pm, an, cdv, ct, osl, rfl, lk, hcd⟩ := F.ex
  refine fn_of lk hcd S len fun A outer s H vs Q E hr hsp => ?_
  obtain ⟨t, h, q⟩ := hbody cdv A outer s H vs Q E hr hsp
  exact ⟨t, h.nox, q⟩
theorem Fun.binds {x qual : Str} {st : Stmt} {f : Addr} {fd : FuncData} {ps : List Str} (F : Fun K x qual st f fd)
    (h : ∀ (kV doc pm : Value) (an : Option Addr) (cdv ct : Value) (us : List Value), us.length = ps.length → bindArgs (PySem.W.fnOf x qual (defArgs st) (defBody st) (defScope st) .none kV doc pm an cdv ct) ⟨us, []⟩ = pure (ps.zip us)) : Binds K fd ps [] := by
  obtain ⟨oc, od, kV, doc, pm, an, cdv, ct, osl, rfl, lk, hcd⟩ := F.ex
  exact .all (h kV doc pm an cdv ct)
theorem fun_mk {x qual : Str} {st : Stmt} {f : Addr} {oc : Value} {od an : Option Addr} {osl : Array (Option Value)} {kV doc pm cdv ct : Value} (l : K.lookup f = some ⟨oc, od, .func (PySem.W.fnOf x qual (defArgs st) (defBody st) (defScope st) .none kV doc pm an cdv ct), osl⟩)
    (c : PySem.W.codeIn K cdv qual = true) (k : PySem.W.keepIn K (.ref f) = true) : Fun K x qual st f (PySem.W.fnOf x qual (defArgs st) (defBody st) (defScope st) .none kV doc pm an cdv ct) := ⟨⟨oc, od, kV, doc, pm, an, cdv, ct, osl, rfl, l, c⟩, k⟩
end
section
variable {X : Cx}
theorem pv (i : Nat) {x : Str} {pos : Pos} (hN : X.N[i]? = some x := by rfl) (hv : Vis X.env.scope x := by first | exact Or.inl rfl | exact Or.inr (Or.inl rfl) | exact Or.inr (Or.inr rfl)) (hd : (x == ("__debug__" : Str)) = false := by decide)
    (hcd : (x == ("__classdict__" : Str)) = false := by decide) : PE X (.Name x pos) (tVar i) := pe_var hN hv hd hcd
end

theorem iteF {A B : Prop} (h : B) : if false = true then A else B := by
  rw [if_neg Bool.false_ne_true]
  exact h
theorem iteT {A B : Prop} (h : A) : if true = true then A else B := by
  rw [if_pos rfl]
  exact h
theorem ite2 {c A B : Prop} [Decidable c] (h1 : c → A) (h2 : ¬ c → B) : if c then A else B := by
  by_cases h : c
  · rw [if_pos h]
    exact h1 h
  · rw [if_neg h]
    exact h2 h
def Same (H H' : Hp) : Prop := ∀ b o, H b = some o → H' b = some o
theorem Same.refl (H : Hp) : Same H H := fun _ _ h => h
theorem Same.trans {H H1 H2 : Hp} (a : Same H H1) (b : Same H1 H2) : Same H H2 := fun c o h => b c o (a c o h)
theorem Same.free {H H' : Hp} (e : Same H H') {l : Addr} (h : H' l = Option.none) : H l = Option.none := by
  cases q : H l with
  | none => rfl
  | some o =>
    rw [e l o q] at h
    cases h
theorem Same.seq {K : PySem.W.Frag} {H H' : Hp} {a : Addr} {xs : List V} (e : Same H H') (h : SqL K H a xs) : SqL K H' a xs := by
  rcases h with (h | ⟨o, h⟩) | h
  · exact .inl (.inl (e _ _ h))
  · exact .inl (.inr ⟨o, e _ _ h⟩)
  · exact .inr h

end L2

set_option maxRecDepth 1000000
set_option maxHeartbeats 0
open PySem in
def My.top (i : Nat) : Stmt := PySem.Challenge.pw_oddbases_k66_whole_falling_sums.main.body.getD i (.Pass ⟨0, 0, 0, 0⟩)
noncomputable section
open PySem My
namespace My
abbrev v_ : Option Value := some (.ref 6)
abbrev g_ : Array GenState := ⟨[]⟩
abbrev d_ := @Drawn.mk 0 0 0 0
abbrev P_ := @Pos.mk
abbrev N_ (o : Params → Obj) (a b : Params → W.BT) (x : Params) : W.BT := .node (o x) (a x) (b x)
abbrev Z_ (_ : Params) : W.BT := .nil
abbrev L_ (o : Params → Obj) := N_ o Z_ Z_
theorem sg_ {tb p w n₀ ann b} {n : Nat} {s s' : W.SharedT} {t : Thread} {f : Flow} {c : Code} {q : Pos} (h : W.segRunT tb p w n₀ ann b n s t = some (f, s', c, q)) : W.segRun tb p w n₀ ann b n s.abs t = some (f, s'.abs, c, q) := W.segRun_of h
abbrev p_ (a : String) (b : Nat) : Value := .str (.ofString a) b
abbrev j_ (a : Int) (b : Nat) : Value := .int a b
abbrev r_ (a : Nat) : Value := .ref a
abbrev e_ (x : Params) (a : String) (b : Nat) (v : Value) : DictEntry := ⟨PyData.keyHash x (.ofString a), .str (.ofString a) b, v⟩
abbrev t0 (a1 : String) (a3 : Nat) (a7 : String) (a8 a9 : Nat) (x : Params) : Obj := (@Obj.mk (.type "function") none (@Data.func (@FuncData.mk (.ofString a1) (.ofString a1) (L2.defArgs (My.top a3)) (@FuncBody.stmts (L2.defBody (My.top a3))) (L2.defScope (My.top a3)) 3 (@List.nil (@Prod @Str @Nat)) .none .none .none (p_ a7 a8) none (r_ a9) .none 0)) #[])
abbrev t1 (a1 : String) (a2 a4 a6 : Nat) (a7 a9 : Int) (a17 a20 a21 : Nat) (a22 : Int) (a27 : Nat) (x : Params) : Obj := (@Obj.mk (.type "code") none (@Data.fields (List.toArray [(p_ a1 a2), (p_ a1 a4), (p_ "/claim/cut.py" a6), (j_ a7 0), (j_ a9 0), (j_ 0 0), (j_ 0 0), (j_ 3 0), (r_ a17), (.bool @Bool.true), (j_ 181 0), (r_ a20), .none, .none, .none, (r_ a21), (j_ a22 0), (j_ a7 0), (p_ "/claim/cut.py" a27)])) #[])
abbrev t2 (a0 : String) (a2 : Nat) (x : Params) : Obj := (@Obj.mk .none none (@Data.func (@FuncData.mk (.ofString a0) (.ofString a0) (L2.defArgs (My.top a2)) (@FuncBody.stmts (L2.defBody (My.top a2))) (L2.defScope (My.top a2)) 0 (@List.nil (@Prod @Str @Nat)) .none .none .none .none none .none .none 0)) #[])
abbrev t3 (x : Params) : Obj := (@Obj.mk .none none (@Data.fields #[]) #[])
abbrev t4 (x : Params) : Obj := (@Obj.mk (.type "tuple") none (@Data.seq #[] 0) #[])
abbrev t5 (a1 : String) (a2 : Nat) (a3 : String) (a4 a6 : Nat) (a7 a9 : Int) (a17 a20 a21 a22 a23 : Nat) (a24 : Int) (a29 : Nat) (x : Params) : Obj := (@Obj.mk (.type "code") none (@Data.fields (List.toArray [(p_ a1 a2), (p_ a3 a4), (p_ "/claim/cut.py" a6), (j_ a7 0), (j_ a9 0), (j_ 0 0), (j_ 0 0), (j_ 3 0), (r_ a17), (.bool @Bool.true), (j_ 181 0), (r_ a20), .none, (r_ a21), (r_ a22), (r_ a23), (j_ a24 0), (j_ a7 0), (p_ "/claim/cut.py" a29)])) #[])
abbrev t6 (a1 : String) (a2 : Nat) (a3 : String) (a4 : Nat) (a5 : String) (a6 : Nat) (a7 : String) (a8 : Nat) (a9 : String) (a10 : Nat) (a11 : String) (a12 : Nat) (x : Params) : Obj := (@Obj.mk (.type "tuple") none (@Data.seq (List.toArray [(p_ a1 a2), (p_ a3 a4), (p_ a5 a6), (p_ a7 a8), (p_ a9 a10), (p_ a11 a12)]) 0) #[])
abbrev t7 (a1 : String) (a2 : Nat) (a3 : String) (a4 : Nat) (a5 : String) (a6 : Nat) (a7 : String) (a8 : Nat) (a9 : String) (a10 : Nat) (x : Params) : Obj := (@Obj.mk (.type "tuple") none (@Data.seq (List.toArray [(p_ a1 a2), (p_ a3 a4), (p_ a5 a6), (p_ a7 a8), (p_ a9 a10)]) 0) #[])
abbrev t8 (a1 : String) (a2 : Nat) (a3 : String) (a4 : Nat) (a5 : String) (a6 : Nat) (a7 : String) (a8 : Nat) (a9 : String) (a10 : Nat) (a11 : String) (a12 : Nat) (a13 : String) (a14 : Nat) (x : Params) : Obj := (@Obj.mk (.type "tuple") none (@Data.seq (List.toArray [(p_ a1 a2), (p_ a3 a4), (p_ a5 a6), (p_ a7 a8), (p_ a9 a10), (p_ a11 a12), (p_ a13 a14)]) 0) #[])
abbrev t9 (a1 : String) (a2 : Nat) (a3 : String) (a4 : Nat) (a5 : String) (a6 : Nat) (x : Params) : Obj := (@Obj.mk (.type "tuple") none (@Data.seq (List.toArray [(p_ a1 a2), (p_ a3 a4), (p_ a5 a6)]) 0) #[])
abbrev t10 (a1 : String) (a2 : Nat) (x : Params) : Obj := (@Obj.mk (.type "tuple") none (@Data.seq (List.toArray [(p_ a1 a2)]) 0) #[])
abbrev t11 (a1 : String) (a2 : Nat) (a3 : String) (a4 : Nat) (x : Params) : Obj := (@Obj.mk (.type "tuple") none (@Data.seq (List.toArray [(p_ a1 a2), (p_ a3 a4)]) 0) #[])
abbrev t12 (a1 : String) (a2 : Nat) (a3 : String) (a4 : Nat) (a5 : String) (a6 : Nat) (a7 : String) (a8 : Nat) (x : Params) : Obj := (@Obj.mk (.type "tuple") none (@Data.seq (List.toArray [(p_ a1 a2), (p_ a3 a4), (p_ a5 a6), (p_ a7 a8)]) 0) #[])
abbrev t13 (a2 : Nat) (x : Params) : Obj := (@Obj.mk (.type "builtin_function_or_method") none (@Data.fields (List.toArray [(.builtin "object.__init_subclass__"), (r_ a2)])) #[])
abbrev t14 (a1 : Nat) (x : Params) : Obj := (@Obj.mk (.type "super") none (@Data.fields (List.toArray [(r_ a1), (r_ a1), (r_ a1)])) #[])
abbrev t15 (a1 : String) (a3 a6 a8 a10 a12 : Nat) (x : Params) : Obj := (@Obj.mk (.type "type") none (@Data.cls (@ClassData.mk (.ofString a1) [(r_ 226)] [(r_ a3), (r_ 226), (.type "object")] a6 (.ofString a1) @Bool.true [] [] @Bool.false (@Option.none @Bool) @Bool.false)) (@List.toArray (@Option @Value) [(some (r_ a8)), none, (some (p_ a1 a10)), (some (p_ a1 a12)), (some (.builtin "object.__new__")), (some (.bool @Bool.true))]))
abbrev t16 (a1 a2 : String) (a3 a4 a12 : Nat) (x : Params) : Obj := (@Obj.mk (.type "function") none (@Data.func (@FuncData.mk (.ofString a1) (.ofString a2) (L2.defArgs (L2.inClass (My.top a3) a4)) (@FuncBody.stmts (L2.defBody (L2.inClass (My.top a3) a4))) (L2.defScope (L2.inClass (My.top a3) a4)) 3 (@List.nil (@Prod @Str @Nat)) .none .none .none (p_ "oddbases.ways" 387) none (r_ a12) .none 0)) #[])
abbrev t17 (a0 a1 : String) (a2 a3 : Nat) (x : Params) : Obj := (@Obj.mk .none none (@Data.func (@FuncData.mk (.ofString a0) (.ofString a1) (L2.defArgs (L2.inClass (My.top a2) a3)) (@FuncBody.stmts (L2.defBody (L2.inClass (My.top a2) a3))) (L2.defScope (L2.inClass (My.top a2) a3)) 0 (@List.nil (@Prod @Str @Nat)) .none .none .none .none none .none .none 0)) #[])
abbrev t18 (a1 a3 : Nat) (a4 : String) (a5 : Nat) (x : Params) : Obj := (@Obj.mk (.type "frame") none @Data.plain (@List.toArray (@Option @Value) [(some (r_ a1)), (some (r_ 3)), (some (r_ a3)), none, (some (p_ a4 a5)), none, (some (r_ 0))]))
abbrev t19 (a1 : String) (a2 a4 a6 : Nat) (a7 : Int) (a17 a20 : Nat) (a21 : Int) (a26 : Nat) (x : Params) : Obj := (@Obj.mk (.type "code") none (@Data.fields (List.toArray [(p_ a1 a2), (p_ a1 a4), (p_ "/claim/cut.py" a6), (j_ a7 0), (j_ 0 0), (j_ 0 0), (j_ 0 0), (j_ 0 0), (r_ a17), (.bool @Bool.false), (j_ 181 0), (r_ a20), .none, .none, .none, .none, (j_ a21 0), (j_ a7 0), (p_ "/claim/cut.py" a26)])) #[])
abbrev t20 (a0 : Int) (a4 : Nat) (a5 : Int) (a9 : Nat) (a10 : Int) (a14 : Nat) (a15 : Int) (a19 : Nat) (a20 : Int) (a24 : Nat) (a25 : Int) (a29 : Nat) (x : Params) : Obj := (@Obj.mk .none none (@Data.fields (List.toArray [(j_ a0 0), (j_ 4 0), (r_ a4), (j_ a5 0), (j_ 4 0), (r_ a9), (j_ a10 0), (j_ 4 0), (r_ a14), (j_ a15 0), (j_ 4 0), (r_ a19), (j_ a20 0), (j_ 4 0), (r_ a24), (j_ a25 0), (j_ 4 0), (r_ a29)])) #[])
abbrev t21 (a3 a8 : Nat) (a9 : String) (a10 a13 : Nat) (a14 : Int) (a15 : Nat) (a16 : String) (a18 a19 : Nat) (a20 : String) (a22 a23 : Nat) (a24 : String) (a26 a27 : Nat) (a28 : String) (a30 a31 a34 a35 a38 a39 a42 a43 : Nat) (x : Params) : Obj := (@Obj.mk (.type "dict") none (@Data.dict (List.toArray [(e_ x "__module__" a3 (p_ "oddbases.ways" 387)), (e_ x "__qualname__" a8 (p_ a9 a10)), (e_ x "__firstlineno__" a13 (j_ a14 a15)), (e_ x a16 a18 (r_ a19)), (e_ x a20 a22 (r_ a23)), (e_ x a24 a26 (r_ a27)), (e_ x a28 a30 (r_ a31)), (e_ x "split" a34 (r_ a35)), (e_ x "has" a38 (r_ a39)), (e_ x "__static_attributes__" a42 (r_ a43))]) 10) #[])
abbrev t22 (x : Params) : Obj := (@Obj.mk (.type "builtin_function_or_method") none (@Data.fields (List.toArray [(.builtin "type.__prepare__"), (.type "type")])) #[])
abbrev t23 (a1 : Nat) (x : Params) : Obj := (@Obj.mk (.type "tuple") none (@Data.seq (List.toArray [(r_ a1)]) 0) #[])
abbrev t24 (a2 a3 : Nat) (x : Params) : Obj := (@Obj.mk (.type "getset_descriptor") none (@Data.fields (List.toArray [(p_ "__weakref__" a2), (r_ a3), (.builtin "ExceptionGroup.__weakref__"), .none])) #[])
abbrev t25 (a1 : String) (a3 a9 a11 a13 a15 : Nat) (x : Params) : Obj := (@Obj.mk (.type "type") none (@Data.cls (@ClassData.mk (.ofString a1) [(r_ 31)] [(r_ a3), (r_ 31), (.type "ValueError"), (.type "Exception"), (.type "BaseException"), (.type "object")] a9 (.ofString a1) @Bool.true [] [] @Bool.false (@Option.none @Bool) @Bool.false)) (@List.toArray (@Option @Value) [(some (r_ a11)), none, (some (p_ a1 a13)), (some (p_ a1 a15)), (some (.builtin "ValueError.__new__")), (some (.bool @Bool.true))]))
abbrev t26 (a3 a8 : Nat) (a9 : Int) (a10 a13 a14 a17 : Nat) (x : Params) : Obj := (@Obj.mk (.type "dict") none (@Data.dict (List.toArray [(e_ x "__module__" a3 (p_ "oddbases.errors" 194)), (e_ x "__firstlineno__" a8 (j_ a9 a10)), (e_ x "__static_attributes__" a13 (r_ a14)), (e_ x "__doc__" a17 .none)]) 2) #[])
abbrev t27 (a3 a8 : Nat) (a9 : String) (a10 a13 : Nat) (a14 : Int) (a15 a18 a19 : Nat) (x : Params) : Obj := (@Obj.mk (.type "dict") none (@Data.dict (List.toArray [(e_ x "__module__" a3 (p_ "oddbases.errors" 194)), (e_ x "__qualname__" a8 (p_ a9 a10)), (e_ x "__firstlineno__" a13 (j_ a14 a15)), (e_ x "__static_attributes__" a18 (r_ a19))]) 4) #[])
abbrev U2 (x : Params) : DictEntry := (e_ x "__annotations__" 170 (r_ 6))
abbrev U1 (x : Params) : DictEntry := (e_ x "__file__" 173 (p_ "/claim/cut.py" 172))
abbrev U0 (x : Params) : DictEntry := (e_ x "__loader__" 168 (.builtin "__main__.__loader__#opaque"))
def o666 := t0 "law" 67 "law_oddbases_k66_whole_falling_sums" 882 590
def o665 := t1 "law" 984 985 986 370 1 587 588 589 987 988
def o664 := t2 "law" 67
def o663 := t3
def o662 := t4
def o661 := t0 "_law_placed" 66 "law_oddbases_k66_whole_falling_sums" 882 585
def o660 := t5 "_law_placed" 972 "_law_placed" 973 974 366 4 580 581 582 583 584 981 982
def o659 := t2 "_law_placed" 66
def o657 := t6 "_law_way" 975 "_law_most" 976 "_law_row" 977 "_law_place" 978 "_law_found" 979 "_law_due" 980
def o654 := t0 "_law_shared" 65 "law_oddbases_k66_whole_falling_sums" 882 578
def o653 := t5 "_law_shared" 957 "_law_shared" 958 959 352 4 573 574 575 576 577 969 970
def o652 := t2 "_law_shared" 65
def o650 (x : Params) : Obj := (@Obj.mk (.type "tuple") none (@Data.seq (List.toArray [(p_ "_law_way" 960), (p_ "_law_most" 961), (p_ "_law_row" 962), (p_ "_law_many" 963), (p_ "_law_found" 964), (p_ "_law_again" 965), (p_ "_law_k" 966), (p_ "_law_sixteen" 967), (p_ "_law_rest" 968)]) 0) #[])
def o647 := t0 "_law_spread" 64 "law_oddbases_k66_whole_falling_sums" 882 571
def o646 := t5 "_law_spread" 946 "_law_spread" 947 948 349 4 566 567 568 569 570 954 955
def o645 := t2 "_law_spread" 64
def o643 := t7 "_law_way" 949 "_law_one" 950 "_law_other" 951 "_law_third" 952 "_law_left" 953
def o638 := t0 "_law_back" 63 "law_oddbases_k66_whole_falling_sums" 882 564
def o637 := t5 "_law_back" 933 "_law_back" 934 935 337 4 559 560 561 562 563 943 944
def o636 := t2 "_law_back" 63
def o634 := t8 "_law_way" 936 "_law_most" 937 "_law_one" 938 "_law_other" 939 "_law_found" 940 "_law_high" 941 "_law_low" 942
def o631 := t0 "_law_number" 62 "law_oddbases_k66_whole_falling_sums" 882 557
def o630 := t5 "_law_number" 920 "_law_number" 921 922 327 2 552 553 554 555 556 930 931
def o629 := t2 "_law_number" 62
def o627 := t8 "_law_most" 923 "_law_row" 924 "_law_lower" 925 "_law_here" 926 "_law_total" 927 "_law_thing" 928 "_law_ahead" 929
def o624 := t0 "_law_legal" 61 "law_oddbases_k66_whole_falling_sums" 882 550
def o623 := t5 "_law_legal" 911 "_law_legal" 912 913 318 2 545 546 547 548 549 917 918
def o622 := t2 "_law_legal" 61
def o620 := t9 "_law_most" 914 "_law_row" 915 "_law_place" 916
def o617 := t0 "_law_figures" 60 "law_oddbases_k66_whole_falling_sums" 882 543
def o616 := t5 "_law_figures" 899 "_law_figures" 900 901 307 2 538 539 540 541 542 908 909
def o615 := t2 "_law_figures" 60
def o613 := t6 "_law_most" 902 "_law_cells" 903 "_law_row" 904 "_law_cell" 905 "_law_mixed_here" 906 "_law_place" 907
def o610 := t0 "_law_mixed" 59 "law_oddbases_k66_whole_falling_sums" 882 536
def o609 := t5 "_law_mixed" 892 "_law_mixed" 893 894 305 1 531 532 533 534 535 896 897
def o608 := t2 "_law_mixed" 59
def o606 := t10 "_law_cell" 895
def o603 := t0 "_law_cell_at" 58 "law_oddbases_k66_whole_falling_sums" 882 529
def o602 := t5 "_law_cell_at" 884 "_law_cell_at" 885 886 301 2 524 525 526 527 528 889 890
def o601 := t2 "_law_cell_at" 58
def o599 := t11 "_law_script" 887 "_law_k" 888
def o596 := t0 "shared" 56 "oddbases.shares" 834 522
def o595 := t5 "shared" 872 "shared" 873 874 292 3 517 518 519 520 521 879 880
def o594 := t2 "shared" 56
def o592 := t12 "way" 875 "row" 876 "many" 877 "parts" 878
def o589 := t0 "quotients_and_rest" 55 "oddbases.shares" 834 515
def o588 := t5 "quotients_and_rest" 863 "quotients_and_rest" 864 865 288 3 510 511 512 513 514 869 870
def o587 := t2 "quotients_and_rest" 55
def o585 := t9 "way" 866 "row" 867 "many" 868
def o582 := t0 "quotients_in_falling" 54 "oddbases.shares" 834 508
def o581 := t5 "quotients_in_falling" 849 "quotients_in_falling" 850 851 275 3 503 504 505 506 507 860 861
def o580 := t2 "quotients_in_falling" 54
def o578 (x : Params) : Obj := (@Obj.mk (.type "tuple") none (@Data.seq (List.toArray [(p_ "way" 852), (p_ "row" 853), (p_ "many" 854), (p_ "quotients" 855), (p_ "rest" 856), (p_ "ahead" 857), (p_ "place" 858), (p_ "total" 859)]) 0) #[])
def o575 := t0 "quotients_by_ratio" 53 "oddbases.shares" 834 501
def o574 := t5 "quotients_by_ratio" 836 "quotients_by_ratio" 837 838 266 3 496 497 498 499 500 846 847
def o573 := t2 "quotients_by_ratio" 53
def o571 := t8 "way" 839 "row" 840 "many" 841 "quotients" 842 "rest" 843 "place" 844 "total" 845
def o568 := t0 "times" 51 "oddbases.sums" 739 494
def o567 := t5 "times" 825 "times" 826 827 260 3 489 490 491 492 493 831 832
def o566 := t2 "times" 51
def o564 := t9 "way" 828 "one" 829 "other" 830
def o559 := t0 "minus" 50 "oddbases.sums" 739 487
def o558 := t5 "minus" 815 "minus" 816 817 254 3 482 483 484 485 486 822 823
def o557 := t2 "minus" 50
def o555 := t12 "way" 818 "one" 819 "other" 820 "difference" 821
def o552 := t0 "plus" 49 "oddbases.sums" 739 480
def o551 := t5 "plus" 806 "plus" 807 808 251 3 475 476 477 478 479 812 813
def o550 := t2 "plus" 49
def o548 := t9 "way" 809 "one" 810 "other" 811
def o545 := t0 "times_in_falling" 48 "oddbases.sums" 739 473
def o544 := t5 "times_in_falling" 793 "times_in_falling" 794 795 243 3 468 469 470 471 472 803 804
def o543 := t2 "times_in_falling" 48
def o541 := t8 "way" 796 "one" 797 "other" 798 "product" 799 "ahead" 800 "place" 801 "above" 802
def o538 := t0 "times_by_ratio" 47 "oddbases.sums" 739 466
def o537 := t5 "times_by_ratio" 781 "times_by_ratio" 782 783 237 3 461 462 463 464 465 790 791
def o536 := t2 "times_by_ratio" 47
def o534 := t6 "way" 784 "one" 785 "other" 786 "product" 787 "place" 788 "above" 789
def o531 := t0 "without_debts" 46 "oddbases.sums" 739 459
def o530 := t5 "without_debts" 771 "without_debts" 772 773 231 2 454 455 456 457 458 778 779
def o529 := t2 "without_debts" 46
def o527 := t12 "way" 774 "row" 775 "things" 776 "place" 777
def o524 := t0 "lend" 45 "oddbases.sums" 739 452
def o523 := t5 "lend" 762 "lend" 763 764 224 3 447 448 449 450 451 768 769
def o522 := t2 "lend" 45
def o520 := t9 "way" 765 "row" 766 "lender" 767
def o517 := t0 "lender_above" 44 "oddbases.sums" 739 445
def o516 := t5 "lender_above" 753 "lender_above" 754 755 219 2 440 441 442 443 444 759 760
def o515 := t2 "lender_above" 44
def o513 := t9 "row" 756 "place" 757 "lender" 758
def o510 := t0 "row_times" 43 "oddbases.sums" 739 438
def o509 := t1 "row_times" 747 748 749 217 2 435 436 437 750 751
def o508 := t2 "row_times" 43
def o505 := t0 "row_plus" 42 "oddbases.sums" 739 433
def o504 := t1 "row_plus" 741 742 743 214 2 430 431 432 744 745
def o503 := t2 "row_plus" 42
def o500 := t0 "written_row" 40 "oddbases.writings" 693 428
def o499 := t5 "written_row" 731 "written_row" 732 733 209 2 423 424 425 426 427 736 737
def o498 := t2 "written_row" 40
def o496 := t11 "way" 734 "row" 735
def o493 := t0 "held_to_be_writings" 39 "oddbases.writings" 693 421
def o492 := t5 "held_to_be_writings" 722 "held_to_be_writings" 723 724 205 2 416 417 418 419 420 728 729
def o491 := t2 "held_to_be_writings" 39
def o489 := t9 "way" 725 "rows" 726 "row" 727
def o486 := t0 "is_writing" 38 "oddbases.writings" 693 414
def o485 := t5 "is_writing" 714 "is_writing" 715 716 199 2 409 410 411 412 413 719 720
def o484 := t2 "is_writing" 38
def o482 := t11 "way" 717 "row" 718
def o477 := t0 "has_mosts_above_noughts_alone" 37 "oddbases.writings" 693 407
def o476 := t5 "has_mosts_above_noughts_alone" 705 "has_mosts_above_noughts_alone" 706 707 194 2 402 403 404 405 406 711 712
def o475 := t2 "has_mosts_above_noughts_alone" 37
def o473 := t9 "way" 708 "row" 709 "place" 710
def o470 := t0 "has_figures_alone" 36 "oddbases.writings" 693 400
def o469 := t5 "has_figures_alone" 695 "has_figures_alone" 696 697 189 2 395 396 397 398 399 702 703
def o468 := t2 "has_figures_alone" 36
def o466 := t12 "way" 698 "row" 699 "place" 700 "thing" 701
def o463 := t0 "settled" 34 "oddbases.settling" 670 393
def o462 := t5 "settled" 685 "settled" 686 687 186 2 388 389 390 391 392 690 691
def o461 := t2 "settled" 34
def o459 := t11 "way" 688 "totals" 689
def o456 := t0 "figures_and_carries" 33 "oddbases.settling" 670 386
def o455 := t5 "figures_and_carries" 672 "figures_and_carries" 673 674 171 2 381 382 383 384 385 682 683
def o454 := t2 "figures_and_carries" 33
def o452 := t8 "way" 675 "totals" 676 "figures" 677 "carry" 678 "found" 679 "place" 680 "parts" 681
def o449 := t0 "fallen" 31 "oddbases.falls" 596 379
def o448 := t5 "fallen" 662 "fallen" 663 664 168 2 374 375 376 377 378 667 668
def o447 := t2 "fallen" 31
def o445 := t11 "way" 665 "heap" 666
def o442 := t0 "steps_and_writing" 30 "oddbases.falls" 596 372
def o441 := t5 "steps_and_writing" 649 "steps_and_writing" 650 651 153 2 367 368 369 370 371 659 660
def o440 := t2 "steps_and_writing" 30
def o438 := t8 "way" 652 "heap" 653 "done" 654 "left" 655 "place" 656 "step" 657 "many" 658
def o435 := t0 "how_often" 29 "oddbases.falls" 596 365
def o434 := t5 "how_often" 639 "how_often" 640 641 148 3 360 361 362 363 364 646 647
def o433 := t2 "how_often" 29
def o431 := t12 "way" 642 "heap" 643 "step" 644 "place" 645
def o428 := t0 "step_at" 28 "oddbases.falls" 596 358
def o427 := t5 "step_at" 630 "step_at" 631 632 142 3 353 354 355 356 357 636 637
def o426 := t2 "step_at" 28
def o424 := t9 "way" 633 "heap" 634 "place" 635
def o421 := t0 "do_steps" 27 "oddbases.falls" 596 351
def o420 := t5 "do_steps" 618 "do_steps" 619 620 137 4 346 347 348 349 350 627 628
def o419 := t2 "do_steps" 27
def o417 := t6 "way" 621 "heap" 622 "step" 623 "many" 624 "place" 625 "things" 626
def o414 := t0 "changes" 26 "oddbases.falls" 596 344
def o413 := t5 "changes" 607 "changes" 608 609 125 2 339 340 341 342 343 615 616
def o412 := t2 "changes" 26
def o410 := t7 "way" 610 "step" 611 "kind" 612 "place" 613 "parted" 614
def o407 := t0 "held_to_be_a_heap" 25 "oddbases.falls" 596 337
def o406 := t5 "held_to_be_a_heap" 598 "held_to_be_a_heap" 599 600 119 2 332 333 334 335 336 604 605
def o405 := t2 "held_to_be_a_heap" 25
def o403 := t9 "way" 601 "heap" 602 "things" 603
def o398 := t13 329
def o397 := t14 329
def o396 := t15 "Pairs" 329 328 278 527 535
def o395 (x : Params) : Obj := (@Obj.mk (.type "dict") none (@Data.dict (List.toArray [(e_ x "__module__" 534 (p_ "oddbases.ways" 387)), (e_ x "__firstlineno__" 538 (j_ 95 537)), (e_ x "__init__" 546 (r_ 291)), (e_ x "nought" 553 (r_ 298)), (e_ x "high" 561 (r_ 305)), (e_ x "ratio" 569 (r_ 312)), (e_ x "split" 582 (r_ 319)), (e_ x "has" 590 (r_ 326)), (e_ x "__static_attributes__" 592 (r_ 327)), (e_ x "__doc__" 593 .none)]) 2) #[])
def o394 := t10 "most" 591
def o393 := t16 "has" "Pairs.has" 23 5 325
def o392 := t5 "has" 583 "Pairs.has" 584 585 116 2 320 321 322 323 324 588 589
def o391 := t17 "has" "Pairs.has" 23 5
def o389 := t11 "self" 586 "number" 587
def o386 := t16 "split" "Pairs.split" 23 4 318
def o385 := t5 "split" 570 "Pairs.split" 571 572 109 3 313 314 315 316 317 580 581
def o384 := t17 "split" "Pairs.split" 23 4
def o382 := t8 "self" 573 "total" 574 "place" 575 "pair" 576 "figures" 577 "figure" 578 "turned" 579
def o379 := t16 "ratio" "Pairs.ratio" 23 3 311
def o378 := t5 "ratio" 562 "Pairs.ratio" 563 564 106 2 306 307 308 309 310 567 568
def o377 := t17 "ratio" "Pairs.ratio" 23 3
def o375 := t11 "self" 565 "place" 566
def o372 := t16 "high" "Pairs.high" 23 2 304
def o371 := t5 "high" 554 "Pairs.high" 555 556 103 2 299 300 301 302 303 559 560
def o370 := t17 "high" "Pairs.high" 23 2
def o368 := t11 "self" 557 "place" 558
def o365 := t16 "nought" "Pairs.nought" 23 1 297
def o364 := t5 "nought" 547 "Pairs.nought" 548 549 100 1 292 293 294 295 296 551 552
def o363 := t17 "nought" "Pairs.nought" 23 1
def o361 := t10 "self" 550
def o358 := t16 "__init__" "Pairs.__init__" 23 0 290
def o357 := t5 "__init__" 539 "Pairs.__init__" 540 541 97 2 285 286 287 288 289 544 545
def o356 := t17 "__init__" "Pairs.__init__" 23 0
def o354 := t11 "self" 542 "most" 543
def o351 := t18 283 280 "oddbases.ways" 387
def o350 := t19 "Pairs" 529 530 531 95 281 282 532 533
def o349 := t20 97 290 100 297 103 304 106 311 109 318 116 325
def o347 := t21 534 536 "Pairs" 535 538 95 537 "__init__" 546 291 "nought" 553 298 "high" 561 305 "ratio" 569 312 582 319 590 326 592 327
def o346 := t22
def o345 := t23 226
def o341 := t13 275
def o340 := t14 275
def o339 := t15 "Falling" 275 274 231 469 477
def o338 (x : Params) : Obj := (@Obj.mk (.type "dict") none (@Data.dict (List.toArray [(e_ x "__module__" 476 (p_ "oddbases.ways" 387)), (e_ x "__firstlineno__" 480 (j_ 79 479)), (e_ x "__init__" 488 (r_ 244)), (e_ x "high" 496 (r_ 251)), (e_ x "weights" 504 (r_ 258)), (e_ x "ratio" 512 (r_ 265)), (e_ x "split" 521 (r_ 272)), (e_ x "__static_attributes__" 523 (r_ 273)), (e_ x "__doc__" 524 .none)]) 2) #[])
def o337 := t10 "most" 522
def o336 := t16 "split" "Falling.split" 22 4 271
def o335 := t5 "split" 513 "Falling.split" 514 515 93 3 266 267 268 269 270 519 520
def o334 := t17 "split" "Falling.split" 22 4
def o332 := t9 "self" 516 "total" 517 "place" 518
def o329 := t16 "ratio" "Falling.ratio" 22 3 264
def o328 := t5 "ratio" 505 "Falling.ratio" 506 507 90 2 259 260 261 262 263 510 511
def o327 := t17 "ratio" "Falling.ratio" 22 3
def o325 := t11 "self" 508 "place" 509
def o322 := t16 "weights" "Falling.weights" 22 2 257
def o321 := t5 "weights" 497 "Falling.weights" 498 499 87 2 252 253 254 255 256 502 503
def o320 := t17 "weights" "Falling.weights" 22 2
def o318 := t11 "self" 500 "many" 501
def o315 := t16 "high" "Falling.high" 22 1 250
def o314 := t5 "high" 489 "Falling.high" 490 491 84 2 245 246 247 248 249 494 495
def o313 := t17 "high" "Falling.high" 22 1
def o311 := t11 "self" 492 "place" 493
def o308 := t16 "__init__" "Falling.__init__" 22 0 243
def o307 := t5 "__init__" 481 "Falling.__init__" 482 483 81 2 238 239 240 241 242 486 487
def o306 := t17 "__init__" "Falling.__init__" 22 0
def o304 := t11 "self" 484 "most" 485
def o301 := t18 236 233 "oddbases.ways" 387
def o300 := t19 "Falling" 471 472 473 79 234 235 474 475
def o299 (x : Params) : Obj := (@Obj.mk .none none (@Data.fields (List.toArray [(j_ 81 0), (j_ 4 0), (r_ 243), (j_ 84 0), (j_ 4 0), (r_ 250), (j_ 87 0), (j_ 4 0), (r_ 257), (j_ 90 0), (j_ 4 0), (r_ 264), (j_ 93 0), (j_ 4 0), (r_ 271)])) #[])
def o297 (x : Params) : Obj := (@Obj.mk (.type "dict") none (@Data.dict (List.toArray [(e_ x "__module__" 476 (p_ "oddbases.ways" 387)), (e_ x "__qualname__" 478 (p_ "Falling" 477)), (e_ x "__firstlineno__" 480 (j_ 79 479)), (e_ x "__init__" 488 (r_ 244)), (e_ x "high" 496 (r_ 251)), (e_ x "weights" 504 (r_ 258)), (e_ x "ratio" 512 (r_ 265)), (e_ x "split" 521 (r_ 272)), (e_ x "__static_attributes__" 523 (r_ 273))]) 9) #[])
def o291 := t13 226
def o290 := t14 226
def o289 := t24 464 226
def o288 (x : Params) : Obj := (@Obj.mk (.type "getset_descriptor") none (@Data.fields (List.toArray [(p_ "__dict__" 462), (r_ 226), (.builtin "function.__dict__"), (.builtin "function.__dict__#set")])) #[])
def o344 (x : Params) : Obj := (@Obj.mk (.type "type") none (@Data.cls (@ClassData.mk (.ofString "Way") [(.type "object")] [(r_ 226), (.type "object")] 225 (.ofString "Way") @Bool.true [] [(r_ 275), (r_ 329)] @Bool.false (@Option.none @Bool) @Bool.false)) (@List.toArray (@Option @Value) [none, none, (some (p_ "Way" 398)), (some (p_ "Way" 406)), (some (.builtin "object.__new__")), (some (.bool @Bool.true))]))
def o286 (x : Params) : Obj := (@Obj.mk (.type "dict") none (@Data.dict (List.toArray [(e_ x "__module__" 405 (p_ "oddbases.ways" 387)), (e_ x "__firstlineno__" 409 (j_ 57 408)), (e_ x "nought" 416 (r_ 188)), (e_ x "low" 424 (r_ 195)), (e_ x "weights" 432 (r_ 202)), (e_ x "weight" 440 (r_ 209)), (e_ x "split" 452 (r_ 216)), (e_ x "has" 460 (r_ 223)), (e_ x "__static_attributes__" 461 (r_ 224)), (e_ x "__dict__" 463 (r_ 227)), (e_ x "__weakref__" 465 (r_ 228)), (e_ x "__doc__" 466 .none)]) 4) #[])
def o284 := t16 "has" "Way.has" 21 5 222
def o283 := t5 "has" 453 "Way.has" 454 455 77 2 217 218 219 220 221 458 459
def o282 := t17 "has" "Way.has" 21 5
def o280 := t11 "self" 456 "number" 457
def o277 := t16 "split" "Way.split" 21 4 215
def o276 := t5 "split" 441 "Way.split" 442 443 71 3 210 211 212 213 214 450 451
def o275 := t17 "split" "Way.split" 21 4
def o273 := t6 "self" 444 "total" 445 "place" 446 "low" 447 "figures" 448 "figure" 449
def o270 := t16 "weight" "Way.weight" 21 3 208
def o269 := t5 "weight" 433 "Way.weight" 434 435 68 2 203 204 205 206 207 438 439
def o268 := t17 "weight" "Way.weight" 21 3
def o266 := t11 "self" 436 "place" 437
def o263 := t16 "weights" "Way.weights" 21 2 201
def o262 := t5 "weights" 425 "Way.weights" 426 427 65 2 196 197 198 199 200 430 431
def o261 := t17 "weights" "Way.weights" 21 2
def o259 := t11 "self" 428 "many" 429
def o256 := t16 "low" "Way.low" 21 1 194
def o255 := t5 "low" 417 "Way.low" 418 419 62 2 189 190 191 192 193 422 423
def o254 := t17 "low" "Way.low" 21 1
def o252 := t11 "self" 420 "place" 421
def o249 := t16 "nought" "Way.nought" 21 0 187
def o248 := t5 "nought" 410 "Way.nought" 411 412 59 1 182 183 184 185 186 414 415
def o247 := t17 "nought" "Way.nought" 21 0
def o245 := t10 "self" 413
def o242 := t18 180 177 "oddbases.ways" 387
def o241 := t19 "Way" 400 401 402 57 178 179 403 404
def o240 := t20 59 187 62 194 65 201 68 208 71 215 77 222
def o238 := t21 405 407 "Way" 406 409 57 408 "nought" 416 188 "low" 424 195 "weights" 432 202 "weight" 440 209 452 216 460 223 461 224
def o233 := t0 "bounded" 20 "oddbases.ways" 387 173
def o232 := t5 "bounded" 389 "bounded" 390 391 53 3 168 169 170 171 172 395 396
def o231 := t2 "bounded" 20
def o229 := t9 "number" 392 "least" 393 "most" 394
def o226 := t0 "trimmed" 18 "oddbases.rows" 369 166
def o225 := t5 "trimmed" 379 "trimmed" 380 381 47 1 161 162 163 164 165 384 385
def o224 := t2 "trimmed" 18
def o222 := t11 "row" 382 "things" 383
def o219 := t0 "thing_at" 17 "oddbases.rows" 369 159
def o218 := t5 "thing_at" 371 "thing_at" 372 373 43 2 154 155 156 157 158 376 377
def o217 := t2 "thing_at" 17
def o215 := t11 "row" 374 "place" 375
def o210 := t0 "multiplied" 15 "oddbases.pairs" 326 152
def o209 := t5 "multiplied" 359 "multiplied" 360 361 36 2 147 148 149 150 151 366 367
def o208 := t2 "multiplied" 15
def o206 := t12 "one" 362 "other" 363 "left" 364 "right" 365
def o203 := t0 "added" 14 "oddbases.pairs" 326 145
def o202 := t5 "added" 349 "added" 350 351 30 2 140 141 142 143 144 356 357
def o201 := t2 "added" 14
def o199 := t12 "one" 352 "other" 353 "left" 354 "right" 355
def o196 := t0 "as_pair" 13 "oddbases.pairs" 326 138
def o195 := t5 "as_pair" 342 "as_pair" 343 344 26 1 133 134 135 136 137 346 347
def o194 := t2 "as_pair" 13
def o192 := t10 "number" 345
def o189 := t0 "is_pair" 12 "oddbases.pairs" 326 131
def o188 := t5 "is_pair" 335 "is_pair" 336 337 24 1 126 127 128 129 130 339 340
def o187 := t2 "is_pair" 12
def o185 := t10 "value" 338
def o182 := t0 "is_whole" 11 "oddbases.pairs" 326 124
def o181 := t5 "is_whole" 328 "is_whole" 329 330 22 1 119 120 121 122 123 332 333
def o180 := t2 "is_whole" 11
def o178 := t10 "value" 331
def o175 := t13 116
def o174 := t14 116
def o173 := t25 "Nought" 116 115 107 310 318
def o172 := t26 317 321 19 320 322 114 323
def o170 := t18 112 109 "oddbases.errors" 194
def o169 := t19 "Nought" 312 313 314 19 110 111 315 316
def o166 := t27 317 319 "Nought" 318 321 19 320 322 114
def o164 := t23 31
def o160 := t13 104
def o159 := t14 104
def o158 := t25 "NoPairs" 104 103 95 294 302
def o157 := t26 301 305 17 304 306 102 307
def o155 := t18 100 97 "oddbases.errors" 194
def o154 := t19 "NoPairs" 296 297 298 17 98 99 299 300
def o151 := t27 301 303 "NoPairs" 302 305 17 304 306 102
def o145 := t13 92
def o144 := t14 92
def o143 := t25 "NoFalling" 92 91 83 278 286
def o142 := t26 285 289 15 288 290 90 291
def o140 := t18 88 85 "oddbases.errors" 194
def o139 := t19 "NoFalling" 280 281 282 15 86 87 283 284
def o136 := t27 285 287 "NoFalling" 286 289 15 288 290 90
def o130 := t13 80
def o129 := t14 80
def o128 := t25 "NoRatio" 80 79 71 262 270
def o127 := t26 269 273 13 272 274 78 275
def o125 := t18 76 73 "oddbases.errors" 194
def o124 := t19 "NoRatio" 264 265 266 13 74 75 267 268
def o121 := t27 269 271 "NoRatio" 270 273 13 272 274 78
def o115 := t13 68
def o114 := t14 68
def o113 := t25 "TooLess" 68 67 59 246 254
def o112 := t26 253 257 11 256 258 66 259
def o110 := t18 64 61 "oddbases.errors" 194
def o109 := t19 "TooLess" 248 249 250 11 62 63 251 252
def o106 := t27 253 255 "TooLess" 254 257 11 256 258 66
def o100 := t13 56
def o99 := t14 56
def o98 := t25 "NoWriting" 56 55 47 230 238
def o97 := t26 237 241 9 240 242 54 243
def o95 := t18 52 49 "oddbases.errors" 194
def o94 := t19 "NoWriting" 232 233 234 9 50 51 235 236
def o91 := t27 237 239 "NoWriting" 238 241 9 240 242 54
def o85 := t13 44
def o84 := t14 44
def o83 := t25 "NoWay" 44 43 35 214 222
def o82 := t26 221 225 7 224 226 42 227
def o80 := t18 40 37 "oddbases.errors" 194
def o79 := t19 "NoWay" 216 217 218 7 38 39 219 220
def o76 := t27 221 223 "NoWay" 222 225 7 224 226 42
def o70 := t13 31
def o69 := t14 31
def o68 := t24 209 31
def o163 (x : Params) : Obj := (@Obj.mk (.type "type") none (@Data.cls (@ClassData.mk (.ofString "OddError") [(.type "ValueError")] [(r_ 31), (.type "ValueError"), (.type "Exception"), (.type "BaseException"), (.type "object")] 30 (.ofString "OddError") @Bool.true [] [(r_ 44), (r_ 56), (r_ 68), (r_ 80), (r_ 92), (r_ 104), (r_ 116)] @Bool.false (@Option.none @Bool) @Bool.false)) (@List.toArray (@Option @Value) [(some (r_ 22)), none, (some (p_ "OddError" 196)), (some (p_ "OddError" 204)), (some (.builtin "ValueError.__new__")), (some (.bool @Bool.true))]))
def o66 (x : Params) : Obj := (@Obj.mk (.type "dict") none (@Data.dict (List.toArray [(e_ x "__module__" 203 (p_ "oddbases.errors" 194)), (e_ x "__firstlineno__" 207 (j_ 5 206)), (e_ x "__static_attributes__" 208 (r_ 29)), (e_ x "__weakref__" 210 (r_ 32)), (e_ x "__doc__" 211 .none)]) 3) #[])
def o64 := t18 27 24 "oddbases.errors" 194
def o63 := t19 "OddError" 198 199 200 5 25 26 201 202
def o60 := t27 203 205 "OddError" 204 207 5 206 208 29
def o58 (x : Params) : Obj := (@Obj.mk (.type "tuple") none (@Data.seq (List.toArray [(.type "ValueError")]) 0) #[])
def o57 := t0 "_wall" 0 "__main__" 164 20
def o56 := t5 "_wall" 187 "_wall" 188 189 1 1 15 16 17 18 19 191 192
def o55 := t2 "_wall" 0
def o53 := t10 "k" 190
def o46 := t18 13 3 "__main__" 164
def o45 := t19 "<module>" 182 183 184 1 11 12 185 186
def o640 (x : Params) : Obj := (@Obj.mk .none none (@Data.fields (List.toArray ((j_ 1 0) :: (j_ 0 0) :: (r_ 20) :: (j_ 5 0) :: (j_ 0 0) :: (r_ 27) :: (j_ 7 0) :: (j_ 0 0) :: (r_ 40) :: (j_ 9 0) :: (j_ 0 0) :: (r_ 52) :: (j_ 11 0) :: (j_ 0 0) :: (r_ 64) :: (j_ 13 0) :: (j_ 0 0) :: (r_ 76) :: (j_ 15 0) :: (j_ 0 0) :: (r_ 88) :: (j_ 17 0) :: (j_ 0 0) :: (r_ 100) :: (j_ 19 0) :: (j_ 0 0) :: (r_ 112) :: (j_ 22 0) :: (j_ 0 0) :: (r_ 124) :: (j_ 24 0) :: (j_ 0 0) :: (r_ 131) :: (j_ 26 0) :: (j_ 0 0) :: (r_ 138) :: (j_ 30 0) :: (j_ 0 0) :: (r_ 145) :: (j_ 36 0) :: (j_ 0 0) :: (r_ 152) :: (j_ 43 0) :: (j_ 0 0) :: (r_ 159) :: (j_ 47 0) :: (j_ 0 0) :: (r_ 166) :: (j_ 53 0) :: (j_ 0 0) :: (r_ 173) :: (j_ 57 0) :: (j_ 0 0) :: (r_ 180) :: (j_ 79 0) :: (j_ 0 0) :: (r_ 236) :: (j_ 95 0) :: (j_ 0 0) :: (r_ 283) :: (j_ 119 0) :: (j_ 0 0) :: (r_ 337) :: (j_ 125 0) :: (j_ 0 0) :: (r_ 344) :: (j_ 137 0) :: (j_ 0 0) :: (r_ 351) :: (j_ 142 0) :: (j_ 0 0) :: (r_ 358) :: (j_ 148 0) :: (j_ 0 0) :: (r_ 365) :: (j_ 153 0) :: (j_ 0 0) :: (r_ 372) :: (j_ 168 0) :: (j_ 0 0) :: (r_ 379) :: (j_ 171 0) :: (j_ 0 0) :: (r_ 386) :: (j_ 186 0) :: (j_ 0 0) :: (r_ 393) :: (j_ 189 0) :: (j_ 0 0) :: (r_ 400) :: (j_ 194 0) :: (j_ 0 0) :: (r_ 407) :: (j_ 199 0) :: (j_ 0 0) :: (r_ 414) :: (j_ 205 0) :: (j_ 0 0) :: (r_ 421) :: (j_ 209 0) :: (j_ 0 0) :: (r_ 428) :: (j_ 214 0) :: (j_ 0 0) :: (r_ 433) :: (j_ 217 0) :: (j_ 0 0) :: (r_ 438) :: (j_ 219 0) :: (j_ 0 0) :: (r_ 445) :: (j_ 224 0) :: (j_ 0 0) :: (r_ 452) :: (j_ 231 0) :: (j_ 0 0) :: (r_ 459) :: (j_ 237 0) :: (j_ 0 0) :: (r_ 466) :: (j_ 243 0) :: (j_ 0 0) :: (r_ 473) :: (j_ 251 0) :: (j_ 0 0) :: (r_ 480) :: (j_ 254 0) :: (j_ 0 0) :: (r_ 487) :: (j_ 260 0) :: (j_ 0 0) :: (r_ 494) :: (j_ 266 0) :: (j_ 0 0) :: (r_ 501) :: (j_ 275 0) :: (j_ 0 0) :: (r_ 508) :: (j_ 288 0) :: (j_ 0 0) :: (r_ 515) :: (j_ 292 0) :: (j_ 0 0) :: (r_ 522) :: (j_ 301 0) :: (j_ 0 0) :: (r_ 529) :: (j_ 305 0) :: (j_ 0 0) :: (r_ 536) :: (j_ 307 0) :: (j_ 0 0) :: (r_ 543) :: (j_ 318 0) :: (j_ 0 0) :: (r_ 550) :: (j_ 327 0) :: (j_ 0 0) :: (r_ 557) :: (j_ 337 0) :: (j_ 0 0) :: (r_ 564) :: (j_ 349 0) :: (j_ 0 0) :: (r_ 571) :: (j_ 352 0) :: (j_ 0 0) :: (r_ 578) :: (j_ 366 0) :: (j_ 0 0) :: (r_ 585) :: (j_ 370 0) :: (j_ 0 0) :: (r_ 590) :: []))) #[])
def o639 (x : Params) : Obj := (@Obj.mk (.type "dict") none (@Data.dict (List.toArray ((e_ x "__name__" 165 (p_ "law_oddbases_k66_whole_falling_sums" 882)) :: (e_ x "__doc__" 166 .none) :: (e_ x "__package__" 167 .none) :: (U0 x) :: (e_ x "__spec__" 169 .none) :: (U2 x) :: (e_ x "__builtins__" 171 (r_ 4)) :: (U1 x) :: (e_ x "__cached__" 174 .none) :: (e_ x "_wall" 193 (r_ 21)) :: (e_ x "OddError" 213 (r_ 31)) :: (e_ x "NoWay" 229 (r_ 44)) :: (e_ x "NoWriting" 245 (r_ 56)) :: (e_ x "TooLess" 261 (r_ 68)) :: (e_ x "NoRatio" 277 (r_ 80)) :: (e_ x "NoFalling" 293 (r_ 92)) :: (e_ x "NoPairs" 309 (r_ 104)) :: (e_ x "Nought" 325 (r_ 116)) :: (e_ x "is_whole" 334 (r_ 125)) :: (e_ x "is_pair" 341 (r_ 132)) :: (e_ x "as_pair" 348 (r_ 139)) :: (e_ x "added" 358 (r_ 146)) :: (e_ x "multiplied" 368 (r_ 153)) :: (e_ x "thing_at" 378 (r_ 160)) :: (e_ x "trimmed" 386 (r_ 167)) :: (e_ x "bounded" 397 (r_ 174)) :: (e_ x "Way" 468 (r_ 226)) :: (e_ x "Falling" 526 (r_ 275)) :: (e_ x "Pairs" 595 (r_ 329)) :: (e_ x "held_to_be_a_heap" 606 (r_ 338)) :: (e_ x "changes" 617 (r_ 345)) :: (e_ x "do_steps" 629 (r_ 352)) :: (e_ x "step_at" 638 (r_ 359)) :: (e_ x "how_often" 648 (r_ 366)) :: (e_ x "steps_and_writing" 661 (r_ 373)) :: (e_ x "fallen" 669 (r_ 380)) :: (e_ x "figures_and_carries" 684 (r_ 387)) :: (e_ x "settled" 692 (r_ 394)) :: (e_ x "has_figures_alone" 704 (r_ 401)) :: (e_ x "has_mosts_above_noughts_alone" 713 (r_ 408)) :: (e_ x "is_writing" 721 (r_ 415)) :: (e_ x "held_to_be_writings" 730 (r_ 422)) :: (e_ x "written_row" 738 (r_ 429)) :: (e_ x "row_plus" 746 (r_ 434)) :: (e_ x "row_times" 752 (r_ 439)) :: (e_ x "lender_above" 761 (r_ 446)) :: (e_ x "lend" 770 (r_ 453)) :: (e_ x "without_debts" 780 (r_ 460)) :: (e_ x "times_by_ratio" 792 (r_ 467)) :: (e_ x "times_in_falling" 805 (r_ 474)) :: (e_ x "plus" 814 (r_ 481)) :: (e_ x "minus" 824 (r_ 488)) :: (e_ x "times" 833 (r_ 495)) :: (e_ x "quotients_by_ratio" 848 (r_ 502)) :: (e_ x "quotients_in_falling" 862 (r_ 509)) :: (e_ x "quotients_and_rest" 871 (r_ 516)) :: (e_ x "shared" 881 (r_ 523)) :: (e_ x "_law_cell_at" 891 (r_ 530)) :: (e_ x "_law_mixed" 898 (r_ 537)) :: (e_ x "_law_figures" 910 (r_ 544)) :: (e_ x "_law_legal" 919 (r_ 551)) :: (e_ x "_law_number" 932 (r_ 558)) :: (e_ x "_law_back" 945 (r_ 565)) :: (e_ x "_law_spread" 956 (r_ 572)) :: (e_ x "_law_shared" 971 (r_ 579)) :: (e_ x "_law_placed" 983 (r_ 586)) :: (e_ x "law" 989 (r_ 591)) :: [])) 67) #[])
def o479 (x : Params) : Obj := (@Obj.mk .none none (@Data.fields (List.toArray ((j_ 1 0) :: (j_ 0 0) :: (r_ 20) :: (j_ 5 0) :: (j_ 0 0) :: (r_ 27) :: (j_ 7 0) :: (j_ 0 0) :: (r_ 40) :: (j_ 9 0) :: (j_ 0 0) :: (r_ 52) :: (j_ 11 0) :: (j_ 0 0) :: (r_ 64) :: (j_ 13 0) :: (j_ 0 0) :: (r_ 76) :: (j_ 15 0) :: (j_ 0 0) :: (r_ 88) :: (j_ 17 0) :: (j_ 0 0) :: (r_ 100) :: (j_ 19 0) :: (j_ 0 0) :: (r_ 112) :: (j_ 22 0) :: (j_ 0 0) :: (r_ 124) :: (j_ 24 0) :: (j_ 0 0) :: (r_ 131) :: (j_ 26 0) :: (j_ 0 0) :: (r_ 138) :: (j_ 30 0) :: (j_ 0 0) :: (r_ 145) :: (j_ 36 0) :: (j_ 0 0) :: (r_ 152) :: (j_ 43 0) :: (j_ 0 0) :: (r_ 159) :: (j_ 47 0) :: (j_ 0 0) :: (r_ 166) :: (j_ 53 0) :: (j_ 0 0) :: (r_ 173) :: (j_ 57 0) :: (j_ 0 0) :: (r_ 180) :: (j_ 79 0) :: (j_ 0 0) :: (r_ 236) :: (j_ 95 0) :: (j_ 0 0) :: (r_ 283) :: (j_ 119 0) :: (j_ 0 0) :: (r_ 337) :: (j_ 125 0) :: (j_ 0 0) :: (r_ 344) :: (j_ 137 0) :: (j_ 0 0) :: (r_ 351) :: (j_ 142 0) :: (j_ 0 0) :: (r_ 358) :: (j_ 148 0) :: (j_ 0 0) :: (r_ 365) :: (j_ 153 0) :: (j_ 0 0) :: (r_ 372) :: (j_ 168 0) :: (j_ 0 0) :: (r_ 379) :: (j_ 171 0) :: (j_ 0 0) :: (r_ 386) :: (j_ 186 0) :: (j_ 0 0) :: (r_ 393) :: (j_ 189 0) :: (j_ 0 0) :: (r_ 400) :: (j_ 194 0) :: (j_ 0 0) :: (r_ 407) :: (j_ 199 0) :: (j_ 0 0) :: (r_ 414) :: (j_ 205 0) :: (j_ 0 0) :: (r_ 421) :: (j_ 209 0) :: (j_ 0 0) :: (r_ 428) :: (j_ 214 0) :: (j_ 0 0) :: (r_ 433) :: (j_ 217 0) :: (j_ 0 0) :: (r_ 438) :: (j_ 219 0) :: (j_ 0 0) :: (r_ 445) :: (j_ 224 0) :: (j_ 0 0) :: (r_ 452) :: (j_ 231 0) :: (j_ 0 0) :: (r_ 459) :: (j_ 237 0) :: (j_ 0 0) :: (r_ 466) :: (j_ 243 0) :: (j_ 0 0) :: (r_ 473) :: (j_ 251 0) :: (j_ 0 0) :: (r_ 480) :: (j_ 254 0) :: (j_ 0 0) :: (r_ 487) :: []))) #[])
def o478 (x : Params) : Obj := (@Obj.mk (.type "dict") none (@Data.dict (List.toArray [(e_ x "__name__" 165 (p_ "oddbases.sums" 739)), (e_ x "__doc__" 166 .none), (e_ x "__package__" 167 .none), (U0 x), (e_ x "__spec__" 169 .none), (U2 x), (e_ x "__builtins__" 171 (r_ 4)), (U1 x), (e_ x "__cached__" 174 .none), (e_ x "_wall" 193 (r_ 21)), (e_ x "OddError" 213 (r_ 31)), (e_ x "NoWay" 229 (r_ 44)), (e_ x "NoWriting" 245 (r_ 56)), (e_ x "TooLess" 261 (r_ 68)), (e_ x "NoRatio" 277 (r_ 80)), (e_ x "NoFalling" 293 (r_ 92)), (e_ x "NoPairs" 309 (r_ 104)), (e_ x "Nought" 325 (r_ 116)), (e_ x "is_whole" 334 (r_ 125)), (e_ x "is_pair" 341 (r_ 132)), (e_ x "as_pair" 348 (r_ 139)), (e_ x "added" 358 (r_ 146)), (e_ x "multiplied" 368 (r_ 153)), (e_ x "thing_at" 378 (r_ 160)), (e_ x "trimmed" 386 (r_ 167)), (e_ x "bounded" 397 (r_ 174)), (e_ x "Way" 468 (r_ 226)), (e_ x "Falling" 526 (r_ 275)), (e_ x "Pairs" 595 (r_ 329)), (e_ x "held_to_be_a_heap" 606 (r_ 338)), (e_ x "changes" 617 (r_ 345)), (e_ x "do_steps" 629 (r_ 352)), (e_ x "step_at" 638 (r_ 359)), (e_ x "how_often" 648 (r_ 366)), (e_ x "steps_and_writing" 661 (r_ 373)), (e_ x "fallen" 669 (r_ 380)), (e_ x "figures_and_carries" 684 (r_ 387)), (e_ x "settled" 692 (r_ 394)), (e_ x "has_figures_alone" 704 (r_ 401)), (e_ x "has_mosts_above_noughts_alone" 713 (r_ 408)), (e_ x "is_writing" 721 (r_ 415)), (e_ x "held_to_be_writings" 730 (r_ 422)), (e_ x "written_row" 738 (r_ 429)), (e_ x "row_plus" 746 (r_ 434)), (e_ x "row_times" 752 (r_ 439)), (e_ x "lender_above" 761 (r_ 446)), (e_ x "lend" 770 (r_ 453)), (e_ x "without_debts" 780 (r_ 460)), (e_ x "times_by_ratio" 792 (r_ 467)), (e_ x "times_in_falling" 805 (r_ 474)), (e_ x "plus" 814 (r_ 481)), (e_ x "minus" 824 (r_ 488))]) 52) #[])
def o212 (x : Params) : Obj := (@Obj.mk .none none (@Data.fields (List.toArray [(j_ 1 0), (j_ 0 0), (r_ 20), (j_ 5 0), (j_ 0 0), (r_ 27), (j_ 7 0), (j_ 0 0), (r_ 40), (j_ 9 0), (j_ 0 0), (r_ 52), (j_ 11 0), (j_ 0 0), (r_ 64), (j_ 13 0), (j_ 0 0), (r_ 76), (j_ 15 0), (j_ 0 0), (r_ 88), (j_ 17 0), (j_ 0 0), (r_ 100), (j_ 19 0), (j_ 0 0), (r_ 112), (j_ 22 0), (j_ 0 0), (r_ 124), (j_ 24 0), (j_ 0 0), (r_ 131), (j_ 26 0), (j_ 0 0), (r_ 138), (j_ 30 0), (j_ 0 0), (r_ 145), (j_ 36 0), (j_ 0 0), (r_ 152), (j_ 43 0), (j_ 0 0), (r_ 159), (j_ 47 0), (j_ 0 0), (r_ 166), (j_ 53 0), (j_ 0 0), (r_ 173)])) #[])
def o211 (x : Params) : Obj := (@Obj.mk (.type "dict") none (@Data.dict (List.toArray [(e_ x "__name__" 165 (p_ "oddbases.ways" 387)), (e_ x "__doc__" 166 .none), (e_ x "__package__" 167 .none), (U0 x), (e_ x "__spec__" 169 .none), (U2 x), (e_ x "__builtins__" 171 (r_ 4)), (U1 x), (e_ x "__cached__" 174 .none), (e_ x "_wall" 193 (r_ 21)), (e_ x "OddError" 213 (r_ 31)), (e_ x "NoWay" 229 (r_ 44)), (e_ x "NoWriting" 245 (r_ 56)), (e_ x "TooLess" 261 (r_ 68)), (e_ x "NoRatio" 277 (r_ 80)), (e_ x "NoFalling" 293 (r_ 92)), (e_ x "NoPairs" 309 (r_ 104)), (e_ x "Nought" 325 (r_ 116)), (e_ x "is_whole" 334 (r_ 125)), (e_ x "is_pair" 341 (r_ 132)), (e_ x "as_pair" 348 (r_ 139)), (e_ x "added" 358 (r_ 146)), (e_ x "multiplied" 368 (r_ 153)), (e_ x "thing_at" 378 (r_ 160)), (e_ x "trimmed" 386 (r_ 167)), (e_ x "bounded" 397 (r_ 174))]) 26) #[])
abbrev Y2 := N_ o662 (L_ o662) Z_
abbrev Y1 := N_ o662 (L_ o663) Z_
abbrev Y0 := N_ o662 Y2 (L_ o663)
def myAs : List Nat := ((nat_lit 2) :: (nat_lit 3) :: (nat_lit 15) :: (nat_lit 17) :: (nat_lit 18) :: (nat_lit 20) :: (nat_lit 21) :: (nat_lit 22) :: (nat_lit 29) :: (nat_lit 30) :: (nat_lit 31) :: (nat_lit 32) :: (nat_lit 35) :: (nat_lit 42) :: (nat_lit 43) :: (nat_lit 44) :: (nat_lit 47) :: (nat_lit 54) :: (nat_lit 55) :: (nat_lit 56) :: (nat_lit 59) :: (nat_lit 66) :: (nat_lit 67) :: (nat_lit 68) :: (nat_lit 71) :: (nat_lit 78) :: (nat_lit 79) :: (nat_lit 80) :: (nat_lit 83) :: (nat_lit 90) :: (nat_lit 91) :: (nat_lit 92) :: (nat_lit 95) :: (nat_lit 102) :: (nat_lit 103) :: (nat_lit 104) :: (nat_lit 107) :: (nat_lit 114) :: (nat_lit 115) :: (nat_lit 116) :: (nat_lit 119) :: (nat_lit 121) :: (nat_lit 122) :: (nat_lit 124) :: (nat_lit 125) :: (nat_lit 126) :: (nat_lit 128) :: (nat_lit 129) :: (nat_lit 131) :: (nat_lit 132) :: (nat_lit 133) :: (nat_lit 135) :: (nat_lit 136) :: (nat_lit 138) :: (nat_lit 139) :: (nat_lit 140) :: (nat_lit 142) :: (nat_lit 143) :: (nat_lit 145) :: (nat_lit 146) :: (nat_lit 147) :: (nat_lit 149) :: (nat_lit 150) :: (nat_lit 152) :: (nat_lit 153) :: (nat_lit 154) :: (nat_lit 156) :: (nat_lit 157) :: (nat_lit 159) :: (nat_lit 160) :: (nat_lit 161) :: (nat_lit 163) :: (nat_lit 164) :: (nat_lit 166) :: (nat_lit 167) :: (nat_lit 168) :: (nat_lit 170) :: (nat_lit 171) :: (nat_lit 173) :: (nat_lit 174) :: (nat_lit 182) :: (nat_lit 184) :: (nat_lit 185) :: (nat_lit 187) :: (nat_lit 188) :: (nat_lit 189) :: (nat_lit 191) :: (nat_lit 192) :: (nat_lit 194) :: (nat_lit 195) :: (nat_lit 196) :: (nat_lit 198) :: (nat_lit 199) :: (nat_lit 201) :: (nat_lit 202) :: (nat_lit 203) :: (nat_lit 205) :: (nat_lit 206) :: (nat_lit 208) :: (nat_lit 209) :: (nat_lit 210) :: (nat_lit 212) :: (nat_lit 213) :: (nat_lit 215) :: (nat_lit 216) :: (nat_lit 217) :: (nat_lit 219) :: (nat_lit 220) :: (nat_lit 222) :: (nat_lit 223) :: (nat_lit 224) :: (nat_lit 225) :: (nat_lit 226) :: (nat_lit 227) :: (nat_lit 228) :: (nat_lit 231) :: (nat_lit 238) :: (nat_lit 240) :: (nat_lit 241) :: (nat_lit 243) :: (nat_lit 244) :: (nat_lit 245) :: (nat_lit 247) :: (nat_lit 248) :: (nat_lit 250) :: (nat_lit 251) :: (nat_lit 252) :: (nat_lit 254) :: (nat_lit 255) :: (nat_lit 257) :: (nat_lit 258) :: (nat_lit 259) :: (nat_lit 261) :: (nat_lit 262) :: (nat_lit 264) :: (nat_lit 265) :: (nat_lit 266) :: (nat_lit 268) :: (nat_lit 269) :: (nat_lit 271) :: (nat_lit 272) :: (nat_lit 273) :: (nat_lit 274) :: (nat_lit 275) :: (nat_lit 278) :: (nat_lit 285) :: (nat_lit 287) :: (nat_lit 288) :: (nat_lit 290) :: (nat_lit 291) :: (nat_lit 292) :: (nat_lit 294) :: (nat_lit 295) :: (nat_lit 297) :: (nat_lit 298) :: (nat_lit 299) :: (nat_lit 301) :: (nat_lit 302) :: (nat_lit 304) :: (nat_lit 305) :: (nat_lit 306) :: (nat_lit 308) :: (nat_lit 309) :: (nat_lit 311) :: (nat_lit 312) :: (nat_lit 313) :: (nat_lit 315) :: (nat_lit 316) :: (nat_lit 318) :: (nat_lit 319) :: (nat_lit 320) :: (nat_lit 322) :: (nat_lit 323) :: (nat_lit 325) :: (nat_lit 326) :: (nat_lit 327) :: (nat_lit 328) :: (nat_lit 329) :: (nat_lit 332) :: (nat_lit 334) :: (nat_lit 335) :: (nat_lit 337) :: (nat_lit 338) :: (nat_lit 339) :: (nat_lit 341) :: (nat_lit 342) :: (nat_lit 344) :: (nat_lit 345) :: (nat_lit 346) :: (nat_lit 348) :: (nat_lit 349) :: (nat_lit 351) :: (nat_lit 352) :: (nat_lit 353) :: (nat_lit 355) :: (nat_lit 356) :: (nat_lit 358) :: (nat_lit 359) :: (nat_lit 360) :: (nat_lit 362) :: (nat_lit 363) :: (nat_lit 365) :: (nat_lit 366) :: (nat_lit 367) :: (nat_lit 369) :: (nat_lit 370) :: (nat_lit 372) :: (nat_lit 373) :: (nat_lit 374) :: (nat_lit 376) :: (nat_lit 377) :: (nat_lit 379) :: (nat_lit 380) :: (nat_lit 381) :: (nat_lit 383) :: (nat_lit 384) :: (nat_lit 386) :: (nat_lit 387) :: (nat_lit 388) :: (nat_lit 390) :: (nat_lit 391) :: (nat_lit 393) :: (nat_lit 394) :: (nat_lit 395) :: (nat_lit 397) :: (nat_lit 398) :: (nat_lit 400) :: (nat_lit 401) :: (nat_lit 402) :: (nat_lit 404) :: (nat_lit 405) :: (nat_lit 407) :: (nat_lit 408) :: (nat_lit 409) :: (nat_lit 411) :: (nat_lit 412) :: (nat_lit 414) :: (nat_lit 415) :: (nat_lit 416) :: (nat_lit 418) :: (nat_lit 419) :: (nat_lit 421) :: (nat_lit 422) :: (nat_lit 423) :: (nat_lit 425) :: (nat_lit 426) :: (nat_lit 428) :: (nat_lit 429) :: (nat_lit 430) :: (nat_lit 433) :: (nat_lit 434) :: (nat_lit 435) :: (nat_lit 438) :: (nat_lit 439) :: (nat_lit 440) :: (nat_lit 442) :: (nat_lit 443) :: (nat_lit 445) :: (nat_lit 446) :: (nat_lit 447) :: (nat_lit 449) :: (nat_lit 450) :: (nat_lit 452) :: (nat_lit 453) :: (nat_lit 454) :: (nat_lit 456) :: (nat_lit 457) :: (nat_lit 459) :: (nat_lit 460) :: (nat_lit 461) :: (nat_lit 463) :: (nat_lit 464) :: (nat_lit 466) :: (nat_lit 467) :: (nat_lit 468) :: (nat_lit 470) :: (nat_lit 471) :: (nat_lit 473) :: (nat_lit 474) :: (nat_lit 475) :: (nat_lit 477) :: (nat_lit 478) :: (nat_lit 480) :: (nat_lit 481) :: (nat_lit 482) :: (nat_lit 484) :: (nat_lit 485) :: (nat_lit 487) :: (nat_lit 488) :: (nat_lit 489) :: (nat_lit 491) :: (nat_lit 492) :: (nat_lit 494) :: (nat_lit 495) :: (nat_lit 496) :: (nat_lit 498) :: (nat_lit 499) :: (nat_lit 501) :: (nat_lit 502) :: (nat_lit 503) :: (nat_lit 505) :: (nat_lit 506) :: (nat_lit 508) :: (nat_lit 509) :: (nat_lit 510) :: (nat_lit 512) :: (nat_lit 513) :: (nat_lit 515) :: (nat_lit 516) :: (nat_lit 517) :: (nat_lit 519) :: (nat_lit 520) :: (nat_lit 522) :: (nat_lit 523) :: (nat_lit 524) :: (nat_lit 526) :: (nat_lit 527) :: (nat_lit 529) :: (nat_lit 530) :: (nat_lit 531) :: (nat_lit 533) :: (nat_lit 534) :: (nat_lit 536) :: (nat_lit 537) :: (nat_lit 538) :: (nat_lit 540) :: (nat_lit 541) :: (nat_lit 543) :: (nat_lit 544) :: (nat_lit 545) :: (nat_lit 547) :: (nat_lit 548) :: (nat_lit 550) :: (nat_lit 551) :: (nat_lit 552) :: (nat_lit 554) :: (nat_lit 555) :: (nat_lit 557) :: (nat_lit 558) :: (nat_lit 559) :: (nat_lit 561) :: (nat_lit 562) :: (nat_lit 564) :: (nat_lit 565) :: (nat_lit 566) :: (nat_lit 568) :: (nat_lit 569) :: (nat_lit 571) :: (nat_lit 572) :: (nat_lit 573) :: (nat_lit 575) :: (nat_lit 576) :: (nat_lit 578) :: (nat_lit 579) :: (nat_lit 580) :: (nat_lit 582) :: (nat_lit 583) :: (nat_lit 585) :: (nat_lit 586) :: (nat_lit 587) :: (nat_lit 590) :: (nat_lit 591) :: [])
def h_heap_39 : PySem.Params → PySem.W.Frag := fun x =>
(nat_lit 2, (@W.boot_o_2 x)) ::
(nat_lit 3, (o639 x)) ::
(nat_lit 15, (o662 x)) ::
(nat_lit 17, (o53 x)) ::
(nat_lit 18, (o662 x)) ::
(nat_lit 20, (o56 x)) ::
(nat_lit 21, (o57 x)) ::
(nat_lit 22, (o58 x)) ::
(nat_lit 29, (o662 x)) ::
(nat_lit 30, (o66 x)) ::
(nat_lit 31, (o163 x)) ::
(nat_lit 32, (o68 x)) ::
(nat_lit 35, (o164 x)) ::
(nat_lit 42, (o662 x)) ::
(nat_lit 43, (o82 x)) ::
(nat_lit 44, (o83 x)) ::
(nat_lit 47, (o164 x)) ::
(nat_lit 54, (o662 x)) ::
(nat_lit 55, (o97 x)) ::
(nat_lit 56, (o98 x)) ::
(nat_lit 59, (o164 x)) ::
(nat_lit 66, (o662 x)) ::
(nat_lit 67, (o112 x)) ::
(nat_lit 68, (o113 x)) ::
(nat_lit 71, (o164 x)) ::
(nat_lit 78, (o662 x)) ::
(nat_lit 79, (o127 x)) ::
(nat_lit 80, (o128 x)) ::
(nat_lit 83, (o164 x)) ::
(nat_lit 90, (o662 x)) ::
(nat_lit 91, (o142 x)) ::
(nat_lit 92, (o143 x)) ::
(nat_lit 95, (o164 x)) ::
(nat_lit 102, (o662 x)) ::
(nat_lit 103, (o157 x)) ::
(nat_lit 104, (o158 x)) ::
(nat_lit 107, (o164 x)) ::
(nat_lit 114, (o662 x)) ::
(nat_lit 115, (o172 x)) ::
(nat_lit 116, (o173 x)) ::
(nat_lit 119, (o662 x)) ::
(nat_lit 121, (o178 x)) ::
(nat_lit 122, (o662 x)) ::
(nat_lit 124, (o181 x)) ::
(nat_lit 125, (o182 x)) ::
(nat_lit 126, (o662 x)) ::
(nat_lit 128, (o185 x)) ::
(nat_lit 129, (o662 x)) ::
(nat_lit 131, (o188 x)) ::
(nat_lit 132, (o189 x)) ::
(nat_lit 133, (o662 x)) ::
(nat_lit 135, (o192 x)) ::
(nat_lit 136, (o662 x)) ::
(nat_lit 138, (o195 x)) ::
(nat_lit 139, (o196 x)) ::
(nat_lit 140, (o662 x)) ::
(nat_lit 142, (o199 x)) ::
(nat_lit 143, (o662 x)) ::
(nat_lit 145, (o202 x)) ::
(nat_lit 146, (o203 x)) ::
(nat_lit 147, (o662 x)) ::
(nat_lit 149, (o206 x)) ::
(nat_lit 150, (o662 x)) ::
(nat_lit 152, (o209 x)) ::
(nat_lit 153, (o210 x)) ::
(nat_lit 154, (o662 x)) ::
(nat_lit 156, (o215 x)) ::
(nat_lit 157, (o662 x)) ::
(nat_lit 159, (o218 x)) ::
(nat_lit 160, (o219 x)) ::
(nat_lit 161, (o662 x)) ::
(nat_lit 163, (o222 x)) ::
(nat_lit 164, (o662 x)) ::
(nat_lit 166, (o225 x)) ::
(nat_lit 167, (o226 x)) ::
(nat_lit 168, (o662 x)) ::
(nat_lit 170, (o229 x)) ::
(nat_lit 171, (o662 x)) ::
(nat_lit 173, (o232 x)) ::
(nat_lit 174, (o233 x)) ::
(nat_lit 182, (o662 x)) ::
(nat_lit 184, (o245 x)) ::
(nat_lit 185, (o662 x)) ::
(nat_lit 187, (o248 x)) ::
(nat_lit 188, (o249 x)) ::
(nat_lit 189, (o662 x)) ::
(nat_lit 191, (o252 x)) ::
(nat_lit 192, (o662 x)) ::
(nat_lit 194, (o255 x)) ::
(nat_lit 195, (o256 x)) ::
(nat_lit 196, (o662 x)) ::
(nat_lit 198, (o259 x)) ::
(nat_lit 199, (o662 x)) ::
(nat_lit 201, (o262 x)) ::
(nat_lit 202, (o263 x)) ::
(nat_lit 203, (o662 x)) ::
(nat_lit 205, (o266 x)) ::
(nat_lit 206, (o662 x)) ::
(nat_lit 208, (o269 x)) ::
(nat_lit 209, (o270 x)) ::
(nat_lit 210, (o662 x)) ::
(nat_lit 212, (o273 x)) ::
(nat_lit 213, (o662 x)) ::
(nat_lit 215, (o276 x)) ::
(nat_lit 216, (o277 x)) ::
(nat_lit 217, (o662 x)) ::
(nat_lit 219, (o280 x)) ::
(nat_lit 220, (o662 x)) ::
(nat_lit 222, (o283 x)) ::
(nat_lit 223, (o284 x)) ::
(nat_lit 224, (o662 x)) ::
(nat_lit 225, (o286 x)) ::
(nat_lit 226, (o344 x)) ::
(nat_lit 227, (o288 x)) ::
(nat_lit 228, (o289 x)) ::
(nat_lit 231, (o345 x)) ::
(nat_lit 238, (o662 x)) ::
(nat_lit 240, (o304 x)) ::
(nat_lit 241, (o662 x)) ::
(nat_lit 243, (o307 x)) ::
(nat_lit 244, (o308 x)) ::
(nat_lit 245, (o662 x)) ::
(nat_lit 247, (o311 x)) ::
(nat_lit 248, (o662 x)) ::
(nat_lit 250, (o314 x)) ::
(nat_lit 251, (o315 x)) ::
(nat_lit 252, (o662 x)) ::
(nat_lit 254, (o318 x)) ::
(nat_lit 255, (o662 x)) ::
(nat_lit 257, (o321 x)) ::
(nat_lit 258, (o322 x)) ::
(nat_lit 259, (o662 x)) ::
(nat_lit 261, (o325 x)) ::
(nat_lit 262, (o662 x)) ::
(nat_lit 264, (o328 x)) ::
(nat_lit 265, (o329 x)) ::
(nat_lit 266, (o662 x)) ::
(nat_lit 268, (o332 x)) ::
(nat_lit 269, (o662 x)) ::
(nat_lit 271, (o335 x)) ::
(nat_lit 272, (o336 x)) ::
(nat_lit 273, (o337 x)) ::
(nat_lit 274, (o338 x)) ::
(nat_lit 275, (o339 x)) ::
(nat_lit 278, (o345 x)) ::
(nat_lit 285, (o662 x)) ::
(nat_lit 287, (o354 x)) ::
(nat_lit 288, (o662 x)) ::
(nat_lit 290, (o357 x)) ::
(nat_lit 291, (o358 x)) ::
(nat_lit 292, (o662 x)) ::
(nat_lit 294, (o361 x)) ::
(nat_lit 295, (o662 x)) ::
(nat_lit 297, (o364 x)) ::
(nat_lit 298, (o365 x)) ::
(nat_lit 299, (o662 x)) ::
(nat_lit 301, (o368 x)) ::
(nat_lit 302, (o662 x)) ::
(nat_lit 304, (o371 x)) ::
(nat_lit 305, (o372 x)) ::
(nat_lit 306, (o662 x)) ::
(nat_lit 308, (o375 x)) ::
(nat_lit 309, (o662 x)) ::
(nat_lit 311, (o378 x)) ::
(nat_lit 312, (o379 x)) ::
(nat_lit 313, (o662 x)) ::
(nat_lit 315, (o382 x)) ::
(nat_lit 316, (o662 x)) ::
(nat_lit 318, (o385 x)) ::
(nat_lit 319, (o386 x)) ::
(nat_lit 320, (o662 x)) ::
(nat_lit 322, (o389 x)) ::
(nat_lit 323, (o662 x)) ::
(nat_lit 325, (o392 x)) ::
(nat_lit 326, (o393 x)) ::
(nat_lit 327, (o394 x)) ::
(nat_lit 328, (o395 x)) ::
(nat_lit 329, (o396 x)) ::
(nat_lit 332, (o662 x)) ::
(nat_lit 334, (o403 x)) ::
(nat_lit 335, (o662 x)) ::
(nat_lit 337, (o406 x)) ::
(nat_lit 338, (o407 x)) ::
(nat_lit 339, (o662 x)) ::
(nat_lit 341, (o410 x)) ::
(nat_lit 342, (o662 x)) ::
(nat_lit 344, (o413 x)) ::
(nat_lit 345, (o414 x)) ::
(nat_lit 346, (o662 x)) ::
(nat_lit 348, (o417 x)) ::
(nat_lit 349, (o662 x)) ::
(nat_lit 351, (o420 x)) ::
(nat_lit 352, (o421 x)) ::
(nat_lit 353, (o662 x)) ::
(nat_lit 355, (o424 x)) ::
(nat_lit 356, (o662 x)) ::
(nat_lit 358, (o427 x)) ::
(nat_lit 359, (o428 x)) ::
(nat_lit 360, (o662 x)) ::
(nat_lit 362, (o431 x)) ::
(nat_lit 363, (o662 x)) ::
(nat_lit 365, (o434 x)) ::
(nat_lit 366, (o435 x)) ::
(nat_lit 367, (o662 x)) ::
(nat_lit 369, (o438 x)) ::
(nat_lit 370, (o662 x)) ::
(nat_lit 372, (o441 x)) ::
(nat_lit 373, (o442 x)) ::
(nat_lit 374, (o662 x)) ::
(nat_lit 376, (o445 x)) ::
(nat_lit 377, (o662 x)) ::
(nat_lit 379, (o448 x)) ::
(nat_lit 380, (o449 x)) ::
(nat_lit 381, (o662 x)) ::
(nat_lit 383, (o452 x)) ::
(nat_lit 384, (o662 x)) ::
(nat_lit 386, (o455 x)) ::
(nat_lit 387, (o456 x)) ::
(nat_lit 388, (o662 x)) ::
(nat_lit 390, (o459 x)) ::
(nat_lit 391, (o662 x)) ::
(nat_lit 393, (o462 x)) ::
(nat_lit 394, (o463 x)) ::
(nat_lit 395, (o662 x)) ::
(nat_lit 397, (o466 x)) ::
(nat_lit 398, (o662 x)) ::
(nat_lit 400, (o469 x)) ::
(nat_lit 401, (o470 x)) ::
(nat_lit 402, (o662 x)) ::
(nat_lit 404, (o473 x)) ::
(nat_lit 405, (o662 x)) ::
(nat_lit 407, (o476 x)) ::
(nat_lit 408, (o477 x)) ::
(nat_lit 409, (o662 x)) ::
(nat_lit 411, (o482 x)) ::
(nat_lit 412, (o662 x)) ::
(nat_lit 414, (o485 x)) ::
(nat_lit 415, (o486 x)) ::
(nat_lit 416, (o662 x)) ::
(nat_lit 418, (o489 x)) ::
(nat_lit 419, (o662 x)) ::
(nat_lit 421, (o492 x)) ::
(nat_lit 422, (o493 x)) ::
(nat_lit 423, (o662 x)) ::
(nat_lit 425, (o496 x)) ::
(nat_lit 426, (o662 x)) ::
(nat_lit 428, (o499 x)) ::
(nat_lit 429, (o500 x)) ::
(nat_lit 430, (o662 x)) ::
(nat_lit 433, (o504 x)) ::
(nat_lit 434, (o505 x)) ::
(nat_lit 435, (o662 x)) ::
(nat_lit 438, (o509 x)) ::
(nat_lit 439, (o510 x)) ::
(nat_lit 440, (o662 x)) ::
(nat_lit 442, (o513 x)) ::
(nat_lit 443, (o662 x)) ::
(nat_lit 445, (o516 x)) ::
(nat_lit 446, (o517 x)) ::
(nat_lit 447, (o662 x)) ::
(nat_lit 449, (o520 x)) ::
(nat_lit 450, (o662 x)) ::
(nat_lit 452, (o523 x)) ::
(nat_lit 453, (o524 x)) ::
(nat_lit 454, (o662 x)) ::
(nat_lit 456, (o527 x)) ::
(nat_lit 457, (o662 x)) ::
(nat_lit 459, (o530 x)) ::
(nat_lit 460, (o531 x)) ::
(nat_lit 461, (o662 x)) ::
(nat_lit 463, (o534 x)) ::
(nat_lit 464, (o662 x)) ::
(nat_lit 466, (o537 x)) ::
(nat_lit 467, (o538 x)) ::
(nat_lit 468, (o662 x)) ::
(nat_lit 470, (o541 x)) ::
(nat_lit 471, (o662 x)) ::
(nat_lit 473, (o544 x)) ::
(nat_lit 474, (o545 x)) ::
(nat_lit 475, (o662 x)) ::
(nat_lit 477, (o548 x)) ::
(nat_lit 478, (o662 x)) ::
(nat_lit 480, (o551 x)) ::
(nat_lit 481, (o552 x)) ::
(nat_lit 482, (o662 x)) ::
(nat_lit 484, (o555 x)) ::
(nat_lit 485, (o662 x)) ::
(nat_lit 487, (o558 x)) ::
(nat_lit 488, (o559 x)) ::
(nat_lit 489, (o662 x)) ::
(nat_lit 491, (o564 x)) ::
(nat_lit 492, (o662 x)) ::
(nat_lit 494, (o567 x)) ::
(nat_lit 495, (o568 x)) ::
(nat_lit 496, (o662 x)) ::
(nat_lit 498, (o571 x)) ::
(nat_lit 499, (o662 x)) ::
(nat_lit 501, (o574 x)) ::
(nat_lit 502, (o575 x)) ::
(nat_lit 503, (o662 x)) ::
(nat_lit 505, (o578 x)) ::
(nat_lit 506, (o662 x)) ::
(nat_lit 508, (o581 x)) ::
(nat_lit 509, (o582 x)) ::
(nat_lit 510, (o662 x)) ::
(nat_lit 512, (o585 x)) ::
(nat_lit 513, (o662 x)) ::
(nat_lit 515, (o588 x)) ::
(nat_lit 516, (o589 x)) ::
(nat_lit 517, (o662 x)) ::
(nat_lit 519, (o592 x)) ::
(nat_lit 520, (o662 x)) ::
(nat_lit 522, (o595 x)) ::
(nat_lit 523, (o596 x)) ::
(nat_lit 524, (o662 x)) ::
(nat_lit 526, (o599 x)) ::
(nat_lit 527, (o662 x)) ::
(nat_lit 529, (o602 x)) ::
(nat_lit 530, (o603 x)) ::
(nat_lit 531, (o662 x)) ::
(nat_lit 533, (o606 x)) ::
(nat_lit 534, (o662 x)) ::
(nat_lit 536, (o609 x)) ::
(nat_lit 537, (o610 x)) ::
(nat_lit 538, (o662 x)) ::
(nat_lit 540, (o613 x)) ::
(nat_lit 541, (o662 x)) ::
(nat_lit 543, (o616 x)) ::
(nat_lit 544, (o617 x)) ::
(nat_lit 545, (o662 x)) ::
(nat_lit 547, (o620 x)) ::
(nat_lit 548, (o662 x)) ::
(nat_lit 550, (o623 x)) ::
(nat_lit 551, (o624 x)) ::
(nat_lit 552, (o662 x)) ::
(nat_lit 554, (o627 x)) ::
(nat_lit 555, (o662 x)) ::
(nat_lit 557, (o630 x)) ::
(nat_lit 558, (o631 x)) ::
(nat_lit 559, (o662 x)) ::
(nat_lit 561, (o634 x)) ::
(nat_lit 562, (o662 x)) ::
(nat_lit 564, (o637 x)) ::
(nat_lit 565, (o638 x)) ::
(nat_lit 566, (o662 x)) ::
(nat_lit 568, (o643 x)) ::
(nat_lit 569, (o662 x)) ::
(nat_lit 571, (o646 x)) ::
(nat_lit 572, (o647 x)) ::
(nat_lit 573, (o662 x)) ::
(nat_lit 575, (o650 x)) ::
(nat_lit 576, (o662 x)) ::
(nat_lit 578, (o653 x)) ::
(nat_lit 579, (o654 x)) ::
(nat_lit 580, (o662 x)) ::
(nat_lit 582, (o657 x)) ::
(nat_lit 583, (o662 x)) ::
(nat_lit 585, (o660 x)) ::
(nat_lit 586, (o661 x)) ::
(nat_lit 587, (o662 x)) ::
(nat_lit 590, (o665 x)) ::
(nat_lit 591, (o666 x)) :: []
def h_view_39 : PySem.Program := { PySem.Challenge.pw_oddbases_k66_whole_falling_sums with main := { PySem.Challenge.pw_oddbases_k66_whole_falling_sums.main with body := [My.top 0, My.top 2, My.top 3, My.top 4, My.top 5, My.top 6, My.top 7, My.top 8, My.top 9, My.top 11, My.top 12, My.top 13, My.top 14, My.top 15, My.top 17, My.top 18, My.top 20, My.top 21, My.top 22, My.top 23, My.top 25, My.top 26, My.top 27, My.top 28, My.top 29, My.top 30, My.top 31, My.top 33, My.top 34, My.top 36, My.top 37, My.top 38, My.top 39, My.top 40, My.top 42, My.top 43, My.top 44, My.top 45, My.top 46, My.top 47, My.top 48, My.top 49, My.top 50, My.top 51, My.top 53, My.top 54, My.top 55, My.top 56, My.top 58, My.top 59, My.top 60, My.top 61, My.top 62, My.top 63, My.top 64, My.top 65, My.top 66, My.top 67] } }
def h_heap_667 : ((x : @Params) → @Heap) := (fun x => (@Heap.mk (@Array.mk @Obj ((@W.boot_o_0 x) :: (@W.boot_o_1 x) :: (@W.boot_o_2 x) :: (o639 x) :: (@W.boot_o_4 x) :: (@W.boot_o_5 x) :: (@W.boot_o_6 x) :: (@W.boot_o_7 x) :: (@W.boot_o_8 x) :: (@W.boot_o_9 x) :: (@W.boot_o_10 x) :: (o662 x) :: (o640 x) :: (o45 x) :: (o46 x) :: (o662 x) :: (o663 x) :: (o53 x) :: (o662 x) :: (o55 x) :: (o56 x) :: (o57 x) :: (o58 x) :: (o346 x) :: (o60 x) :: (o662 x) :: (o663 x) :: (o63 x) :: (o64 x) :: (o662 x) :: (o66 x) :: (o163 x) :: (o68 x) :: (o69 x) :: (o70 x) :: (o164 x) :: (o346 x) :: (o76 x) :: (o662 x) :: (o663 x) :: (o79 x) :: (o80 x) :: (o662 x) :: (o82 x) :: (o83 x) :: (o84 x) :: (o85 x) :: (o164 x) :: (o346 x) :: (o91 x) :: (o662 x) :: (o663 x) :: (o94 x) :: (o95 x) :: (o662 x) :: (o97 x) :: (o98 x) :: (o99 x) :: (o100 x) :: (o164 x) :: (o346 x) :: (o106 x) :: (o662 x) :: (o663 x) :: (o109 x) :: (o110 x) :: (o662 x) :: (o112 x) :: (o113 x) :: (o114 x) :: (o115 x) :: (o164 x) :: (o346 x) :: (o121 x) :: (o662 x) :: (o663 x) :: (o124 x) :: (o125 x) :: (o662 x) :: (o127 x) :: (o128 x) :: (o129 x) :: (o130 x) :: (o164 x) :: (o346 x) :: (o136 x) :: (o662 x) :: (o663 x) :: (o139 x) :: (o140 x) :: (o662 x) :: (o142 x) :: (o143 x) :: (o144 x) :: (o145 x) :: (o164 x) :: (o346 x) :: (o151 x) :: (o662 x) :: (o663 x) :: (o154 x) :: (o155 x) :: (o662 x) :: (o157 x) :: (o158 x) :: (o159 x) :: (o160 x) :: (o164 x) :: (o346 x) :: (o166 x) :: (o662 x) :: (o663 x) :: (o169 x) :: (o170 x) :: (o662 x) :: (o172 x) :: (o173 x) :: (o174 x) :: (o175 x) :: (o662 x) :: (o663 x) :: (o178 x) :: (o662 x) :: (o180 x) :: (o181 x) :: (o182 x) :: (o662 x) :: (o663 x) :: (o185 x) :: (o662 x) :: (o187 x) :: (o188 x) :: (o189 x) :: (o662 x) :: (o663 x) :: (o192 x) :: (o662 x) :: (o194 x) :: (o195 x) :: (o196 x) :: (o662 x) :: (o663 x) :: (o199 x) :: (o662 x) :: (o201 x) :: (o202 x) :: (o203 x) :: (o662 x) :: (o663 x) :: (o206 x) :: (o662 x) :: (o208 x) :: (o209 x) :: (o210 x) :: (o662 x) :: (o663 x) :: (o215 x) :: (o662 x) :: (o217 x) :: (o218 x) :: (o219 x) :: (o662 x) :: (o663 x) :: (o222 x) :: (o662 x) :: (o224 x) :: (o225 x) :: (o226 x) :: (o662 x) :: (o663 x) :: (o229 x) :: (o662 x) :: (o231 x) :: (o232 x) :: (o233 x) :: (o662 x) :: (o346 x) :: (o238 x) :: (o662 x) :: (o240 x) :: (o241 x) :: (o242 x) :: (o662 x) :: (o663 x) :: (o245 x) :: (o662 x) :: (o247 x) :: (o248 x) :: (o249 x) :: (o662 x) :: (o663 x) :: (o252 x) :: (o662 x) :: (o254 x) :: (o255 x) :: (o256 x) :: (o662 x) :: (o663 x) :: (o259 x) :: (o662 x) :: (o261 x) :: (o262 x) :: (o263 x) :: (o662 x) :: (o663 x) :: (o266 x) :: (o662 x) :: (o268 x) :: (o269 x) :: (o270 x) :: (o662 x) :: (o663 x) :: (o273 x) :: (o662 x) :: (o275 x) :: (o276 x) :: (o277 x) :: (o662 x) :: (o663 x) :: (o280 x) :: (o662 x) :: (o282 x) :: (o283 x) :: (o284 x) :: (o662 x) :: (o286 x) :: (o344 x) :: (o288 x) :: (o289 x) :: (o290 x) :: (o291 x) :: (o345 x) :: (o346 x) :: (o297 x) :: (o662 x) :: (o299 x) :: (o300 x) :: (o301 x) :: (o662 x) :: (o663 x) :: (o304 x) :: (o662 x) :: (o306 x) :: (o307 x) :: (o308 x) :: (o662 x) :: (o663 x) :: (o311 x) :: (o662 x) :: (o313 x) :: (o314 x) :: (o315 x) :: (o662 x) :: (o663 x) :: (o318 x) :: (o662 x) :: (o320 x) :: (o321 x) :: (o322 x) :: (o662 x) :: (o663 x) :: (o325 x) :: (o662 x) :: (o327 x) :: (o328 x) :: (o329 x) :: (o662 x) :: (o663 x) :: (o332 x) :: (o662 x) :: (o334 x) :: (o335 x) :: (o336 x) :: (o337 x) :: (o338 x) :: (o339 x) :: (o340 x) :: (o341 x) :: (o345 x) :: (o346 x) :: (o347 x) :: (o662 x) :: (o349 x) :: (o350 x) :: (o351 x) :: (o662 x) :: (o663 x) :: (o354 x) :: (o662 x) :: (o356 x) :: (o357 x) :: (o358 x) :: (o662 x) :: (o663 x) :: (o361 x) :: (o662 x) :: (o363 x) :: (o364 x) :: (o365 x) :: (o662 x) :: (o663 x) :: (o368 x) :: (o662 x) :: (o370 x) :: (o371 x) :: (o372 x) :: (o662 x) :: (o663 x) :: (o375 x) :: (o662 x) :: (o377 x) :: (o378 x) :: (o379 x) :: (o662 x) :: (o663 x) :: (o382 x) :: (o662 x) :: (o384 x) :: (o385 x) :: (o386 x) :: (o662 x) :: (o663 x) :: (o389 x) :: (o662 x) :: (o391 x) :: (o392 x) :: (o393 x) :: (o394 x) :: (o395 x) :: (o396 x) :: (o397 x) :: (o398 x) :: (o662 x) :: (o663 x) :: (o403 x) :: (o662 x) :: (o405 x) :: (o406 x) :: (o407 x) :: (o662 x) :: (o663 x) :: (o410 x) :: (o662 x) :: (o412 x) :: (o413 x) :: (o414 x) :: (o662 x) :: (o663 x) :: (o417 x) :: (o662 x) :: (o419 x) :: (o420 x) :: (o421 x) :: (o662 x) :: (o663 x) :: (o424 x) :: (o662 x) :: (o426 x) :: (o427 x) :: (o428 x) :: (o662 x) :: (o663 x) :: (o431 x) :: (o662 x) :: (o433 x) :: (o434 x) :: (o435 x) :: (o662 x) :: (o663 x) :: (o438 x) :: (o662 x) :: (o440 x) :: (o441 x) :: (o442 x) :: (o662 x) :: (o663 x) :: (o445 x) :: (o662 x) :: (o447 x) :: (o448 x) :: (o449 x) :: (o662 x) :: (o663 x) :: (o452 x) :: (o662 x) :: (o454 x) :: (o455 x) :: (o456 x) :: (o662 x) :: (o663 x) :: (o459 x) :: (o662 x) :: (o461 x) :: (o462 x) :: (o463 x) :: (o662 x) :: (o663 x) :: (o466 x) :: (o662 x) :: (o468 x) :: (o469 x) :: (o470 x) :: (o662 x) :: (o663 x) :: (o473 x) :: (o662 x) :: (o475 x) :: (o476 x) :: (o477 x) :: (o662 x) :: (o663 x) :: (o482 x) :: (o662 x) :: (o484 x) :: (o485 x) :: (o486 x) :: (o662 x) :: (o663 x) :: (o489 x) :: (o662 x) :: (o491 x) :: (o492 x) :: (o493 x) :: (o662 x) :: (o663 x) :: (o496 x) :: (o662 x) :: (o498 x) :: (o499 x) :: (o500 x) :: (o662 x) :: (o663 x) :: (o503 x) :: (o504 x) :: (o505 x) :: (o662 x) :: (o663 x) :: (o508 x) :: (o509 x) :: (o510 x) :: (o662 x) :: (o663 x) :: (o513 x) :: (o662 x) :: (o515 x) :: (o516 x) :: (o517 x) :: (o662 x) :: (o663 x) :: (o520 x) :: (o662 x) :: (o522 x) :: (o523 x) :: (o524 x) :: (o662 x) :: (o663 x) :: (o527 x) :: (o662 x) :: (o529 x) :: (o530 x) :: (o531 x) :: (o662 x) :: (o663 x) :: (o534 x) :: (o662 x) :: (o536 x) :: (o537 x) :: (o538 x) :: (o662 x) :: (o663 x) :: (o541 x) :: (o662 x) :: (o543 x) :: (o544 x) :: (o545 x) :: (o662 x) :: (o663 x) :: (o548 x) :: (o662 x) :: (o550 x) :: (o551 x) :: (o552 x) :: (o662 x) :: (o663 x) :: (o555 x) :: (o662 x) :: (o557 x) :: (o558 x) :: (o559 x) :: (o662 x) :: (o663 x) :: (o564 x) :: (o662 x) :: (o566 x) :: (o567 x) :: (o568 x) :: (o662 x) :: (o663 x) :: (o571 x) :: (o662 x) :: (o573 x) :: (o574 x) :: (o575 x) :: (o662 x) :: (o663 x) :: (o578 x) :: (o662 x) :: (o580 x) :: (o581 x) :: (o582 x) :: (o662 x) :: (o663 x) :: (o585 x) :: (o662 x) :: (o587 x) :: (o588 x) :: (o589 x) :: (o662 x) :: (o663 x) :: (o592 x) :: (o662 x) :: (o594 x) :: (o595 x) :: (o596 x) :: (o662 x) :: (o663 x) :: (o599 x) :: (o662 x) :: (o601 x) :: (o602 x) :: (o603 x) :: (o662 x) :: (o663 x) :: (o606 x) :: (o662 x) :: (o608 x) :: (o609 x) :: (o610 x) :: (o662 x) :: (o663 x) :: (o613 x) :: (o662 x) :: (o615 x) :: (o616 x) :: (o617 x) :: (o662 x) :: (o663 x) :: (o620 x) :: (o662 x) :: (o622 x) :: (o623 x) :: (o624 x) :: (o662 x) :: (o663 x) :: (o627 x) :: (o662 x) :: (o629 x) :: (o630 x) :: (o631 x) :: (o662 x) :: (o663 x) :: (o634 x) :: (o662 x) :: (o636 x) :: (o637 x) :: (o638 x) :: (o662 x) :: (o663 x) :: (o643 x) :: (o662 x) :: (o645 x) :: (o646 x) :: (o647 x) :: (o662 x) :: (o663 x) :: (o650 x) :: (o662 x) :: (o652 x) :: (o653 x) :: (o654 x) :: (o662 x) :: (o663 x) :: (o657 x) :: (o662 x) :: (o659 x) :: (o660 x) :: (o661 x) :: (o662 x) :: (o663 x) :: (o664 x) :: (o665 x) :: (o666 x) :: [])) (@Life.mk [] [] [] 0 (@List.nil (@Prod @Nat @Nat)) [] @Bool.false #[] [] 0 @Bool.false @Bool.false @Bool.false (0 : Int) [(2000 : Int), (10 : Int), (10 : Int)] @Bool.false 0 @Bool.true [] [] 0 @Bool.false)))
def h_env_41 : @Env := (@Env.mk (@Module.scope (@Program.main ((@W.OpenRow.toRowW (@W.OpenLaw.row @Challenge.rw_oddbases_k66_whole_falling_sums))).1)) @mainNs @mainNs (@List.nil (@Prod @Str @Addr)) @Str.empty (@Option.none @Addr) (r_ 13) (@some @Addr (@OfNat.ofNat @Addr 14 (@instOfNatNat 14))) (@OfNat.ofNat @Addr 0 (@instOfNatNat 0)))
def h_tree_666 := N_ W.boot_o_0 (N_ W.boot_o_1 (N_ o639 (N_ W.boot_o_7 (N_ o662 (N_ o163 (N_ o663 (N_ o663 Y1 (L_ o452)) (N_ o252 (N_ o386 (L_ o650) Z_) (L_ o662))) (N_ o164 (N_ o218 (N_ o354 (L_ o616) Z_) (L_ o486)) (N_ o284 (L_ o420) (L_ o550)))) (N_ o164 (N_ o127 (N_ o662 (N_ o335 (L_ o662) Z_) (L_ o468)) (N_ o268 (N_ o662 (L_ o666) Z_) (L_ o534))) (N_ o663 (N_ o662 (N_ o370 (L_ o662) Z_) (L_ o663)) (N_ o663 (L_ o662) (L_ o568))))) (N_ o346 (N_ o663 (N_ o164 (N_ o192 (N_ o327 (L_ o592) Z_) (L_ o662)) (N_ o662 (N_ o394 (L_ o662) Z_) (L_ o663))) (N_ o157 (N_ o226 (N_ o662 (L_ o624) Z_) (L_ o662)) (N_ o345 (L_ o428) (L_ o558)))) (N_ o97 (N_ o663 (N_ o208 (N_ o346 (L_ o608) Z_) (L_ o476)) (N_ o276 (L_ o412) (L_ o662))) (N_ o662 (N_ o663 (N_ o378 (L_ o663) Z_) (L_ o510)) (N_ o311 (L_ o663) (L_ o662)))))) (N_ o662 (N_ o55 (N_ o164 (N_ o112 (N_ o188 (N_ o662 (L_ o588) Z_) (L_ o456)) (N_ o256 (N_ o662 (L_ o654) Z_) (L_ o522))) (N_ o663 (N_ o222 (N_ o358 (L_ o620) Z_) (L_ o662)) (N_ o288 (L_ o424) (L_ o663)))) (N_ o663 (N_ o164 (N_ o662 (N_ o339 (L_ o662) Z_) (L_ o663)) (N_ o663 (L_ o662) (L_ o538))) (N_ o172 (N_ o240 (N_ o663 (L_ o636) Z_) (L_ o662)) (N_ o307 (L_ o440) (L_ o662))))) (N_ o63 (N_ o82 (N_ o663 (N_ o196 (N_ o663 (L_ o596) Z_) (L_ o662)) (N_ o662 (N_ o398 (L_ o662) Z_) (L_ o530))) (N_ o164 (N_ o662 Y2 (L_ o498)) (N_ o299 (L_ o662) (L_ o564)))) (N_ o164 (N_ o142 (N_ o663 (N_ o350 (L_ o663) Z_) (L_ o482)) (N_ o280 (L_ o663) (L_ o662))) (N_ o180 (N_ o248 (N_ o382 (L_ o646) Z_) (L_ o662)) (N_ o315 (L_ o448) (L_ o580))))))) (N_ W.boot_o_5 (N_ W.boot_o_9 (N_ o53 (N_ o69 (N_ o110 (N_ o662 (N_ o321 (L_ o662) Z_) (L_ o454)) (N_ o254 (N_ o663 (L_ o652) Z_) (L_ o520))) (N_ o151 (N_ o662 (N_ o356 (L_ o662) Z_) (L_ o663)) (N_ o286 (L_ o662) (L_ o552)))) (N_ o91 (N_ o129 (N_ o202 (N_ o337 (L_ o602) Z_) (L_ o470)) (N_ o270 (L_ o406) (L_ o536))) (N_ o170 (N_ o238 (N_ o372 (L_ o634) Z_) (L_ o504)) (N_ o662 (L_ o438) (L_ o663))))) (N_ o662 (N_ o80 (N_ o121 (N_ o194 (N_ o329 (L_ o594) Z_) (L_ o462)) (N_ o262 (N_ o396 (L_ o660) Z_) (L_ o662))) (N_ o159 (N_ o663 (N_ o364 (L_ o663) Z_) (L_ o496)) (N_ o297 (L_ o663) (L_ o662)))) (N_ o99 (N_ o140 (N_ o210 (N_ o662 (L_ o610) Z_) (L_ o662)) (N_ o662 (L_ o414) (L_ o544))) (N_ o178 Y0 (N_ o313 (L_ o662) (L_ o578)))))) (N_ o45 (N_ o57 (N_ o76 (N_ o114 (N_ o662 (N_ o325 (L_ o662) Z_) (L_ o663)) (N_ o663 (N_ o392 (L_ o663) Z_) (L_ o524))) (N_ o155 (N_ o224 (N_ o663 (L_ o622) Z_) (L_ o492)) (N_ o290 (L_ o426) (L_ o662)))) (N_ o95 (N_ o136 (N_ o206 (N_ o341 (L_ o606) Z_) (L_ o662)) (N_ o662 (L_ o410) (L_ o663))) (N_ o174 (N_ o242 (N_ o662 (L_ o638) Z_) (L_ o508)) (N_ o662 (L_ o442) (L_ o574))))) (N_ o662 (N_ o84 (N_ o125 (N_ o663 Y1 (L_ o466)) (N_ o266 (N_ o663 (L_ o664) Z_) (L_ o662))) (N_ o166 (N_ o232 (N_ o368 (L_ o630) Z_) (L_ o500)) (N_ o301 (L_ o434) (L_ o566)))) (N_ o106 (N_ o144 (N_ o662 Y2 (L_ o484)) (N_ o282 (L_ o662) (L_ o548))) (N_ o182 (N_ o662 (N_ o384 (L_ o662) Z_) (L_ o516)) (N_ o663 (L_ o662) (L_ o582)))))))) (N_ W.boot_o_2 (N_ W.boot_o_4 (N_ W.boot_o_8 (N_ o663 (N_ o68 (N_ o109 (N_ o185 (N_ o320 (L_ o585) Z_) (L_ o662)) Y0) (N_ o346 (N_ o219 (N_ o662 (L_ o617) Z_) (L_ o662)) (N_ o662 (L_ o421) (L_ o551)))) (N_ o346 (N_ o128 (N_ o201 (N_ o336 (L_ o601) Z_) (L_ o469)) (N_ o269 (L_ o405) (L_ o662))) (N_ o169 (N_ o346 (N_ o371 (L_ o663) Z_) (L_ o503)) (N_ o304 (L_ o663) (L_ o662))))) (N_ o60 (N_ o79 (N_ o346 (N_ o662 (N_ o328 (L_ o662) Z_) (L_ o461)) (N_ o261 (N_ o395 (L_ o659) Z_) (L_ o527))) (N_ o158 (N_ o662 (N_ o363 (L_ o662) Z_) (L_ o663)) (N_ o346 (L_ o662) (L_ o559)))) (N_ o98 (N_ o139 (N_ o209 (N_ o347 (L_ o609) Z_) (L_ o477)) (N_ o277 (L_ o413) (L_ o543))) (N_ o663 (N_ o245 (N_ o379 (L_ o643) Z_) (L_ o662)) (N_ o662 (L_ o445) (L_ o663)))))) (N_ o640 (N_ o56 (N_ o346 (N_ o113 (N_ o189 (N_ o663 (L_ o589) Z_) (L_ o662)) (N_ o662 (N_ o391 (L_ o662) Z_) (L_ o523))) (N_ o154 (N_ o662 Y2 (L_ o491)) (N_ o289 (L_ o662) (L_ o555)))) (N_ o94 (N_ o346 (N_ o663 (N_ o340 (L_ o663) Z_) (L_ o473)) (N_ o273 (L_ o663) (L_ o662))) (N_ o173 (N_ o241 (N_ o375 (L_ o637) Z_) (L_ o663)) (N_ o308 (L_ o441) (L_ o573))))) (N_ o64 (N_ o83 (N_ o124 (N_ o662 (N_ o332 (L_ o662) Z_) (L_ o663)) (N_ o663 Y1 (L_ o531))) (N_ o346 (N_ o231 (N_ o663 (L_ o629) Z_) (L_ o499)) (N_ o300 (L_ o433) (L_ o662)))) (N_ o346 (N_ o143 (N_ o215 (N_ o351 (L_ o613) Z_) (L_ o662)) (N_ o662 (L_ o417) (L_ o663))) (N_ o181 (N_ o249 (N_ o662 (L_ o647) Z_) (L_ o515)) (N_ o662 (L_ o449) (L_ o581))))))) (N_ W.boot_o_6 (N_ W.boot_o_10 (N_ o662 (N_ o70 (N_ o662 (N_ o187 (N_ o322 (L_ o587) Z_) (L_ o455)) (N_ o255 (N_ o389 (L_ o653) Z_) (L_ o662))) (N_ o662 (N_ o663 (N_ o357 (L_ o663) Z_) (L_ o489)) (N_ o344 (L_ o663) (L_ o662)))) (N_ o662 (N_ o130 (N_ o203 (N_ o338 (L_ o603) Z_) (L_ o662)) (N_ o662 (L_ o407) (L_ o537))) (N_ o662 (N_ o662 Y2 (L_ o505)) (N_ o306 (L_ o662) (L_ o571))))) (N_ o663 (N_ o662 (N_ o662 (N_ o195 (N_ o662 (L_ o595) Z_) (L_ o463)) (N_ o263 (N_ o397 (L_ o661) Z_) (L_ o529))) (N_ o160 (N_ o229 (N_ o365 (L_ o627) Z_) (L_ o662)) (N_ o662 (L_ o431) (L_ o663)))) (N_ o100 (N_ o662 (N_ o662 (N_ o349 (L_ o662) Z_) (L_ o663)) (N_ o663 (L_ o662) (L_ o545))) (N_ o662 (N_ o247 (N_ o663 (L_ o645) Z_) (L_ o513)) (N_ o314 (L_ o447) (L_ o662)))))) (N_ o46 (N_ o58 (N_ o662 (N_ o115 (N_ o663 Y1 (L_ o459)) (N_ o259 (N_ o393 (L_ o657) Z_) (L_ o662))) (N_ o662 (N_ o225 (N_ o361 (L_ o623) Z_) (L_ o493)) (N_ o291 (L_ o427) (L_ o557)))) (N_ o662 (N_ o662 (N_ o662 (N_ o345 (L_ o662) Z_) (L_ o475)) (N_ o275 (L_ o662) (L_ o541))) (N_ o175 (N_ o662 (N_ o377 (L_ o662) Z_) (L_ o509)) (N_ o663 (L_ o662) (L_ o575))))) (N_ o66 (N_ o85 (N_ o662 (N_ o199 (N_ o334 (L_ o599) Z_) (L_ o662)) (N_ o662 (N_ o403 (L_ o665) Z_) (L_ o663))) (N_ o662 (N_ o233 (N_ o662 (L_ o631) Z_) (L_ o662)) (N_ o662 (L_ o435) (L_ o567)))) (N_ o662 (N_ o145 (N_ o217 (N_ o663 (L_ o615) Z_) (L_ o485)) (N_ o283 (L_ o419) (L_ o662))) (N_ o662 (N_ o663 (N_ o385 (L_ o663) Z_) (L_ o517)) (N_ o318 (L_ o663) (L_ o662))))))))
def h_sts_560 : (@List @Stmt) := [My.top 51, My.top 52, My.top 53, My.top 54, My.top 55, My.top 56, My.top 57, My.top 58, My.top 59, My.top 60, My.top 61, My.top 62, My.top 63, My.top 64, My.top 65, My.top 66, My.top 67]
def h_tree_559 := N_ W.boot_o_0 (N_ W.boot_o_1 (N_ o478 (N_ W.boot_o_7 (N_ o662 (N_ o163 (N_ o663 (N_ o663 (L_ o662) (L_ o452)) (N_ o252 (L_ o386) (L_ o662))) (N_ o164 (N_ o218 (L_ o354) (L_ o486)) (N_ o284 (L_ o420) (L_ o550)))) (N_ o164 (N_ o127 (N_ o662 (L_ o335) (L_ o468)) (N_ o268 (L_ o662) (L_ o534))) (N_ o663 (N_ o662 (L_ o370) (L_ o663)) (N_ o663 (L_ o662) Z_)))) (N_ o346 (N_ o663 (N_ o164 (N_ o192 (L_ o327) (L_ o662)) (N_ o662 (L_ o394) (L_ o663))) (N_ o157 (N_ o226 (L_ o662) (L_ o662)) (N_ o345 (L_ o428) (L_ o558)))) (N_ o97 (N_ o663 (N_ o208 (L_ o346) (L_ o476)) (N_ o276 (L_ o412) (L_ o662))) (N_ o662 (N_ o663 (L_ o378) (L_ o510)) (N_ o311 (L_ o663) Z_))))) (N_ o662 (N_ o55 (N_ o164 (N_ o112 (N_ o188 (L_ o662) (L_ o456)) (N_ o256 (L_ o662) (L_ o522))) (N_ o663 (N_ o222 (L_ o358) (L_ o662)) (N_ o288 (L_ o424) (L_ o663)))) (N_ o663 (N_ o164 (N_ o662 (L_ o339) (L_ o663)) (N_ o663 (L_ o662) (L_ o538))) (N_ o172 (N_ o240 (L_ o663) (L_ o662)) (N_ o307 (L_ o440) Z_)))) (N_ o63 (N_ o82 (N_ o663 (N_ o196 (L_ o663) (L_ o662)) (N_ o662 (L_ o398) (L_ o530))) (N_ o164 (N_ o662 (L_ o662) (L_ o498)) (N_ o299 (L_ o662) Z_))) (N_ o164 (N_ o142 (N_ o663 (L_ o350) (L_ o482)) (N_ o280 (L_ o663) (L_ o662))) (N_ o180 (N_ o248 (L_ o382) (L_ o662)) (N_ o315 (L_ o448) Z_)))))) (N_ W.boot_o_5 (N_ W.boot_o_9 (N_ o53 (N_ o69 (N_ o110 (N_ o662 (L_ o321) (L_ o454)) (N_ o254 (L_ o663) (L_ o520))) (N_ o151 (N_ o662 (L_ o356) (L_ o663)) (N_ o286 (L_ o662) (L_ o552)))) (N_ o91 (N_ o129 (N_ o202 (L_ o337) (L_ o470)) (N_ o270 (L_ o406) (L_ o536))) (N_ o170 (N_ o238 (L_ o372) (L_ o504)) (N_ o662 (L_ o438) Z_)))) (N_ o662 (N_ o80 (N_ o121 (N_ o194 (L_ o329) (L_ o462)) (N_ o262 (L_ o396) (L_ o662))) (N_ o159 (N_ o663 (L_ o364) (L_ o496)) (N_ o297 (L_ o663) Z_))) (N_ o99 (N_ o140 (N_ o210 (L_ o662) (L_ o662)) (N_ o662 (L_ o414) (L_ o544))) (N_ o178 (N_ o662 (L_ o662) (L_ o663)) (N_ o313 (L_ o662) Z_))))) (N_ o45 (N_ o57 (N_ o76 (N_ o114 (N_ o662 (L_ o325) (L_ o663)) (N_ o663 (L_ o392) (L_ o524))) (N_ o155 (N_ o224 (L_ o663) (L_ o492)) (N_ o290 (L_ o426) (L_ o662)))) (N_ o95 (N_ o136 (N_ o206 (L_ o341) (L_ o662)) (N_ o662 (L_ o410) (L_ o663))) (N_ o174 (N_ o242 (L_ o662) (L_ o508)) (N_ o662 (L_ o442) Z_)))) (N_ o662 (N_ o84 (N_ o125 (N_ o663 (L_ o662) (L_ o466)) (N_ o266 (L_ o663) (L_ o662))) (N_ o166 (N_ o232 (L_ o368) (L_ o500)) (N_ o301 (L_ o434) Z_))) (N_ o106 (N_ o144 (N_ o662 (L_ o662) (L_ o484)) (N_ o282 (L_ o662) (L_ o548))) (N_ o182 (N_ o662 (L_ o384) (L_ o516)) (N_ o663 (L_ o662) Z_))))))) (N_ W.boot_o_2 (N_ W.boot_o_4 (N_ W.boot_o_8 (N_ o663 (N_ o68 (N_ o109 (N_ o185 (L_ o320) (L_ o662)) (N_ o662 (L_ o662) (L_ o663))) (N_ o346 (N_ o219 (L_ o662) (L_ o662)) (N_ o662 (L_ o421) (L_ o551)))) (N_ o346 (N_ o128 (N_ o201 (L_ o336) (L_ o469)) (N_ o269 (L_ o405) (L_ o662))) (N_ o169 (N_ o346 (L_ o371) (L_ o503)) (N_ o304 (L_ o663) Z_)))) (N_ o60 (N_ o79 (N_ o346 (N_ o662 (L_ o328) (L_ o461)) (N_ o261 (L_ o395) (L_ o527))) (N_ o158 (N_ o662 (L_ o363) (L_ o663)) (N_ o346 (L_ o662) (L_ o559)))) (N_ o98 (N_ o139 (N_ o209 (L_ o347) (L_ o477)) (N_ o277 (L_ o413) (L_ o543))) (N_ o663 (N_ o245 (L_ o379) (L_ o662)) (N_ o662 (L_ o445) Z_))))) (N_ o479 (N_ o56 (N_ o346 (N_ o113 (N_ o189 (L_ o663) (L_ o662)) (N_ o662 (L_ o391) (L_ o523))) (N_ o154 (N_ o662 (L_ o662) (L_ o491)) (N_ o289 (L_ o662) (L_ o555)))) (N_ o94 (N_ o346 (N_ o663 (L_ o340) (L_ o473)) (N_ o273 (L_ o663) (L_ o662))) (N_ o173 (N_ o241 (L_ o375) (L_ o663)) (N_ o308 (L_ o441) Z_)))) (N_ o64 (N_ o83 (N_ o124 (N_ o662 (L_ o332) (L_ o663)) (N_ o663 (L_ o662) (L_ o531))) (N_ o346 (N_ o231 (L_ o663) (L_ o499)) (N_ o300 (L_ o433) Z_))) (N_ o346 (N_ o143 (N_ o215 (L_ o351) (L_ o662)) (N_ o662 (L_ o417) (L_ o663))) (N_ o181 (N_ o249 (L_ o662) (L_ o515)) (N_ o662 (L_ o449) Z_)))))) (N_ W.boot_o_6 (N_ W.boot_o_10 (N_ o662 (N_ o70 (N_ o662 (N_ o187 (L_ o322) (L_ o455)) (N_ o255 (L_ o389) (L_ o662))) (N_ o662 (N_ o663 (L_ o357) (L_ o489)) (N_ o344 (L_ o663) (L_ o662)))) (N_ o662 (N_ o130 (N_ o203 (L_ o338) (L_ o662)) (N_ o662 (L_ o407) (L_ o537))) (N_ o662 (N_ o662 (L_ o662) (L_ o505)) (N_ o306 (L_ o662) Z_)))) (N_ o663 (N_ o662 (N_ o662 (N_ o195 (L_ o662) (L_ o463)) (N_ o263 (L_ o397) (L_ o529))) (N_ o160 (N_ o229 (L_ o365) (L_ o662)) (N_ o662 (L_ o431) Z_))) (N_ o100 (N_ o662 (N_ o662 (L_ o349) (L_ o663)) (N_ o663 (L_ o662) (L_ o545))) (N_ o662 (N_ o247 (L_ o663) (L_ o513)) (N_ o314 (L_ o447) Z_))))) (N_ o46 (N_ o58 (N_ o662 (N_ o115 (N_ o663 (L_ o662) (L_ o459)) (N_ o259 (L_ o393) (L_ o662))) (N_ o662 (N_ o225 (L_ o361) (L_ o493)) (N_ o291 (L_ o427) (L_ o557)))) (N_ o662 (N_ o662 (N_ o662 (L_ o345) (L_ o475)) (N_ o275 (L_ o662) (L_ o541))) (N_ o175 (N_ o662 (L_ o377) (L_ o509)) (N_ o663 (L_ o662) Z_)))) (N_ o66 (N_ o85 (N_ o662 (N_ o199 (L_ o334) (L_ o662)) (N_ o662 (L_ o403) (L_ o663))) (N_ o662 (N_ o233 (L_ o662) (L_ o662)) (N_ o662 (L_ o435) Z_))) (N_ o662 (N_ o145 (N_ o217 (L_ o663) (L_ o485)) (N_ o283 (L_ o419) (L_ o662))) (N_ o662 (N_ o663 (L_ o385) (L_ o517)) (N_ o318 (L_ o663) Z_)))))))
def h_sts_234 : (@List @Stmt) := [My.top 21, My.top 22, My.top 23, My.top 24, My.top 25, My.top 26, My.top 27, My.top 28, My.top 29, My.top 30, My.top 31, My.top 32, My.top 33, My.top 34, My.top 35, My.top 36, My.top 37, My.top 38, My.top 39, My.top 40, My.top 41, My.top 42, My.top 43, My.top 44, My.top 45, My.top 46, My.top 47, My.top 48, My.top 49, My.top 50]
def h_tree_233 := N_ W.boot_o_0 (N_ W.boot_o_1 (N_ o211 (N_ W.boot_o_7 (N_ o662 (N_ o163 (N_ o663 (L_ o663) Z_) (N_ o164 (L_ o218) Z_)) (N_ o164 (N_ o127 (L_ o662) Z_) (L_ o663))) (N_ o346 (N_ o663 (N_ o164 (L_ o192) Z_) (N_ o157 (L_ o226) Z_)) (N_ o97 (N_ o663 (L_ o208) Z_) (L_ o662)))) (N_ o662 (N_ o55 (N_ o164 (N_ o112 (L_ o188) Z_) (N_ o663 (L_ o222) Z_)) (N_ o663 (N_ o164 (L_ o662) Z_) (L_ o172))) (N_ o63 (N_ o82 (N_ o663 (L_ o196) Z_) (N_ o164 (L_ o662) Z_)) (N_ o164 (N_ o142 (L_ o663) Z_) (L_ o180))))) (N_ W.boot_o_5 (N_ W.boot_o_9 (N_ o53 (N_ o69 (N_ o110 (L_ o662) Z_) (N_ o151 (L_ o662) Z_)) (N_ o91 (N_ o129 (L_ o202) Z_) (L_ o170))) (N_ o662 (N_ o80 (N_ o121 (L_ o194) Z_) (N_ o159 (L_ o663) Z_)) (N_ o99 (N_ o140 (L_ o210) Z_) (L_ o178)))) (N_ o45 (N_ o57 (N_ o76 (N_ o114 (L_ o662) Z_) (N_ o155 (L_ o224) Z_)) (N_ o95 (N_ o136 (L_ o206) Z_) (L_ o174))) (N_ o662 (N_ o84 (N_ o125 (L_ o663) Z_) (N_ o166 (L_ o232) Z_)) (N_ o106 (N_ o144 (L_ o662) Z_) (L_ o182)))))) (N_ W.boot_o_2 (N_ W.boot_o_4 (N_ W.boot_o_8 (N_ o663 (N_ o68 (N_ o109 (L_ o185) Z_) (N_ o346 (L_ o219) Z_)) (N_ o346 (N_ o128 (L_ o201) Z_) (L_ o169))) (N_ o60 (N_ o79 (N_ o346 (L_ o662) Z_) (N_ o158 (L_ o662) Z_)) (N_ o98 (N_ o139 (L_ o209) Z_) (L_ o663)))) (N_ o212 (N_ o56 (N_ o346 (N_ o113 (L_ o189) Z_) (N_ o154 (L_ o662) Z_)) (N_ o94 (N_ o346 (L_ o663) Z_) (L_ o173))) (N_ o64 (N_ o83 (N_ o124 (L_ o662) Z_) (N_ o346 (L_ o231) Z_)) (N_ o346 (N_ o143 (L_ o215) Z_) (L_ o181))))) (N_ W.boot_o_6 (N_ W.boot_o_10 (N_ o662 (N_ o70 (N_ o662 (L_ o187) Z_) Y1) (N_ o662 (N_ o130 (L_ o203) Z_) (L_ o662))) (N_ o663 (N_ o662 (N_ o662 (L_ o195) Z_) (N_ o160 (L_ o229) Z_)) (N_ o100 Y2 (L_ o662)))) (N_ o46 (N_ o58 (N_ o662 (N_ o115 (L_ o663) Z_) (N_ o662 (L_ o225) Z_)) (N_ o662 Y2 (L_ o175))) (N_ o66 (N_ o85 (N_ o662 (L_ o199) Z_) (N_ o662 (L_ o233) Z_)) (N_ o662 (N_ o145 (L_ o217) Z_) (L_ o662))))))
def h_sts_49 : (@List @Stmt) := [My.top 0, My.top 1, My.top 2, My.top 3, My.top 4, My.top 5, My.top 6, My.top 7, My.top 8, My.top 9, My.top 10, My.top 11, My.top 12, My.top 13, My.top 14, My.top 15, My.top 16, My.top 17, My.top 18, My.top 19, My.top 20]
def h_tree_47 := N_ W.boot_o_0 (N_ W.boot_o_1 (N_ W.boot_o_3 (L_ W.boot_o_7) (L_ o662)) (N_ W.boot_o_5 (L_ W.boot_o_9) (L_ o45))) (N_ W.boot_o_2 (N_ W.boot_o_4 (L_ W.boot_o_8) (L_ o663)) (N_ W.boot_o_6 (L_ W.boot_o_10) (L_ o46)))
def h_heap_46 : ((x : @Params) → @Heap) := (fun x => (@Heap.mk (@Array.mk @Obj [(@W.boot_o_0 x), (@W.boot_o_1 x), (@W.boot_o_2 x), (@W.boot_o_3 x), (@W.boot_o_4 x), (@W.boot_o_5 x), (@W.boot_o_6 x), (@W.boot_o_7 x), (@W.boot_o_8 x), (@W.boot_o_9 x), (@W.boot_o_10 x), (o662 x), (o663 x), (o45 x), (o46 x)]) (@Life.mk [] [] [] 0 (@List.nil (@Prod @Nat @Nat)) [] @Bool.false #[] [] 0 @Bool.false @Bool.false @Bool.false (0 : Int) [(2000 : Int), (10 : Int), (10 : Int)] @Bool.false 0 @Bool.true [] [] 0 @Bool.false)))
abbrev k3 := (@Life.mk [] [] [] 0 (@List.nil (@Prod @Nat @Nat)) [] @Bool.false #[] [] 0 @Bool.false @Bool.false @Bool.false (0 : Int) [(2000 : Int), (10 : Int), (10 : Int)] @Bool.false 0 @Bool.true [] [] 0 @Bool.false)
abbrev S_ (t : Params → W.BT) (n k : Nat) (w : World) (o : OsState) : W.SharedT := W.SharedT.mk (t w.params) n k3 g_ d_ k o
abbrev k0 (x0 : World) (x1 : OsState) := (@Shared.mk (@h_heap_667 x0.params) g_ d_ 990 x1)
abbrev k1 := (@W.OpenRow.toRowW (@W.OpenLaw.row @Challenge.rw_oddbases_k66_whole_falling_sums))
abbrev k2 := (@Prod (@Prod (@List (@Option @FnShape)) @Bool) (@Prod (@List (@Option @PyProof.Rows.PlainShape)) (@Prod (@List (@Option (@Prod @PyProof.Rows.PlainShape @Bool))) (@Prod (@Prod (@List (@Option @FnShape)) @Bool) (@List (@Prod (@Option (@Prod (@List (@Option @FnShape)) @Bool)) (@Option (@Prod @PyProof.Rows.PlainShape @Bool))))))))
abbrev k4 (x0 : World) (x1 : OsState) := (@ite @Bool (@Eq @Bool @Bool.true @Bool.true) (@instDecidableEqBool @Bool.true @Bool.true) (@BEq.beq @Nat (@instBEqOfDecidableEq @Nat @instDecidableEqNat) (@Array.size @GenState (@Shared.gens (k0 x0 x1))) 0) (@Bool.not (@leftWithCleanup (@Shared.gens (k0 x0 x1)))))
abbrev k5 := (@Bool.true, ((@pinGoodD (@PyProof.Rows.drecsOf @h_view_39)), ((@PyProof.Rows.plainGoodE @h_view_39 (@W.looseW @h_view_39 [])), ((@PyProof.Rows.plainGoodD @h_view_39 []), ((@W.wideGood @h_view_39), (@W.clsGoodW @h_view_39 []))))))
abbrev k6 := (@List (@Prod (@Option (@Prod (@List (@Option @FnShape)) @Bool)) (@Option (@Prod @PyProof.Rows.PlainShape @Bool))))
abbrev k7 (x0 : World) (x1 : OsState) := (@Bool.and (@Bool.and (@Bool.and (@W.staticsOk (@importedModules (@Module.body (@Program.main (k1).1))) (@W.boot_heap x0.params) (@h_heap_667 x0.params)) (@W.namesBound (k1).1 (@h_heap_667 x0.params))) (@W.gensDone (k0 x0 x1))) (@W.laidKept (@W.boot_heap x0.params) (@h_heap_667 x0.params)))
abbrev k8 := (@Code.body (@W.behindTheImports (k1).1) @h_env_41)
abbrev k9 := (@Prod (@Prod (@Option @Str) (@List (@Prod @Str @Value))) (@Prod @Bool (@Prod @Bool k2)))
abbrev k10 (x0 : World) (x1 : OsState) := (@PyProof.Rows.plainSeenE @h_view_39 (@W.looseW @h_view_39 []) (k0 x0 x1))
abbrev k11 := (@Eq.refl (@List @Addr) My.myAs)
abbrev k12 := (@importedModules (@Module.body (@Program.main (k1).1)))
abbrev k13 (x0 : World) (x1 : OsState) := (@pinSeenD @h_view_39 (@PyProof.Rows.drecsOf @h_view_39) (k0 x0 x1))
abbrev k14 (x0 : World) (x1 : OsState) := (@PyProof.Rows.plainSeenD @h_view_39 [] (k0 x0 x1))
abbrev k15 := (@Prod (@List (@Option @FnShape)) @Bool)
abbrev k16 (x0 : World) (x1 : OsState) := (@W.clsSeenW @h_view_39 [] (k0 x0 x1))
abbrev k17 := (@List.nil (@Prod @Str @W.WData))
abbrev k18 (x0 : World) (x1 : OsState) := (@W.wideSeen @h_view_39 (k0 x0 x1))
abbrev k19 := (@List (@Option (@Prod @PyProof.Rows.PlainShape @Bool)))
abbrev k20 := (@PyProof.Rows.plainGoodE @h_view_39 (@W.looseW @h_view_39 []))
abbrev k21 (x0 : World) (x1 : OsState) := (S_ h_tree_233 175 398 x0 x1)
abbrev k22 (x0 : World) (x1 : OsState) := (S_ h_tree_559 489 825 x0 x1)
abbrev k23 := (@PyProof.Rows.clssOf @h_view_39 (@W.looseW @h_view_39 []))
abbrev k24 := (@Nat.add 12 (@Nat.add 1 (@Nat.add 1993 (@Nat.add 1931 (@Nat.add 509 2)))))
abbrev k25 (x0 : World) (x1 : OsState) := (S_ h_tree_47 15 187 x0 x1)
abbrev k26 := (@Prod @Flow (@Prod @W.SharedT (@Prod @Code @Pos)))
abbrev k27 (x0 : World) (x1 : OsState) := (@Shared.mk (@h_heap_46 x0.params) g_ d_ 187 x1)
abbrev k28 (x0 : World) (x1 : OsState) := (@PyProof.Rows.tablesOk @h_view_39 (@Shared.heap (k0 x0 x1)))
abbrev k29 (x0 : World) (x1 : OsState) := (@PyProof.Rows.tabsOk @h_view_39 (k0 x0 x1))
abbrev k30 := (@PyProof.Rows.plainGoodD @h_view_39 [])
abbrev k31 (x0 : World) (x1 : OsState) := (@Heap.accountedOkI (@Shared.heap (k0 x0 x1)) k12)
abbrev k32 (x0 : World) (x1 : OsState) := (S_ h_tree_666 592 990 x0 x1)
abbrev k33 (x0 : World) (x1 : OsState) := (@Heap.isNs (@Shared.heap (k0 x0 x1)) @mainGlobals)
abbrev k34 (x0 : World) (x1 : OsState) := (@Heap.isNs (@Shared.heap (k0 x0 x1)) @builtinsNs)
abbrev k35 (x0 : World) (x1 : OsState) := (@Shared.mk (@W.boot_heap x0.params) g_ @W.boot_drawn @W.boot_toks x1)
abbrev k36 := (@Thread.mk (@denote @treeTable k8) k8 (P_ 0 0 0 0) [(@W.topFrame (P_ 0 0 0 0))])
abbrev k37 := (@Prod @Flow (@Prod @Shared (@Prod @Code @Pos)))
abbrev kh0 := (@W.kHook @h_heap_39 My.myAs (fun x0 => (@id (@Eq (@List @Addr) My.myAs (@List.map (@Prod @Addr @Obj) @Addr (fun (x1 : (@Prod @Addr @Obj)) => (@Prod.fst @Addr @Obj x1)) (@h_heap_39 x0))) k11)))
theorem pf_702 : ((x0 : World) → (@Eq ((x1 : OsState) → (@W.Hook.α kh0)) (fun x1 => (@W.Hook.obs kh0 (k0 x0 x1))) (fun x1 => (@W.Hook.val kh0 x0)))) := by intros; kernel_rfl
theorem pf_692 : ((x0 : World) → (@Eq ((x1 : OsState) → k6) (fun x1 => (k16 x0 x1)) (fun x1 => (@W.clsGoodW @h_view_39 [])))) := by intros; kernel_rfl
theorem pf_690 : ((x0 : World) → (@Eq ((x1 : OsState) → k15) (fun x1 => (k18 x0 x1)) (fun x1 => (@W.wideGood @h_view_39)))) := by intros; kernel_rfl
theorem pf_693 : ((x0 : World) → ((x1 : OsState) → (@Eq (@Prod k15 k6) ((k18 x0 x1), (k16 x0 x1)) ((@W.wideGood @h_view_39), (@W.clsGoodW @h_view_39 []))))) := (fun x0 => (fun x1 => (@W.looks_pair k15 k6 (k18 x0 x1) (@W.wideGood @h_view_39) (k16 x0 x1) (@W.clsGoodW @h_view_39 []) ((fun x2 => (fun x3 => (congrFun (My.pf_690 x2) x3))) x0 x1) ((fun x2 => (fun x3 => (congrFun (My.pf_692 x2) x3))) x0 x1))))
theorem pf_688 : ((x0 : World) → (@Eq ((x1 : OsState) → k19) (fun x1 => (k14 x0 x1)) (fun x1 => k30))) := by intros; kernel_rfl
theorem pf_694 : ((x0 : World) → ((x1 : OsState) → (@Eq (@Prod k19 (@Prod k15 k6)) ((k14 x0 x1), ((k18 x0 x1), (k16 x0 x1))) (k30, ((@W.wideGood @h_view_39), (@W.clsGoodW @h_view_39 [])))))) := (fun x0 => (fun x1 => (@W.looks_pair k19 (@Prod k15 k6) (k14 x0 x1) k30 ((k18 x0 x1), (k16 x0 x1)) ((@W.wideGood @h_view_39), (@W.clsGoodW @h_view_39 [])) ((fun x2 => (fun x3 => (congrFun (My.pf_688 x2) x3))) x0 x1) (@My.pf_693 x0 x1))))
theorem pf_686 : ((x0 : World) → (@Eq ((x1 : OsState) → (@List (@Option @PyProof.Rows.PlainShape))) (fun x1 => (k10 x0 x1)) (fun x1 => k20))) := by intros; kernel_rfl
theorem pf_695 : ((x0 : World) → ((x1 : OsState) → (@Eq (@Prod (@List (@Option @PyProof.Rows.PlainShape)) (@Prod k19 (@Prod k15 k6))) ((k10 x0 x1), ((k14 x0 x1), ((k18 x0 x1), (k16 x0 x1)))) (k20, (k30, ((@W.wideGood @h_view_39), (@W.clsGoodW @h_view_39 []))))))) := (fun x0 => (fun x1 => (@W.looks_pair (@List (@Option @PyProof.Rows.PlainShape)) (@Prod k19 (@Prod k15 k6)) (k10 x0 x1) k20 ((k14 x0 x1), ((k18 x0 x1), (k16 x0 x1))) (k30, ((@W.wideGood @h_view_39), (@W.clsGoodW @h_view_39 []))) ((fun x2 => (fun x3 => (congrFun (My.pf_686 x2) x3))) x0 x1) (@My.pf_694 x0 x1))))
theorem pf_684 : ((x0 : World) → (@Eq ((x1 : OsState) → k15) (fun x1 => (k13 x0 x1)) (fun x1 => (@pinGoodD (@PyProof.Rows.drecsOf @h_view_39))))) := by intros; kernel_rfl
theorem pf_696 : ((x0 : World) → ((x1 : OsState) → (@Eq k2 ((k13 x0 x1), ((k10 x0 x1), ((k14 x0 x1), ((k18 x0 x1), (k16 x0 x1))))) ((@pinGoodD (@PyProof.Rows.drecsOf @h_view_39)), (k20, (k30, ((@W.wideGood @h_view_39), (@W.clsGoodW @h_view_39 [])))))))) := (fun x0 => (fun x1 => (@W.looks_pair k15 (@Prod (@List (@Option @PyProof.Rows.PlainShape)) (@Prod k19 (@Prod k15 k6))) (k13 x0 x1) (@pinGoodD (@PyProof.Rows.drecsOf @h_view_39)) ((k10 x0 x1), ((k14 x0 x1), ((k18 x0 x1), (k16 x0 x1)))) (k20, (k30, ((@W.wideGood @h_view_39), (@W.clsGoodW @h_view_39 [])))) ((fun x2 => (fun x3 => (congrFun (My.pf_684 x2) x3))) x0 x1) (@My.pf_695 x0 x1))))
theorem pf_682 : ((x0 : World) → (@Eq ((x1 : OsState) → @Bool) (fun x1 => (k29 x0 x1)) (fun x1 => @Bool.true))) := by intros; kernel_rfl
theorem pf_697 : ((x0 : World) → ((x1 : OsState) → (@Eq (@Prod @Bool k2) ((k29 x0 x1), ((k13 x0 x1), ((k10 x0 x1), ((k14 x0 x1), ((k18 x0 x1), (k16 x0 x1)))))) k5))) := (fun x0 => (fun x1 => (@W.looks_pair @Bool k2 (k29 x0 x1) @Bool.true ((k13 x0 x1), ((k10 x0 x1), ((k14 x0 x1), ((k18 x0 x1), (k16 x0 x1))))) ((@pinGoodD (@PyProof.Rows.drecsOf @h_view_39)), (k20, (k30, ((@W.wideGood @h_view_39), (@W.clsGoodW @h_view_39 []))))) ((fun x2 => (fun x3 => (congrFun (My.pf_682 x2) x3))) x0 x1) (@My.pf_696 x0 x1))))
theorem pf_680 : ((x0 : World) → (@Eq ((x1 : OsState) → @Bool) (fun x1 => (@Bool.and (@Bool.and (@Bool.and (@Bool.and (@Bool.and (@Bool.and (@Heap.keysOk (@Shared.heap (k0 x0 x1)) (@W.looseW @h_view_39 []) (@List.map @DefRec @Str (fun (x2 : @DefRec) => (@DefRec.name x2)) (@PyProof.Rows.recsOf @h_view_39)) (@List.map (@Prod @Str @PyData) @Str (fun (x2 : (@Prod @Str @PyData)) => (@Prod.fst @Str @PyData x2)) (@PyProof.Rows.litsOf @h_view_39)) (@List.map @ClsRec @Str (fun (x2 : @ClsRec) => (@ClsRec.name x2)) k23)) (k31 x0 x1)) (k33 x0 x1)) (k34 x0 x1)) (k28 x0 x1)) ((fun (x2 : @Shared) => (@Bool.and (@W.xlAt @h_view_39 k17 x2) (@W.recOk (@W.RowW.records k1) x2))) (k0 x0 x1))) (k4 x0 x1))) (fun x1 => @Bool.true))) := by intros; kernel_rfl
theorem pf_698 : ((x0 : World) → ((x1 : OsState) → (@Eq (@Prod @Bool (@Prod @Bool k2)) ((@Bool.and (@Bool.and (@Bool.and (@Bool.and (@Bool.and (@Bool.and (@Heap.keysOk (@Shared.heap (k0 x0 x1)) (@W.looseW @h_view_39 []) (@List.map @DefRec @Str (fun (x2 : @DefRec) => (@DefRec.name x2)) (@PyProof.Rows.recsOf @h_view_39)) (@List.map (@Prod @Str @PyData) @Str (fun (x2 : (@Prod @Str @PyData)) => (@Prod.fst @Str @PyData x2)) (@PyProof.Rows.litsOf @h_view_39)) (@List.map @ClsRec @Str (fun (x2 : @ClsRec) => (@ClsRec.name x2)) k23)) (k31 x0 x1)) (k33 x0 x1)) (k34 x0 x1)) (k28 x0 x1)) ((fun (x2 : @Shared) => (@Bool.and (@W.xlAt @h_view_39 k17 x2) (@W.recOk (@W.RowW.records k1) x2))) (k0 x0 x1))) (k4 x0 x1)), ((k29 x0 x1), ((k13 x0 x1), ((k10 x0 x1), ((k14 x0 x1), ((k18 x0 x1), (k16 x0 x1))))))) (@Bool.true, k5)))) := (fun x0 => (fun x1 => (@W.looks_pair @Bool (@Prod @Bool k2) (@Bool.and (@Bool.and (@Bool.and (@Bool.and (@Bool.and (@Bool.and (@Heap.keysOk (@Shared.heap (k0 x0 x1)) (@W.looseW @h_view_39 []) (@List.map @DefRec @Str (fun (x2 : @DefRec) => (@DefRec.name x2)) (@PyProof.Rows.recsOf @h_view_39)) (@List.map (@Prod @Str @PyData) @Str (fun (x2 : (@Prod @Str @PyData)) => (@Prod.fst @Str @PyData x2)) (@PyProof.Rows.litsOf @h_view_39)) (@List.map @ClsRec @Str (fun (x2 : @ClsRec) => (@ClsRec.name x2)) k23)) (k31 x0 x1)) (k33 x0 x1)) (k34 x0 x1)) (k28 x0 x1)) ((fun (x2 : @Shared) => (@Bool.and (@W.xlAt @h_view_39 k17 x2) (@W.recOk (@W.RowW.records k1) x2))) (k0 x0 x1))) (k4 x0 x1)) @Bool.true ((k29 x0 x1), ((k13 x0 x1), ((k10 x0 x1), ((k14 x0 x1), ((k18 x0 x1), (k16 x0 x1)))))) k5 ((fun x2 => (fun x3 => (congrFun (My.pf_680 x2) x3))) x0 x1) (@My.pf_697 x0 x1))))
theorem pf_678 : ((x0 : World) → (@Eq ((x1 : OsState) → (@Prod (@Option @Str) (@List (@Prod @Str @Value)))) (fun x1 => (@Heap.bltView (@Shared.heap (k0 x0 x1)))) (fun x1 => @bltViewBooted))) := by intros; kernel_rfl
theorem pf_699 : ((x0 : World) → ((x1 : OsState) → (@Eq k9 ((@Heap.bltView (@Shared.heap (k0 x0 x1))), ((@Bool.and (@Bool.and (@Bool.and (@Bool.and (@Bool.and (@Bool.and (@Heap.keysOk (@Shared.heap (k0 x0 x1)) (@W.looseW @h_view_39 []) (@List.map @DefRec @Str (fun (x2 : @DefRec) => (@DefRec.name x2)) (@PyProof.Rows.recsOf @h_view_39)) (@List.map (@Prod @Str @PyData) @Str (fun (x2 : (@Prod @Str @PyData)) => (@Prod.fst @Str @PyData x2)) (@PyProof.Rows.litsOf @h_view_39)) (@List.map @ClsRec @Str (fun (x2 : @ClsRec) => (@ClsRec.name x2)) k23)) (k31 x0 x1)) (k33 x0 x1)) (k34 x0 x1)) (k28 x0 x1)) ((fun (x2 : @Shared) => (@Bool.and (@W.xlAt @h_view_39 k17 x2) (@W.recOk (@W.RowW.records k1) x2))) (k0 x0 x1))) (k4 x0 x1)), ((k29 x0 x1), ((k13 x0 x1), ((k10 x0 x1), ((k14 x0 x1), ((k18 x0 x1), (k16 x0 x1)))))))) (@bltViewBooted, (@Bool.true, k5))))) := (fun x0 => (fun x1 => (@W.looks_pair (@Prod (@Option @Str) (@List (@Prod @Str @Value))) (@Prod @Bool (@Prod @Bool k2)) (@Heap.bltView (@Shared.heap (k0 x0 x1))) @bltViewBooted ((@Bool.and (@Bool.and (@Bool.and (@Bool.and (@Bool.and (@Bool.and (@Heap.keysOk (@Shared.heap (k0 x0 x1)) (@W.looseW @h_view_39 []) (@List.map @DefRec @Str (fun (x2 : @DefRec) => (@DefRec.name x2)) (@PyProof.Rows.recsOf @h_view_39)) (@List.map (@Prod @Str @PyData) @Str (fun (x2 : (@Prod @Str @PyData)) => (@Prod.fst @Str @PyData x2)) (@PyProof.Rows.litsOf @h_view_39)) (@List.map @ClsRec @Str (fun (x2 : @ClsRec) => (@ClsRec.name x2)) k23)) (k31 x0 x1)) (k33 x0 x1)) (k34 x0 x1)) (k28 x0 x1)) ((fun (x2 : @Shared) => (@Bool.and (@W.xlAt @h_view_39 k17 x2) (@W.recOk (@W.RowW.records k1) x2))) (k0 x0 x1))) (k4 x0 x1)), ((k29 x0 x1), ((k13 x0 x1), ((k10 x0 x1), ((k14 x0 x1), ((k18 x0 x1), (k16 x0 x1))))))) (@Bool.true, k5) ((fun x2 => (fun x3 => (congrFun (My.pf_678 x2) x3))) x0 x1) (@My.pf_698 x0 x1))))
theorem pf_676 : ((x0 : World) → (@Eq ((x1 : OsState) → @PyProof.Rows.Seen) (fun x1 => (@PyProof.Rows.seen (@List.map @DefRec @Str (fun (x2 : @DefRec) => (@DefRec.name x2)) (@PyProof.Rows.recsOf @h_view_39)) (@PyProof.Rows.ownsOf @h_view_39) [] (@Shared.mk (@Shared.heap (k0 x0 x1)) #[] (@Shared.drawn (k0 x0 x1)) (@Shared.toks (k0 x0 x1)) (@Shared.os (k0 x0 x1))))) (fun x1 => (@PyProof.Rows.expectedOf @h_view_39)))) := by intros; kernel_rfl
theorem pf_700 : ((x0 : World) → ((x1 : OsState) → (@Eq (@Prod @PyProof.Rows.Seen k9) (@W.openSeen @h_view_39 [] k12 (fun (x2 : @Shared) => (@Bool.and (@W.xlAt @h_view_39 k17 x2) (@W.recOk (@W.RowW.records k1) x2))) @Bool.true (k0 x0 x1)) (@W.openGood @h_view_39 [])))) := (fun x0 => (fun x1 => (@W.looks_pair @PyProof.Rows.Seen k9 (@PyProof.Rows.seen (@List.map @DefRec @Str (fun (x2 : @DefRec) => (@DefRec.name x2)) (@PyProof.Rows.recsOf @h_view_39)) (@PyProof.Rows.ownsOf @h_view_39) [] (@Shared.mk (@Shared.heap (k0 x0 x1)) #[] (@Shared.drawn (k0 x0 x1)) (@Shared.toks (k0 x0 x1)) (@Shared.os (k0 x0 x1)))) (@PyProof.Rows.expectedOf @h_view_39) ((@Heap.bltView (@Shared.heap (k0 x0 x1))), ((@Bool.and (@Bool.and (@Bool.and (@Bool.and (@Bool.and (@Bool.and (@Heap.keysOk (@Shared.heap (k0 x0 x1)) (@W.looseW @h_view_39 []) (@List.map @DefRec @Str (fun (x2 : @DefRec) => (@DefRec.name x2)) (@PyProof.Rows.recsOf @h_view_39)) (@List.map (@Prod @Str @PyData) @Str (fun (x2 : (@Prod @Str @PyData)) => (@Prod.fst @Str @PyData x2)) (@PyProof.Rows.litsOf @h_view_39)) (@List.map @ClsRec @Str (fun (x2 : @ClsRec) => (@ClsRec.name x2)) k23)) (k31 x0 x1)) (k33 x0 x1)) (k34 x0 x1)) (k28 x0 x1)) ((fun (x2 : @Shared) => (@Bool.and (@W.xlAt @h_view_39 k17 x2) (@W.recOk (@W.RowW.records k1) x2))) (k0 x0 x1))) (k4 x0 x1)), ((k29 x0 x1), ((k13 x0 x1), ((k10 x0 x1), ((k14 x0 x1), ((k18 x0 x1), (k16 x0 x1)))))))) (@bltViewBooted, (@Bool.true, k5)) ((fun x2 => (fun x3 => (congrFun (My.pf_676 x2) x3))) x0 x1) (@My.pf_699 x0 x1))))
theorem pf_703 : ((x0 : World) → ((x1 : OsState) → (@Eq (@Prod (@Prod @PyProof.Rows.Seen k9) (@W.Hook.α kh0)) ((@W.openSeen @h_view_39 [] k12 (fun (x2 : @Shared) => (@Bool.and (@W.xlAt @h_view_39 k17 x2) (@W.recOk (@W.RowW.records k1) x2))) @Bool.true (k0 x0 x1)), (@W.Hook.obs kh0 (k0 x0 x1))) ((@W.openGood @h_view_39 []), (@W.Hook.val kh0 x0))))) := (fun x0 => (fun x1 => (@W.looks_pair (@Prod @PyProof.Rows.Seen k9) (@W.Hook.α kh0) (@W.openSeen @h_view_39 [] k12 (fun (x2 : @Shared) => (@Bool.and (@W.xlAt @h_view_39 k17 x2) (@W.recOk (@W.RowW.records k1) x2))) @Bool.true (k0 x0 x1)) (@W.openGood @h_view_39 []) (@W.Hook.obs kh0 (k0 x0 x1)) (@W.Hook.val kh0 x0) (@My.pf_700 x0 x1) ((fun x2 => (fun x3 => (congrFun (My.pf_702 x2) x3))) x0 x1))))
theorem pf_674 : ((x0 : World) → (@Eq ((x1 : OsState) → @Bool) (fun x1 => (k7 x0 x1)) (fun x1 => @Bool.true))) := by intros; kernel_rfl
theorem pf_704 : ((x0 : World) → ((x1 : OsState) → (@Eq (@Prod @Bool (@Prod (@Prod @PyProof.Rows.Seen k9) (@W.Hook.α kh0))) ((k7 x0 x1), ((@W.openSeen @h_view_39 [] k12 (fun (x2 : @Shared) => (@Bool.and (@W.xlAt @h_view_39 k17 x2) (@W.recOk (@W.RowW.records k1) x2))) @Bool.true (k0 x0 x1)), (@W.Hook.obs kh0 (k0 x0 x1)))) (@Bool.true, ((@W.openGood @h_view_39 []), (@W.Hook.val kh0 x0)))))) := (fun x0 => (fun x1 => (@W.looks_pair @Bool (@Prod (@Prod @PyProof.Rows.Seen k9) (@W.Hook.α kh0)) (k7 x0 x1) @Bool.true ((@W.openSeen @h_view_39 [] k12 (fun (x2 : @Shared) => (@Bool.and (@W.xlAt @h_view_39 k17 x2) (@W.recOk (@W.RowW.records k1) x2))) @Bool.true (k0 x0 x1)), (@W.Hook.obs kh0 (k0 x0 x1))) ((@W.openGood @h_view_39 []), (@W.Hook.val kh0 x0)) ((fun x2 => (fun x3 => (congrFun (My.pf_674 x2) x3))) x0 x1) (@My.pf_703 x0 x1))))
theorem pf_669 : ((x0 : World) → (@Eq ((x1 : OsState) → (@Option @Shared)) (fun x1 => (@W.topRun @treeTable (k1).1 x0 11 v_ 2 (@W.SharedT.abs (k32 x0 x1)) (@Thread.mk (@W.doneF @Flow.next) k8 (P_ 370 0 389 120) [(@W.topFrame (P_ 0 0 0 0))]))) (fun x1 => (@some @Shared (k0 x0 x1))))) := by intros; kernel_rfl
theorem pf_49 : ((x0 : World) → (@Eq ((x1 : OsState) → (@Option k37)) (fun x1 => (@W.segRun @treeTable (k1).1 x0 11 v_ 1 1 (k27 x0 x1) (@W.blockOf (@W.behindTheImports (k1).1) @h_env_41 k8 (P_ 0 0 0 0) [(@W.topFrame (P_ 0 0 0 0))]))) (fun x1 => (@some k37 (@Flow.next, ((@W.SharedT.abs (k25 x0 x1)), (k8, (P_ 0 0 0 0)))))))) := by intros; kernel_rfl
theorem pf_47 : ((x0 : World) → (@Eq ((x1 : OsState) → (@Option (@Prod @Shared @Thread))) (fun x1 => (@W.topGo @treeTable (k1).1 x0 11 v_ 12 (k35 x0 x1) (@W.topStub (k1).1))) (fun x1 => (@some (@Prod @Shared @Thread) ((k27 x0 x1), k36))))) := by intros; kernel_rfl
theorem pf_234 : ((x0 : World) → (@Eq ((x1 : OsState) → (@Option k26)) (fun x1 => (@W.segRunT @treeTable (k1).1 x0 11 v_ 1 1993 (k25 x0 x1) (@W.piecesOf @h_sts_49 @h_env_41 k8 (P_ 0 0 0 0) [(@W.topFrame (P_ 0 0 0 0))]))) (fun x1 => (@some k26 (@Flow.next, ((k21 x0 x1), (k8, (P_ 53 0 56 17)))))))) := by intros; kernel_rfl
theorem pf_560 : ((x0 : World) → (@Eq ((x1 : OsState) → (@Option k26)) (fun x1 => (@W.segRunT @treeTable (k1).1 x0 11 v_ 1 1931 (k21 x0 x1) (@W.piecesOf @h_sts_234 @h_env_41 k8 (P_ 53 0 56 17) [(@W.topFrame (P_ 0 0 0 0))]))) (fun x1 => (@some k26 (@Flow.next, ((k22 x0 x1), (k8, (P_ 254 0 259 39)))))))) := by intros; kernel_rfl
theorem pf_667 : ((x0 : World) → (@Eq ((x1 : OsState) → (@Option k26)) (fun x1 => (@W.segRunT @treeTable (k1).1 x0 11 v_ 1 509 (k22 x0 x1) (@W.piecesOf @h_sts_560 @h_env_41 k8 (P_ 254 0 259 39) [(@W.topFrame (P_ 0 0 0 0))]))) (fun x1 => (@some k26 (@Flow.next, ((k32 x0 x1), (k8, (P_ 370 0 389 120)))))))) := by intros; kernel_rfl
theorem pf_670 : ((x0 : World) → ((x1 : OsState) → (@Eq (@Option @Shared) (@W.topRun @treeTable (k1).1 x0 11 v_ k24 (k35 x0 x1) (@W.topStub (k1).1)) (@some @Shared (k0 x0 x1))))) := (fun x0 => (fun x1 => (@W.go_top @treeTable (k1).1 x0 11 v_ 12 (@Nat.add 1 (@Nat.add 1993 (@Nat.add 1931 (@Nat.add 509 2)))) (k35 x0 x1) (k27 x0 x1) (k0 x0 x1) (@W.topStub (k1).1) k36 (congrFun (My.pf_47 x0) x1) (@W.piece_block @treeTable (k1).1 x0 11 v_ @h_env_41 (P_ 0 0 0 0) 1 (@Nat.add 1993 (@Nat.add 1931 (@Nat.add 509 2))) (k27 x0 x1) (@W.SharedT.abs (k25 x0 x1)) (k0 x0 x1) (@W.behindTheImports (k1).1) k8 (P_ 0 0 0 0) (P_ 0 0 0 0) (congrFun (My.pf_49 x0) x1) (@W.piece_app @treeTable (k1).1 x0 11 v_ @h_env_41 (P_ 0 0 0 0) 1993 (@Nat.add 1931 (@Nat.add 509 2)) (@W.SharedT.abs (k25 x0 x1)) (@W.SharedT.abs (k21 x0 x1)) (k0 x0 x1) @h_sts_49 (@HAppend.hAppend (@List @Stmt) (@List @Stmt) (@List @Stmt) (@instHAppendOfAppend (@List @Stmt) (@List.instAppend @Stmt)) @h_sts_234 (@HAppend.hAppend (@List @Stmt) (@List @Stmt) (@List @Stmt) (@instHAppendOfAppend (@List @Stmt) (@List.instAppend @Stmt)) @h_sts_560 [])) k8 (P_ 0 0 0 0) (P_ 53 0 56 17) (My.sg_ (congrFun (My.pf_234 x0) x1)) (@W.piece_app @treeTable (k1).1 x0 11 v_ @h_env_41 (P_ 0 0 0 0) 1931 (@Nat.add 509 2) (@W.SharedT.abs (k21 x0 x1)) (@W.SharedT.abs (k22 x0 x1)) (k0 x0 x1) @h_sts_234 (@HAppend.hAppend (@List @Stmt) (@List @Stmt) (@List @Stmt) (@instHAppendOfAppend (@List @Stmt) (@List.instAppend @Stmt)) @h_sts_560 []) k8 (P_ 53 0 56 17) (P_ 254 0 259 39) (My.sg_ (congrFun (My.pf_560 x0) x1)) (@W.piece_app @treeTable (k1).1 x0 11 v_ @h_env_41 (P_ 0 0 0 0) 509 2 (@W.SharedT.abs (k22 x0 x1)) (@W.SharedT.abs (k32 x0 x1)) (k0 x0 x1) @h_sts_560 [] k8 (P_ 254 0 259 39) (P_ 370 0 389 120) (My.sg_ (congrFun (My.pf_667 x0) x1)) (congrFun (My.pf_669 x0) x1))))))))
theorem pf_672 : ((x0 : World) → (@Eq (@Prod @Bool (@Prod @Nat (@Option @Value))) ((@Bool.and (@Heap.isNs (@W.boot_heap x0.params) @mainGlobals) (@BEq.beq @Nat (@instBEqOfDecidableEq @Nat @instDecidableEqNat) (@Array.size @GenState g_) 0)), ((@Array.size @Obj (@Heap.objs (@W.boot_heap x0.params))), (@Heap.nsMap (@W.boot_heap x0.params) @mainGlobals (.ofString "__annotations__")))) (@Bool.true, (11, v_)))) := by intros; kernel_rfl
theorem pf_43 : ((x0 : @Shared) → (@Eq (@Option @Shared) (@fenceModules? (k1).1 x0) (@some @Shared x0))) := by intros; kernel_rfl
theorem pf_42 : (@Eq @Program (@W.opening (k1).1) (@W.plainProg (@Scope.names (@Module.scope (@Program.main (k1).1))))) := by intros; kernel_rfl
theorem left : (@W.LeftO (k1).1 @h_view_39 [] (fun (x0 : @Shared) => (@Bool.and (@W.xlAt @h_view_39 k17 x0) (@W.recOk (@W.RowW.records k1) x0))) (@W.Hook.α kh0) (@W.Hook.obs kh0) (@W.Hook.val kh0) 8960 @Bool.true) := (@W.LeftO.of_pieces (k1).1 @h_view_39 [] (fun (x0 : @Shared) => (@Bool.and (@W.xlAt @h_view_39 k17 x0) (@W.recOk (@W.RowW.records k1) x0))) (@W.Hook.α kh0) (@W.Hook.obs kh0) (@W.Hook.val kh0) 8960 @Bool.true @W.boot_heap @h_heap_667 g_ g_ @W.boot_drawn d_ @W.boot_toks 990 11 v_ k24 (@W.boot_open (k1).1 8960 @My.pf_42 (@of_decide_eq_true (@Eq @Bool (@Nat.ble 600 8960) @Bool.true) (@instDecidableEqBool (@Nat.ble 600 8960) @Bool.true) (@id (@Eq @Bool (@Decidable.decide (@Eq @Bool (@Nat.ble 600 8960) @Bool.true) (@instDecidableEqBool (@Nat.ble 600 8960) @Bool.true)) @Bool.true) (@Eq.refl @Bool @Bool.true))) @My.pf_43) @My.pf_672 @My.pf_670 (@of_decide_eq_true (@Eq @Bool (@Nat.ble k24 8960) @Bool.true) (@instDecidableEqBool (@Nat.ble k24 8960) @Bool.true) (@id (@Eq @Bool (@Decidable.decide (@Eq @Bool (@Nat.ble k24 8960) @Bool.true) (@instDecidableEqBool (@Nat.ble k24 8960) @Bool.true)) @Bool.true) (@Eq.refl @Bool @Bool.true))) (fun x0 => (@funext @OsState (fun x1 => (@Prod @Bool (@Prod (@Prod @PyProof.Rows.Seen k9) (@W.Hook.α kh0)))) (fun x1 => ((k7 x0 x1), ((@W.openSeen @h_view_39 [] k12 (fun (x2 : @Shared) => (@Bool.and (@W.xlAt @h_view_39 k17 x2) (@W.recOk (@W.RowW.records k1) x2))) @Bool.true (k0 x0 x1)), (@W.Hook.obs kh0 (k0 x0 x1))))) (fun x1 => (@Bool.true, ((@W.openGood @h_view_39 []), (@W.Hook.val kh0 x0)))) (fun x1 => (@My.pf_704 x0 x1)))))
end My
end
theorem My.myE : ∀ P, My.myAs = (My.h_heap_39 P).map (·.1) := fun _ => by kernel_rfl
set_option maxRecDepth 100000

set_option maxHeartbeats 4000000
namespace OD
open PySem PySem.Spec PyProof.Rows L2
abbrev St := L2.St
noncomputable def Zx (X : Cx) : Hp := if X.stack.length = X.outer.length ∨ X.fn "" = false then (fun _ => none) else X.H₀
theorem zx_def {CX : CXT} {P : Program} {w : World} {K : PySem.W.Frag} {mg : Str → Option Value} {base : Heap} {N : List Str} {qual : Str} {scope : Scope} {f : Addr} {cd : Value} {A : Around} {outer : List Env} {s : Shared} {H : Hp} {E : XK} : Zx (cxOf CX P w K mg base N qual scope f cd A outer s H E) = H := if_neg (fun z => z.elim (Nat.succ_ne_self _) (fun z => Bool.noConfusion z))
theorem zx_stk {X : Cx} (h : X.stack.length ≠ X.outer.length) (hf : X.fn "" = true := by rfl) : Zx X = X.H₀ := if_neg (fun z => z.elim h (fun z => by rw [hf] at z; cases z))
variable {Z : Hp}

inductive Dt where
  | non | bl (b : Bool) | int (i : Int) | str (x : Str) | tup (ds : List Dt) | lst (ds : List Dt) | scr (ns : List Int) | way (C : Addr) (f : Str) (n : Int) | exc (C : Addr)
def excAt (a C : Addr) : Heap → Prop := fun h => ∃ o, h.get? a = some o ∧ o.cls = .ref C

mutual
/-- the value v stands for the data in the heap H -/
def Is (K : PySem.W.Frag) (H : Hp) : Dt → V → Prop
  | .non, v => v = .non
  | .bl b, v => v = .bl b
  | .int i, v => v = .int i
  | .str x, v => v = .str x
  | .tup ds, v => ∃ a xs, v = .ref a ∧ H a = some (.tup xs) ∧ AllIs K H ds xs
  | .lst ds, v => ∃ a xs, v = .ref a ∧ H a = some (.lst xs) ∧ AllIs K H ds xs
  | .scr ns, v => ∃ a, v = .ref a ∧ SqL K H a (ns.map V.int)
  | .way C f n, v => ∃ a dx, v = .ref a ∧ H a = some (.ins C dx [(f, .int n)])
  | .exc C, v => ∃ a, v = .ref a ∧ H a = some (.ext (excAt a C))
def AllIs (K : PySem.W.Frag) (H : Hp) : List Dt → List V → Prop
  | [], xs => xs = []
  | d :: ds, xs => ∃ x r, xs = x :: r ∧ Is K H d x ∧ AllIs K H ds r
end
variable {K : PySem.W.Frag} {H H' H1 H2 : Hp}
theorem is_non {v : V} : Is K H .non v ↔ v = .non := by unfold Is; exact Iff.rfl
theorem is_bl {b : Bool} {v : V} : Is K H (.bl b) v ↔ v = .bl b := by unfold Is; exact Iff.rfl
theorem is_int {i : Int} {v : V} : Is K H (.int i) v ↔ v = .int i := by unfold Is; exact Iff.rfl
theorem is_str {x : Str} {v : V} : Is K H (.str x) v ↔ v = .str x := by unfold Is; exact Iff.rfl
theorem is_tup {ds : List Dt} {v : V} : Is K H (.tup ds) v ↔ ∃ a xs, v = .ref a ∧ H a = some (.tup xs) ∧ AllIs K H ds xs := by
  constructor
  · intro h; unfold Is at h; exact h
  · intro h; unfold Is; exact h
theorem is_lst {ds : List Dt} {v : V} : Is K H (.lst ds) v ↔ ∃ a xs, v = .ref a ∧ H a = some (.lst xs) ∧ AllIs K H ds xs := by
  constructor
  · intro h; unfold Is at h; exact h
  · intro h; unfold Is; exact h
theorem is_scr {ns : List Int} {v : V} : Is K H (.scr ns) v ↔ ∃ a, v = .ref a ∧ SqL K H a (ns.map V.int) := by
  constructor
  · intro h; unfold Is at h; exact h
  · intro h; unfold Is; exact h
theorem is_way {C : Addr} {f : Str} {n : Int} {v : V} : Is K H (.way C f n) v ↔ ∃ a dx, v = .ref a ∧ H a = some (.ins C dx [(f, .int n)]) := by
  constructor
  · intro h; unfold Is at h; exact h
  · intro h; unfold Is; exact h
theorem is_exc {C : Addr} {v : V} : Is K H (.exc C) v ↔ ∃ a, v = .ref a ∧ H a = some (.ext (excAt a C)) := by
  constructor
  · intro h; unfold Is at h; exact h
  · intro h; unfold Is; exact h
theorem allIs_nil {xs : List V} : AllIs K H [] xs ↔ xs = [] := by unfold AllIs; exact Iff.rfl
theorem allIs_cons {d : Dt} {ds : List Dt} {xs : List V} : AllIs K H (d :: ds) xs ↔ ∃ x r, xs = x :: r ∧ Is K H d x ∧ AllIs K H ds r := by
  constructor
  · intro h; unfold AllIs at h; exact h
  · intro h; unfold AllIs; exact h
mutual
theorem Is.mono0 (s : Same H H') : ∀ {d : Dt} {v : V}, Is K H d v → Is K H' d v
  | .non, _, h => is_non.mpr (is_non.mp h)
  | .bl _, _, h => is_bl.mpr (is_bl.mp h)
  | .int _, _, h => is_int.mpr (is_int.mp h)
  | .str _, _, h => is_str.mpr (is_str.mp h)
  | .tup ds, _, h => by
    obtain ⟨a, xs, e, h1, h2⟩ := is_tup.mp h
    exact is_tup.mpr ⟨a, xs, e, s _ _ h1, AllIs.mono0 s h2⟩
  | .lst ds, _, h => by
    obtain ⟨a, xs, e, h1, h2⟩ := is_lst.mp h
    exact is_lst.mpr ⟨a, xs, e, s _ _ h1, AllIs.mono0 s h2⟩
  | .scr ns, _, h => by
    obtain ⟨a, e, h1⟩ := is_scr.mp h
    exact is_scr.mpr ⟨a, e, s.seq h1⟩
  | .way C f n, _, h => by
    obtain ⟨a, dx, e, h1⟩ := is_way.mp h
    exact is_way.mpr ⟨a, dx, e, s _ _ h1⟩
  | .exc C, _, h => by
    obtain ⟨a, e, h1⟩ := is_exc.mp h
    exact is_exc.mpr ⟨a, e, s _ _ h1⟩
theorem AllIs.mono0 (s : Same H H') : ∀ {ds : List Dt} {xs : List V}, AllIs K H ds xs → AllIs K H' ds xs
  | [], _, h => allIs_nil.mpr (allIs_nil.mp h)
  | d :: ds, _, h => by
    obtain ⟨x, r, e, h1, h2⟩ := allIs_cons.mp h
    exact allIs_cons.mpr ⟨x, r, e, Is.mono0 s h1, AllIs.mono0 s h2⟩
end
theorem AllIs.length : ∀ {ds : List Dt} {xs : List V}, AllIs K H ds xs → ds.length = xs.length
  | [], _, h => by rw [allIs_nil.mp h]; rfl
  | d :: ds, _, h => by
    obtain ⟨x, r, rfl, _, h2⟩ := allIs_cons.mp h
    rw [List.length_cons, List.length_cons, AllIs.length h2]
theorem AllIs.get : ∀ {ds : List Dt} {xs : List V} {i : Nat} {d : Dt}, AllIs K H ds xs → ds[i]? = some d → ∃ v, xs[i]? = some v ∧ Is K H d v
  | [], _, _, _, _, e => by simp at e
  | d :: ds, _, 0, d', h, e => by
    obtain ⟨x, r, rfl, h1, h2⟩ := allIs_cons.mp h
    simp at e; subst e
    exact ⟨x, rfl, h1⟩
  | d :: ds, _, i + 1, d', h, e => by
    obtain ⟨x, r, rfl, h1, h2⟩ := allIs_cons.mp h
    obtain ⟨v, e1, e2⟩ := AllIs.get (i := i) h2 (by simpa using e)
    exact ⟨v, by simpa using e1, e2⟩
theorem AllIs.get' : ∀ {ds : List Dt} {xs : List V} {i : Nat} {v : V}, AllIs K H ds xs → xs[i]? = some v → ∃ d, ds[i]? = some d ∧ Is K H d v
  | [], _, _, _, h, e => by rw [allIs_nil.mp h] at e; simp at e
  | d :: ds, _, 0, v, h, e => by
    obtain ⟨x, r, rfl, h1, h2⟩ := allIs_cons.mp h
    simp at e; subst e
    exact ⟨d, rfl, h1⟩
  | d :: ds, _, i + 1, v, h, e => by
    obtain ⟨x, r, rfl, h1, h2⟩ := allIs_cons.mp h
    obtain ⟨v, e1, e2⟩ := AllIs.get' (i := i) h2 (by simpa using e)
    exact ⟨v, by simpa using e1, e2⟩
theorem AllIs.append : ∀ {ds es : List Dt} {xs ys : List V}, AllIs K H ds xs → AllIs K H es ys → AllIs K H (ds ++ es) (xs ++ ys)
  | [], _, _, _, h, h' => by rw [allIs_nil.mp h]; exact h'
  | d :: ds, _, _, _, h, h' => by
    obtain ⟨x, r, rfl, h1, h2⟩ := allIs_cons.mp h
    exact allIs_cons.mpr ⟨x, _, rfl, h1, AllIs.append h2 h'⟩
theorem AllIs.drop : ∀ {ds : List Dt} {xs : List V} (n : Nat), AllIs K H ds xs → AllIs K H (ds.drop n) (xs.drop n)
  | _, _, 0, h => h
  | [], _, n + 1, h => by rw [allIs_nil.mp h]; exact allIs_nil.mpr rfl
  | d :: ds, _, n + 1, h => by
    obtain ⟨x, r, rfl, h1, h2⟩ := allIs_cons.mp h
    exact AllIs.drop n h2
theorem AllIs.take : ∀ {ds : List Dt} {xs : List V} (n : Nat), AllIs K H ds xs → AllIs K H (ds.take n) (xs.take n)
  | _, _, 0, _ => allIs_nil.mpr rfl
  | [], _, n + 1, h => by rw [allIs_nil.mp h]; exact allIs_nil.mpr rfl
  | d :: ds, _, n + 1, h => by
    obtain ⟨x, r, rfl, h1, h2⟩ := allIs_cons.mp h
    exact allIs_cons.mpr ⟨x, _, rfl, h1, AllIs.take n h2⟩
theorem AllIs.ints : ∀ {ns : List Int}, AllIs K H (ns.map Dt.int) (ns.map V.int)
  | [] => allIs_nil.mpr rfl
  | n :: ns => allIs_cons.mpr ⟨.int n, _, rfl, is_int.mpr rfl, AllIs.ints⟩
theorem AllIs.atI {ds : List Dt} {xs : List V} {i : Int} {d : Dt} (h : AllIs K H ds xs) (e : L2.atI ds i = some d) : ∃ v, L2.atI xs i = some v ∧ Is K H d v := by
  unfold L2.atI at e ⊢
  rw [← h.length]
  cases q : ixN ds.length i with
  | none => rw [q] at e; cases e
  | some j =>
    rw [q] at e
    exact h.get e
theorem AllIs.one {d : Dt} {xs : List V} (h : AllIs K H [d] xs) : ∃ v, xs = [v] ∧ Is K H d v := by
  obtain ⟨x, r, rfl, h1, h2⟩ := allIs_cons.mp h
  rw [allIs_nil.mp h2]
  exact ⟨x, rfl, h1⟩
theorem AllIs.two {d e : Dt} {xs : List V} (h : AllIs K H [d, e] xs) : ∃ v u, xs = [v, u] ∧ Is K H d v ∧ Is K H e u := by
  obtain ⟨x, r, rfl, h1, h2⟩ := allIs_cons.mp h
  obtain ⟨u, rfl, h3⟩ := h2.one
  exact ⟨x, u, rfl, h1, h3⟩

theorem same_new {p : Addr} (h : H p = none) (o : HO) : Same H (upd H p o) := fun b u q => by rw [upd_ne (ne_of_none q h)]; exact q

structure Vw where
  g : Hp
  h : Hp
  sub : Same g h
structure Le (W W' : Vw) : Prop where
  g : Same W.g W'.g
  h : Same W.h W'.h
  n : ∀ a, W.h a ≠ none → W.g a = none → W'.g a = none
theorem Le.refl (W : Vw) : Le W W := ⟨Same.refl _, Same.refl _, fun _ _ h => h⟩
theorem Le.trans {W W1 W2 : Vw} (a : Le W W1) (b : Le W1 W2) : Le W W2 :=
  ⟨a.g.trans b.g, a.h.trans b.h, fun c h1 h2 => b.n c (fun z => h1 (a.h.free z)) (a.n c h1 h2)⟩
theorem Is.mono {W W' : Vw} {d : Dt} {v : V} (h : Is K W.g d v) (s : Le W W') : Is K W'.g d v := Is.mono0 s.g h
theorem AllIs.mono {W W' : Vw} {d : List Dt} {v : List V} (h : AllIs K W.g d v) (s : Le W W') : AllIs K W'.g d v := AllIs.mono0 s.g h
def Vw.new (W : Vw) (p : Addr) (o : HO) : Vw := ⟨upd W.g p o, upd W.h p o, fun b u q => by
  by_cases e : b = p
  · subst e; rw [upd_same] at q ⊢; exact q
  · rw [upd_ne e] at q ⊢; exact W.sub _ _ q⟩
theorem le_new {W : Vw} {p : Addr} (hp : W.h p = none) (o : HO) : Le W (W.new p o) :=
  ⟨same_new (W.sub.free hp) o, same_new hp o, fun a h1 h2 => by
    have : a ≠ p := fun e => h1 (e ▸ hp)
    show upd W.g p o a = none
    rw [upd_ne this]; exact h2⟩
def Vw.mine (W : Vw) (p : Addr) (o : HO) (hp : W.g p = none) : Vw := ⟨W.g, upd W.h p o, fun b u q => by
  have : b ≠ p := fun e => by rw [e, hp] at q; cases q
  rw [upd_ne this]; exact W.sub _ _ q⟩
theorem le_mine {W : Vw} {p : Addr} (hp : W.h p = none) (o : HO) : Le W (W.mine p o (W.sub.free hp)) :=
  ⟨Same.refl _, same_new hp o, fun _ _ h => h⟩
def Vw.frz (W : Vw) (p : Addr) (o : HO) (hp : W.h p = some o) : Vw := ⟨upd W.g p o, W.h, fun b u q => by
  by_cases e : b = p
  · subst e; rw [upd_same] at q; rw [hp]; exact q
  · rw [upd_ne e] at q; exact W.sub _ _ q⟩

inductive Sl where | none | some (d : Dt) | own (ds : List Dt) | arg (a : Addr) (ds : List Dt)
abbrev DS := List Sl
structure Rl (K : PySem.W.Frag) (Z F : Hp) (W : Vw) (ρ : DS) (σ : St) : Prop where
  len : ρ.length = σ.length
  at_ : ∀ (i : Nat) (d : Dt), ρ[i]? = some (.some d) → ∃ v, σ[i]? = some (some v) ∧ Is K W.g d v
  ow : ∀ (i : Nat) (ds : List Dt), ρ[i]? = some (.own ds) → ∃ a xs, σ[i]? = some (some (.ref a)) ∧ W.h a = some (.lst xs) ∧ W.g a = none ∧ F a = none ∧ AllIs K W.g ds xs
  ne : ∀ (i j : Nat) (ds es : List Dt), i ≠ j → ρ[i]? = some (.own ds) → ρ[j]? = some (.own es) → σ[i]? ≠ σ[j]?
  fr : Same F W.h
  z : Same Z F
  ar : ∀ (i : Nat) (a : Addr) (ds : List Dt), ρ[i]? = some (.arg a ds) → (∃ xs, σ[i]? = some (some (.ref a)) ∧ W.h a = some (.lst xs) ∧ W.g a = none ∧ F a = none ∧ AllIs K W.g ds xs) ∧ (∀ (j : Nat) (es : List Dt), ρ[j]? = some (.own es) → σ[j]? ≠ some (some (.ref a))) ∧ ∀ (j : Nat) (b : Addr) (es : List Dt), ρ[j]? = some (.arg b es) → j = i
variable {F : Hp} {W W' : Vw}
theorem Rl.mono {ρ : DS} {σ : St} (r : Rl K Z F W ρ σ) (s : Le W W') : Rl K Z F W' ρ σ :=
  ⟨r.len, fun i d e => let ⟨v, h1, h2⟩ := r.at_ i d e; ⟨v, h1, h2.mono s⟩,
   fun i ds e => let ⟨a, xs, h1, h2, h3, h4, h5⟩ := r.ow i ds e; ⟨a, xs, h1, s.h _ _ h2, s.n a (by rw [h2]; intro z; cases z) h3, h4, h5.mono s⟩, r.ne, r.fr.trans s.h, r.z,
   fun i a ds e => let ⟨⟨xs, h1, h2, h3, h4, h5⟩, k1, k2⟩ := r.ar i a ds e; ⟨⟨xs, h1, s.h _ _ h2, s.n a (by rw [h2]; intro z; cases z) h3, h4, h5.mono s⟩, k1, k2⟩⟩
theorem set_get {α : Type} {l : List α} {i j : Nat} {x y : α} (q : (l.set i x)[j]? = some y) : (i = j ∧ i < l.length ∧ x = y) ∨ (i ≠ j ∧ l[j]? = some y) := by
  by_cases hij : i = j
  · subst hij
    by_cases hl : i < l.length
    · rw [List.getElem?_set_self hl] at q
      exact .inl ⟨rfl, hl, Option.some.inj q⟩
    · rw [List.getElem?_eq_none (by rw [List.length_set]; omega)] at q
      cases q
  · rw [List.getElem?_set_ne hij] at q
    exact .inr ⟨hij, q⟩
theorem Rl.set {ρ : DS} {σ : St} (r : Rl K Z F W ρ σ) {d : Dt} {v : V} (i : Nat) (h : Is K W.g d v) : Rl K Z F W (ρ.set i (.some d)) (σ.set i (some v)) := by
  refine ⟨by rw [List.length_set, List.length_set]; exact r.len, fun j e q => ?_, fun j ds q => ?_, fun j k ds es hjk q1 q2 => ?_, r.fr, r.z, fun j a ds q => ?_⟩
  · rcases set_get q with ⟨rfl, hl, e1⟩ | ⟨hij, q⟩
    · cases e1
      exact ⟨v, by rw [List.getElem?_set_self (by rw [← r.len]; exact hl)], h⟩
    · rw [List.getElem?_set_ne hij]
      exact r.at_ j e q
  · rcases set_get q with ⟨_, _, e1⟩ | ⟨hij, q⟩
    · cases e1
    · rw [List.getElem?_set_ne hij]
      exact r.ow j ds q
  · rcases set_get q1 with ⟨_, _, e1⟩ | ⟨hij, q1⟩
    · cases e1
    rcases set_get q2 with ⟨_, _, e1⟩ | ⟨hik, q2⟩
    · cases e1
    rw [List.getElem?_set_ne hij, List.getElem?_set_ne hik]
    exact r.ne j k ds es hjk q1 q2
  · rcases set_get q with ⟨_, _, e1⟩ | ⟨hij, q⟩
    · cases e1
    obtain ⟨⟨xs, h1, h2⟩, k1, k2⟩ := r.ar j a ds q
    refine ⟨⟨xs, by rw [List.getElem?_set_ne hij]; exact h1, h2⟩, fun k es q' => ?_, fun k c es q' => ?_⟩
    · rcases set_get q' with ⟨_, _, e1⟩ | ⟨hik, q'⟩
      · cases e1
      rw [List.getElem?_set_ne hik]
      exact k1 k es q'
    · rcases set_get q' with ⟨_, _, e1⟩ | ⟨hik, q'⟩
      · cases e1
      exact k2 k c es q'
theorem Rl.own {ρ : DS} {σ : St} (r : Rl K Z F W ρ σ) (s : Le W W') {p : Addr} {xs : List V} {ds : List Dt} (i : Nat) (h0 : W.h p = none) (h1 : W'.h p = some (.lst xs)) (h2 : W'.g p = none) (h3 : AllIs K W'.g ds xs) :
    Rl K Z F W' (ρ.set i (.own ds)) (σ.set i (some (.ref p))) := by
  have r' := r.mono s
  have nep : ∀ (j : Nat) (es : List Dt), ρ[j]? = some (Sl.own es) → σ[j]? ≠ some (some (V.ref p)) := fun j es q z => by
    obtain ⟨a, ys, e1, e2, _⟩ := r.ow j es q
    rw [z] at e1
    cases e1
    rw [h0] at e2
    cases e2
  refine ⟨by rw [List.length_set, List.length_set]; exact r.len, fun j e q => ?_, fun j es q => ?_, fun j k es es' hjk q1 q2 => ?_, r'.fr, r.z, fun j a fs q => ?_⟩
  · rcases set_get q with ⟨_, _, e1⟩ | ⟨hij, q⟩
    · cases e1
    · rw [List.getElem?_set_ne hij]
      exact r'.at_ j e q
  · rcases set_get q with ⟨rfl, hl, e1⟩ | ⟨hij, q⟩
    · cases e1
      exact ⟨p, xs, by rw [List.getElem?_set_self (by rw [← r.len]; exact hl)], h1, h2, r.fr.free h0, h3⟩
    · rw [List.getElem?_set_ne hij]
      exact r'.ow j es q
  · rcases set_get q1 with ⟨rfl, hl, e1⟩ | ⟨hij, q1⟩
    · rcases set_get q2 with ⟨rfl, _, _⟩ | ⟨hik, q2⟩
      · exact absurd rfl hjk
      · rw [List.getElem?_set_self (by rw [← r.len]; exact hl), List.getElem?_set_ne hik]
        exact fun z => nep k es' q2 z.symm
    · rcases set_get q2 with ⟨rfl, hl, _⟩ | ⟨hik, q2⟩
      · rw [List.getElem?_set_self (by rw [← r.len]; exact hl), List.getElem?_set_ne hij]
        exact nep j es q1
      · rw [List.getElem?_set_ne hij, List.getElem?_set_ne hik]
        exact r.ne j k es es' hjk q1 q2
  · rcases set_get q with ⟨_, _, e1⟩ | ⟨hij, q⟩
    · cases e1
    obtain ⟨⟨ys, g1, g2⟩, k1, k2⟩ := r'.ar j a fs q
    obtain ⟨⟨_, _, g3, _⟩, _, _⟩ := r.ar j a fs q
    refine ⟨⟨ys, by rw [List.getElem?_set_ne hij]; exact g1, g2⟩, fun k es q' => ?_, fun k c es q' => ?_⟩
    · rcases set_get q' with ⟨rfl, hl, e1⟩ | ⟨hik, q'⟩
      · rw [List.getElem?_set_self (by rw [← r.len]; exact hl)]
        intro z
        cases z
        rw [h0] at g3
        cases g3
      · rw [List.getElem?_set_ne hik]
        exact k1 k es q'
    · rcases set_get q' with ⟨_, _, e1⟩ | ⟨hik, q'⟩
      · cases e1
      exact k2 k c es q'
theorem Rl.put {ρ : DS} {σ : St} (r : Rl K Z F W ρ σ) {i : Nat} {ds es : List Dt} {a : Addr} {ys : List V} (hi : ρ[i]? = some (.own ds)) (ha : σ[i]? = some (some (.ref a))) (hg : W.g a = none) (hF : F a = none) (h3 : AllIs K W.g es ys) :
    Rl K Z F (W.mine a (.lst ys) hg) (ρ.set i (.own es)) σ := by
  have hl : i < ρ.length := by
    rcases Nat.lt_or_ge i ρ.length with h | h
    · exact h
    · rw [List.getElem?_eq_none h] at hi; cases hi
  have other : ∀ j fs, j ≠ i → ρ[j]? = some (.own fs) → σ[j]? ≠ some (some (.ref a)) := fun j fs hj q z => r.ne j i fs ds hj q hi (z.trans ha.symm)
  refine ⟨by rw [List.length_set]; exact r.len, fun j e q => ?_, fun j fs q => ?_, fun j k fs fs' hjk q1 q2 => ?_, fun p o q => ?_, r.z, fun j c fs q => ?_⟩
  · rcases set_get q with ⟨_, _, e1⟩ | ⟨hij, q⟩
    · cases e1
    · exact r.at_ j e q
  · rcases set_get q with ⟨rfl, _, e1⟩ | ⟨hij, q⟩
    · cases e1
      exact ⟨a, ys, ha, upd_same, hg, hF, h3⟩
    · obtain ⟨b, xs, e1, e2, e3, e4, e5⟩ := r.ow j fs q
      have hb : b ≠ a := fun z => other j fs (fun z => hij z.symm) q (z ▸ e1)
      exact ⟨b, xs, e1, (upd_ne hb).trans e2, e3, e4, e5⟩
  · have k1 : ∃ gs, ρ[j]? = some (.own gs) := by
      rcases set_get q1 with ⟨rfl, _, _⟩ | ⟨_, q⟩
      · exact ⟨_, hi⟩
      · exact ⟨_, q⟩
    have k2 : ∃ gs, ρ[k]? = some (.own gs) := by
      rcases set_get q2 with ⟨rfl, _, _⟩ | ⟨_, q⟩
      · exact ⟨_, hi⟩
      · exact ⟨_, q⟩
    obtain ⟨_, k1⟩ := k1
    obtain ⟨_, k2⟩ := k2
    exact r.ne j k _ _ hjk k1 k2
  · have e : p ≠ a := fun e => by rw [e, hF] at q; cases q
    exact (upd_ne (H := W.h) (o := .lst ys) e).trans (r.fr p o q)
  · rcases set_get q with ⟨_, _, e1⟩ | ⟨hij, q⟩
    · cases e1
    obtain ⟨⟨ys', g1, g2, g3, g4, g5⟩, k1, k2⟩ := r.ar j c fs q
    have hc : c ≠ a := fun z => k1 i ds hi (by rw [z]; exact ha)
    refine ⟨⟨ys', g1, (upd_ne hc).trans g2, g3, g4, g5⟩, fun k es' q' => ?_, fun k c' es' q' => ?_⟩
    · rcases set_get q' with ⟨rfl, _, _⟩ | ⟨_, q'⟩
      · exact k1 i ds hi
      · exact k1 k es' q'
    · rcases set_get q' with ⟨_, _, e1⟩ | ⟨hik, q'⟩
      · cases e1
      exact k2 k c' es' q'
theorem Rl.frz {ρ : DS} {σ : St} (r : Rl K Z F W ρ σ) {i : Nat} {ds : List Dt} {a : Addr} {xs : List V} (hi : ρ[i]? = some (.own ds)) (ha : σ[i]? = some (some (.ref a))) (hh : W.h a = some (.lst xs)) (hg : W.g a = none) (h3 : AllIs K W.g ds xs) :
    Rl K Z F (W.frz a _ hh) (ρ.set i (.some (.lst ds))) σ := by
  have sg : Same W.g (upd W.g a (.lst xs)) := same_new hg _
  have other : ∀ j fs, j ≠ i → ρ[j]? = some (.own fs) → σ[j]? ≠ some (some (.ref a)) := fun j fs hj q z => r.ne j i fs ds hj q hi (z.trans ha.symm)
  refine ⟨by rw [List.length_set]; exact r.len, fun j e q => ?_, fun j fs q => ?_, fun j k fs fs' hjk q1 q2 => ?_, r.fr, r.z, fun j c fs q => ?_⟩
  · rcases set_get q with ⟨rfl, _, e1⟩ | ⟨hij, q⟩
    · cases e1
      exact ⟨_, ha, is_lst.mpr ⟨a, xs, rfl, upd_same, AllIs.mono0 sg h3⟩⟩
    · obtain ⟨v, e1, e2⟩ := r.at_ j e q
      exact ⟨v, e1, Is.mono0 sg e2⟩
  · rcases set_get q with ⟨_, _, e1⟩ | ⟨hij, q⟩
    · cases e1
    · obtain ⟨b, ys, e1, e2, e3, e4, e5⟩ := r.ow j fs q
      have hb : b ≠ a := fun z => other j fs (fun z => hij z.symm) q (z ▸ e1)
      exact ⟨b, ys, e1, e2, (upd_ne hb).trans e3, e4, AllIs.mono0 sg e5⟩
  · rcases set_get q1 with ⟨_, _, e1⟩ | ⟨_, q1⟩
    · cases e1
    rcases set_get q2 with ⟨_, _, e1⟩ | ⟨_, q2⟩
    · cases e1
    exact r.ne j k _ _ hjk q1 q2
  · rcases set_get q with ⟨_, _, e1⟩ | ⟨hij, q⟩
    · cases e1
    obtain ⟨⟨ys', g1, g2, g3, g4, g5⟩, k1, k2⟩ := r.ar j c fs q
    have hc : c ≠ a := fun z => k1 i ds hi (by rw [z]; exact ha)
    refine ⟨⟨ys', g1, g2, (upd_ne hc).trans g3, g4, AllIs.mono0 sg g5⟩, fun k es' q' => ?_, fun k c' es' q' => ?_⟩
    · rcases set_get q' with ⟨_, _, e1⟩ | ⟨_, q'⟩
      · cases e1
      · exact k1 k es' q'
    · rcases set_get q' with ⟨_, _, e1⟩ | ⟨hik, q'⟩
      · cases e1
      exact k2 k c' es' q'
def dstart (n : Nat) (ds : List Dt) : DS := ds.map Sl.some ++ List.replicate (n - ds.length) Sl.none
theorem Rl.start {N : List Str} {ds : List Dt} {vs : List V} (h : AllIs K W.g ds vs) (hz : Same Z W.h) : Rl K Z W.h W (dstart N.length ds) (L2.start N vs) := by
  have hl := h.length
  have cls : ∀ (i : Nat) (y : Sl), (dstart N.length ds)[i]? = some y → (∃ d, ds[i]? = some d ∧ y = .some d) ∨ y = .none := fun i y e => by
    unfold dstart at e
    by_cases hi : i < ds.length
    · rw [List.getElem?_append_left (by rw [List.length_map]; exact hi), List.getElem?_map] at e
      cases q : ds[i]? with
      | none => rw [q] at e; cases e
      | some d' =>
        rw [q] at e
        exact .inl ⟨d', rfl, (Option.some.inj e).symm⟩
    · rw [List.getElem?_append_right (by rw [List.length_map]; omega), List.getElem?_replicate] at e
      split at e
      · exact .inr (Option.some.inj e).symm
      · cases e
  refine ⟨by unfold L2.start dstart; rw [List.length_append, List.length_append, List.length_map, List.length_map, List.length_replicate, List.length_replicate, hl], fun i d e => ?_, fun i es e => ?_, fun i j es fs _ e _ => ?_, Same.refl _, hz, fun i a es e => ?_⟩
  · rcases cls i _ e with ⟨d', q, e1⟩ | e1
    · cases e1
      obtain ⟨v, h1, h2⟩ := h.get q
      refine ⟨v, ?_, h2⟩
      have hi : i < ds.length := by
        rcases Nat.lt_or_ge i ds.length with h | h
        · exact h
        · rw [List.getElem?_eq_none h] at q; cases q
      unfold L2.start
      rw [List.getElem?_append_left (by rw [List.length_map, ← hl]; exact hi), List.getElem?_map, h1]
      rfl
    · cases e1
  · rcases cls i _ e with ⟨d', q, e1⟩ | e1
    · cases e1
    · cases e1
  · rcases cls i _ e with ⟨d', q, e1⟩ | e1
    · cases e1
    · cases e1
  · rcases cls i _ e with ⟨d', q, e1⟩ | e1
    · cases e1
    · cases e1

abbrev DTE := DS → (Dt → Prop) → Prop
abbrev DTT := DS → (Bool → Prop) → Prop
abbrev DTA := DS → (List Dt → Prop) → Prop
def LiE (K : PySem.W.Frag) (Z : Hp) (te : TE) (t : DTE) : Prop :=
  ∀ {F : Hp} (ρ : DS) (σ : St) (H : Vw) (Q : Dt → Prop), Rl K Z F H ρ σ → t ρ Q → ∀ R : VK, (∀ d v H', Le H H' → Is K H'.g d v → Q d → R v H'.h) → te σ H.h R
def LiT (K : PySem.W.Frag) (Z : Hp) (te : TT) (t : DTT) : Prop :=
  ∀ {F : Hp} (ρ : DS) (σ : St) (H : Vw) (Q : Bool → Prop), Rl K Z F H ρ σ → t ρ Q → ∀ R : Bool → Hp → Prop, (∀ d H', Le H H' → Q d → R d H'.h) → te σ H.h R
def LiA (K : PySem.W.Frag) (Z : Hp) (te : TA) (t : DTA) : Prop :=
  ∀ {F : Hp} (ρ : DS) (σ : St) (H : Vw) (Q : List Dt → Prop), Rl K Z F H ρ σ → t ρ Q → ∀ R : List V → Hp → Prop, (∀ d v H', Le H H' → AllIs K H'.g d v → Q d → R v H'.h) → te σ H.h R
def DE (X : Cx) (e : Expr) (t : DTE) : Prop := ∃ te, PE X e te ∧ LiE X.K (Zx X) te t
def DT (X : Cx) (e : Expr) (t : DTT) : Prop := ∃ te, PT X e te ∧ LiT X.K (Zx X) te t
def DW (X : Cx) (e : Expr) (t : DTT) : Prop := ∃ te, PW X e te ∧ LiT X.K (Zx X) te t
def DA (X : Cx) (es : List Expr) (t : DTA) : Prop := ∃ te, PA X es te ∧ LiA X.K (Zx X) te t
theorem DW.dt {X : Cx} {e : Expr} {t : DTT} (h : DW X e t) : DT X e t := let ⟨te, h1, h2⟩ := h; ⟨te, h1.pt, h2⟩

def dVar (i : Nat) : DTE := fun ρ Q => ∃ d, ρ[i]? = some (.some d) ∧ Q d
def dC (d : Dt) : DTE := fun _ Q => Q d
section
variable {X : Cx} {a b c : Expr} {ta tb tc : DTE} {pos : Pos}
theorem dv (i : Nat) {x : Str} {pos : Pos} (hN : X.N[i]? = some x := by rfl) (hv : Vis X.env.scope x := by first | exact Or.inl rfl | exact Or.inr (Or.inl rfl) | exact Or.inr (Or.inr rfl)) (hd : (x == ("__debug__" : Str)) = false := by decide)
    (hcd : (x == ("__classdict__" : Str)) = false := by decide) : DE X (.Name x pos) (dVar i) :=
  ⟨tVar i, pe_var hN hv hd hcd, fun ρ σ H Q r h R k => by
    obtain ⟨d, e, q⟩ := h
    obtain ⟨v, h1, h2⟩ := r.at_ i d e
    exact ⟨v, h1, k d v H (Le.refl H) h2 q⟩⟩
theorem lic {v : V} {d : Dt} (h : ∀ H : Vw, Is K H.g d v) : LiE K Z (tC v) (dC d) := fun ρ σ H Q r q R k => k d v H (Le.refl H) (h H) q
theorem de_int {i j pos} : DE X (.Constant (.int i) j pos) (dC (.int i)) := ⟨_, pe_int, lic fun _ => is_int.mpr rfl⟩
theorem de_bl {b j pos} : DE X (.Constant (.bool b) j pos) (dC (.bl b)) := ⟨_, pe_bl, lic fun _ => is_bl.mpr rfl⟩
theorem de_non {j pos} : DE X (.Constant .none j pos) (dC .non) := ⟨_, pe_non, lic fun _ => is_non.mpr rfl⟩
theorem de_str {x j pos} : DE X (.Constant (.str x) j pos) (dC (.str x)) := ⟨_, pe_str, lic fun _ => is_str.mpr rfl⟩

def DOp (X : Cx) (f : Value → Value → Sem Value) (g : Dt → Dt → (Dt → Prop) → Prop) : Prop :=
  ∃ r, OpR X f r ∧ ∀ (H : Vw) (x y : V) (d e : Dt) (Q : Dt → Prop), Is X.K H.g d x → Is X.K H.g e y → g d e Q → ∀ R : VK, (∀ d v H', Le H H' → Is X.K H'.g d v → Q d → R v H'.h) → r x y H.h R
def dOp (g : Dt → Dt → (Dt → Prop) → Prop) (ta tb : DTE) : DTE := fun ρ Q => ta ρ fun d => tb ρ fun e => g d e Q
theorem liOp {te tf : TE} {r : R2} {g : Dt → Dt → (Dt → Prop) → Prop} (ha : LiE K Z te ta) (hb : LiE K Z tf tb)
    (hg : ∀ (H : Vw) (x y : V) (d e : Dt) (Q : Dt → Prop), Is K H.g d x → Is K H.g e y → g d e Q → ∀ R : VK, (∀ d v H', Le H H' → Is K H'.g d v → Q d → R v H'.h) → r x y H.h R) : LiE K Z (tOp r te tf) (dOp g ta tb) :=
  fun ρ σ H Q rl h R k => ha ρ σ H _ rl h _ fun d v H1 s1 i1 q1 => hb ρ σ H1 _ (rl.mono s1) q1 _ fun e u H2 s2 i2 q2 =>
    hg H2 v u d e Q (i1.mono s2) i2 q2 R fun d' v' H3 s3 i3 q3 => k d' v' H3 ((s1.trans s2).trans s3) i3 q3
theorem de_op {op : Operator} {g : Dt → Dt → (Dt → Prop) → Prop} (ho : DOp X (binaryOp op) g) (ha : DE X a ta) (hb : DE X b tb) : DE X (.BinOp a op b pos) (dOp g ta tb) := by
  obtain ⟨r, h1, h2⟩ := ho
  obtain ⟨te, p1, l1⟩ := ha
  obtain ⟨tf, p2, l2⟩ := hb
  exact ⟨_, pe_op h1 p1 p2, liOp l1 l2 h2⟩
theorem de_cmp {op : CmpOp} {g : Dt → Dt → (Dt → Prop) → Prop} (ho : DOp X (compareOp op) g) (ha : DE X a ta) (hb : DE X b tb) (hm : behindInMarks op b = false) : DE X (.Compare a [op] [b] pos) (dOp g ta tb) := by
  obtain ⟨r, h1, h2⟩ := ho
  obtain ⟨te, p1, l1⟩ := ha
  obtain ⟨tf, p2, l2⟩ := hb
  exact ⟨_, pe_cmpR h1 p1 p2 hm, liOp l1 l2 h2⟩
def dTest (t : DTE) : DTT := fun ρ Q => t ρ fun d => ∃ k, d = .bl k ∧ Q k
theorem liTest {te : TE} {t : DTE} (h : LiE K Z te t) : LiT K Z (tTest te) (dTest t) := fun ρ σ H Q r q R k =>
  h ρ σ H _ r q _ fun d v H1 s1 i1 ⟨b, e, qb⟩ => by
    subst e
    exact ⟨b, is_bl.mp i1, k b H1 s1 qb⟩
theorem dt_cmp {op : CmpOp} {g : Dt → Dt → (Dt → Prop) → Prop} (ho : DOp X (compareOp op) g) (ha : DE X a ta) (hb : DE X b tb) (hm : behindInMarks op b = false) : DT X (.Compare a [op] [b] pos) (dTest (dOp g ta tb)) := by
  obtain ⟨r, h1, h2⟩ := ho
  obtain ⟨te, p1, l1⟩ := ha
  obtain ⟨tf, p2, l2⟩ := hb
  exact ⟨_, pt_cmpR h1 p1 p2 hm, liTest (liOp l1 l2 h2)⟩
theorem dt_val {e : Expr} {t : DTE} (h : DE X e t) (he : ∀ whole, isTrue e X.env whole = (do let v ← whole; standAt e.pos; holding [v] (truthy v)) := by intro _; rfl) : DT X e (dTest t) := by
  obtain ⟨te, p, l⟩ := h
  exact ⟨_, pt_val p he, liTest l⟩
def dChain (g g' : Dt → Dt → (Dt → Prop) → Prop) (ta tb tc : DTE) : DTE := fun ρ Q => ta ρ fun d => tb ρ fun e => g d e fun z => ∃ k, z = .bl k ∧ (if k = true then tc ρ fun w => g' e w Q else Q (.bl false))
theorem liChain {te tf tg : TE} {r r' : R2} {g g' : Dt → Dt → (Dt → Prop) → Prop} (ha : LiE K Z te ta) (hb : LiE K Z tf tb) (hc : LiE K Z tg tc)
    (hg : ∀ (H : Vw) (x y : V) (d e : Dt) (Q : Dt → Prop), Is K H.g d x → Is K H.g e y → g d e Q → ∀ R : VK, (∀ d v H', Le H H' → Is K H'.g d v → Q d → R v H'.h) → r x y H.h R)
    (hg' : ∀ (H : Vw) (x y : V) (d e : Dt) (Q : Dt → Prop), Is K H.g d x → Is K H.g e y → g' d e Q → ∀ R : VK, (∀ d v H', Le H H' → Is K H'.g d v → Q d → R v H'.h) → r' x y H.h R) : LiE K Z (tChain r r' te tf tg) (dChain g g' ta tb tc) :=
  fun ρ σ H Q rl h R k => ha ρ σ H _ rl h _ fun d v H1 s1 i1 q1 => hb ρ σ H1 _ (rl.mono s1) q1 _ fun e u H2 s2 i2 q2 =>
    hg H2 v u d e _ (i1.mono s2) i2 q2 _ fun d' v' H3 s3 i3 ⟨z, ez, q3⟩ => by
      subst ez
      refine ⟨z, is_bl.mp i3, ?_⟩
      cases z with
      | false => exact k _ _ H3 ((s1.trans s2).trans s3) (is_bl.mpr rfl) q3
      | true => exact hc ρ σ H3 _ (rl.mono ((s1.trans s2).trans s3)) q3 _ fun w x H4 s4 i4 q4 => hg' H4 u x e w Q (i2.mono (s3.trans s4)) i4 q4 R fun d5 v5 H5 s5 i5 q5 => k d5 v5 H5 (((s1.trans s2).trans (s3.trans s4)).trans s5) i5 q5
theorem dt_chain {op op' : CmpOp} {g g' : Dt → Dt → (Dt → Prop) → Prop} (ho : DOp X (compareOp op) g) (ho' : DOp X (compareOp op') g') (ha : DE X a ta) (hb : DE X b tb) (hc : DE X c tc)
    (hm : lastMarks [op, op'] [b, c] = false := by with_unfolding_all rfl) : DT X (.Compare a [op, op'] [b, c] pos) (dTest (dChain g g' ta tb tc)) := by
  obtain ⟨r, h1, h2⟩ := ho
  obtain ⟨r', h3, h4⟩ := ho'
  obtain ⟨te, p1, l1⟩ := ha
  obtain ⟨tf, p2, l2⟩ := hb
  obtain ⟨tg, p3, l3⟩ := hc
  exact ⟨_, pt_chain h1 h3 p1 p2 p3 hm, liTest (liChain l1 l2 l3 h2 h4)⟩

variable {tA tB : DTT} {rest : List Expr}
def dAnd (t u : DTT) : DTT := fun ρ Q => t ρ fun c => if c = true then u ρ Q else Q false
def dOr (t u : DTT) : DTT := fun ρ Q => t ρ fun c => if c = true then Q true else u ρ Q
def dNot (t : DTT) : DTT := fun ρ Q => t ρ fun c => Q (!c)
theorem dw_and1 (ha : DT X a tA) : DW X (.BoolOp .And [a] pos) tA := let ⟨_, p, l⟩ := ha; ⟨_, pw_and1 p, l⟩
theorem dw_or1 (ha : DT X a tA) : DW X (.BoolOp .Or [a] pos) tA := let ⟨_, p, l⟩ := ha; ⟨_, pw_or1 p, l⟩
theorem dw_and (ha : DT X a tA) (hb : DW X (.BoolOp .And (b :: rest) pos) tB) : DW X (.BoolOp .And (a :: b :: rest) pos) (dAnd tA tB) := by
  obtain ⟨te, p1, l1⟩ := ha
  obtain ⟨tf, p2, l2⟩ := hb
  refine ⟨_, pw_and p1 p2, fun ρ σ H Q r h R k => l1 ρ σ H _ r h _ fun c H1 s1 q1 => ?_⟩
  cases c with
  | true => exact l2 ρ σ H1 Q (r.mono s1) q1 R fun d H2 s2 q2 => k d H2 (s1.trans s2) q2
  | false => exact k _ H1 s1 q1
theorem dw_or (ha : DT X a tA) (hb : DW X (.BoolOp .Or (b :: rest) pos) tB) : DW X (.BoolOp .Or (a :: b :: rest) pos) (dOr tA tB) := by
  obtain ⟨te, p1, l1⟩ := ha
  obtain ⟨tf, p2, l2⟩ := hb
  refine ⟨_, pw_or p1 p2, fun ρ σ H Q r h R k => l1 ρ σ H _ r h _ fun c H1 s1 q1 => ?_⟩
  cases c with
  | false => exact l2 ρ σ H1 Q (r.mono s1) q1 R fun d H2 s2 q2 => k d H2 (s1.trans s2) q2
  | true => exact k _ H1 s1 q1
theorem dt_not (ha : DT X a tA) : DT X (.UnaryOp .Not a pos) (dNot tA) := by
  obtain ⟨te, p1, l1⟩ := ha
  exact ⟨_, pt_not p1, fun ρ σ H Q r h R k => l1 ρ σ H _ r h _ fun c H1 s1 q1 => k _ H1 s1 q1⟩
def dAndV (ta tb : DTE) : DTE := fun ρ Q => ta ρ fun d => ∃ c, d = .bl c ∧ if c = true then tb ρ Q else Q (.bl false)
def dOrV (ta tb : DTE) : DTE := fun ρ Q => ta ρ fun d => ∃ c, d = .bl c ∧ if c = true then Q (.bl true) else tb ρ Q
def dNotV (ta : DTE) : DTE := fun ρ Q => ta ρ fun d => ∃ c, d = .bl c ∧ Q (.bl (!c))
theorem de_one {op} {t : DTE} (h : DE X a t) : DE X (.BoolOp op [a] pos) t := let ⟨_, p, l⟩ := h; ⟨_, pe_one p, l⟩
theorem de_and (ha : DE X a ta) (hb : DE X (.BoolOp .And (b :: rest) pos) tb) : DE X (.BoolOp .And (a :: b :: rest) pos) (dAndV ta tb) := by
  obtain ⟨te, p1, l1⟩ := ha
  obtain ⟨tf, p2, l2⟩ := hb
  refine ⟨_, pe_and p1 p2, fun ρ σ H Q r h R k => l1 ρ σ H _ r h _ fun d v H1 s1 i1 ⟨c, e, q1⟩ => ?_⟩
  subst e
  refine ⟨c, is_bl.mp i1, ?_⟩
  cases c with
  | true => exact l2 ρ σ H1 Q (r.mono s1) q1 R fun d v H2 s2 i2 q2 => k d v H2 (s1.trans s2) i2 q2
  | false => exact k _ _ H1 s1 (is_bl.mpr rfl) q1
theorem de_or (ha : DE X a ta) (hb : DE X (.BoolOp .Or (b :: rest) pos) tb) : DE X (.BoolOp .Or (a :: b :: rest) pos) (dOrV ta tb) := by
  obtain ⟨te, p1, l1⟩ := ha
  obtain ⟨tf, p2, l2⟩ := hb
  refine ⟨_, pe_or p1 p2, fun ρ σ H Q r h R k => l1 ρ σ H _ r h _ fun d v H1 s1 i1 ⟨c, e, q1⟩ => ?_⟩
  subst e
  refine ⟨c, is_bl.mp i1, ?_⟩
  cases c with
  | false => exact l2 ρ σ H1 Q (r.mono s1) q1 R fun d v H2 s2 i2 q2 => k d v H2 (s1.trans s2) i2 q2
  | true => exact k _ _ H1 s1 (is_bl.mpr rfl) q1
theorem de_not (ha : DE X a ta) : DE X (.UnaryOp .Not a pos) (dNotV ta) := by
  obtain ⟨te, p1, l1⟩ := ha
  refine ⟨_, pe_not p1, fun ρ σ H Q r h R k => l1 ρ σ H _ r h _ fun d v H1 s1 i1 ⟨c, e, q1⟩ => ?_⟩
  subst e
  exact ⟨c, is_bl.mp i1, k _ _ H1 s1 (is_bl.mpr rfl) q1⟩
end

section
variable {X : Cx} {a b c : Expr} {ta tb tc : DTE} {pos : Pos}
def gI (g : Int → Int → Dt) : Dt → Dt → (Dt → Prop) → Prop := fun d e Q => ∃ i j, d = .int i ∧ e = .int j ∧ Q (g i j)
def gIC (C : Int → Int → Prop) (g : Int → Int → Dt) : Dt → Dt → (Dt → Prop) → Prop := fun d e Q => ∃ i j, d = .int i ∧ e = .int j ∧ C i j ∧ Q (g i j)
theorem dop_I0 {f : Value → Value → Sem Value} {g : Int → Int → Int} (h : OpR X f (rI0 fun i j => .int (g i j))) : DOp X f (gI fun i j => .int (g i j)) := by
  refine ⟨_, h, fun H x y d e Q i1 i2 q R k => ?_⟩
  obtain ⟨i, j, rfl, rfl, q⟩ := q
  exact ⟨i, j, is_int.mp i1, is_int.mp i2, k _ _ H (Le.refl H) (is_int.mpr rfl) q⟩
theorem dop_B0 {f : Value → Value → Sem Value} {g : Int → Int → Bool} (h : OpR X f (rI0 fun i j => .bl (g i j))) : DOp X f (gI fun i j => .bl (g i j)) := by
  refine ⟨_, h, fun H x y d e Q i1 i2 q R k => ?_⟩
  obtain ⟨i, j, rfl, rfl, q⟩ := q
  exact ⟨i, j, is_int.mp i1, is_int.mp i2, k _ _ H (Le.refl H) (is_bl.mpr rfl) q⟩
theorem dop_IC {f : Value → Value → Sem Value} {C : Int → Int → Prop} {g : Int → Int → Int} (h : OpR X f (rI C fun i j => .int (g i j))) : DOp X f (gIC C fun i j => .int (g i j)) := by
  refine ⟨_, h, fun H x y d e Q i1 i2 q R k => ?_⟩
  obtain ⟨i, j, rfl, rfl, hc, q⟩ := q
  exact ⟨i, j, is_int.mp i1, is_int.mp i2, hc, k _ _ H (Le.refl H) (is_int.mpr rfl) q⟩
theorem op_mulB : OpR X (binaryOp .Mult) (rI IntMulOk fun i j => .int (i * j)) := opI fun _ _ _ _ _ _ _ hc q => mul_int q hc
theorem o_add : DOp X (binaryOp .Add) (gI fun i j => .int (i + j)) := dop_I0 op_add
theorem o_sub : DOp X (binaryOp .Sub) (gI fun i j => .int (i - j)) := dop_I0 op_sub
theorem o_mul : DOp X (binaryOp .Mult) (gIC IntMulOk fun i j => .int (i * j)) := dop_IC op_mulB
theorem o_fdiv : DOp X (binaryOp .FloorDiv) (gIC CDivN fun i j => .int (i.fdiv j)) := dop_IC op_fdivN
def CModN (_ j : Int) : Prop := j ≠ 0
theorem o_mod : DOp X (binaryOp .Mod) (gIC CModN fun i j => .int (i.fmod j)) := dop_IC (C := CModN) op_modN
theorem cdivN {c n : Int} (h : (n != 0 && decide (n.natAbs < 1073741824)) = true) : CDivN c n := by
  rw [Bool.and_eq_true, bne_iff_ne, decide_eq_true_iff] at h
  exact h
theorem cmodN {c n : Int} (h : (n != 0) = true) : CModN c n := bne_iff_ne.mp h
theorem cpowN {c n : Int} (h : (decide (0 ≤ n) && (decide (n ≤ 1000000) && decide (c.natAbs < 18446744073709551616))) = true) : CPow c n := by
  rw [Bool.and_eq_true, Bool.and_eq_true, decide_eq_true_iff, decide_eq_true_iff, decide_eq_true_iff] at h
  exact h
theorem mulR {c n : Int} (h : decide (n.natAbs < 9223372036854775808) = true) : IntMulOk c n := by
  rw [decide_eq_true_iff] at h
  exact .of_right (intBits_le_64 (by omega) (by omega))
theorem mulL {c n : Int} (h : decide (n.natAbs < 9223372036854775808) = true) : IntMulOk n c := by
  rw [decide_eq_true_iff] at h
  exact .of_left (intBits_le_64 (by omega) (by omega))
theorem o_lt : DOp X (compareOp .Lt) (gI fun i j => .bl (decide (i < j))) := dop_B0 op_lt
theorem o_le : DOp X (compareOp .LtE) (gI fun i j => .bl (decide (i ≤ j))) := dop_B0 op_le
theorem o_gt : DOp X (compareOp .Gt) (gI fun i j => .bl (decide (j < i))) := dop_B0 op_gt
theorem o_ge : DOp X (compareOp .GtE) (gI fun i j => .bl (decide (j ≤ i))) := dop_B0 op_ge
def dNeg (ta : DTE) : DTE := fun ρ Q => ta ρ fun d => ∃ i, d = .int i ∧ Q (.int (-i))
theorem de_neg (ha : DE X a ta) : DE X (.UnaryOp .USub a pos) (dNeg ta) := by
  obtain ⟨te, p1, l1⟩ := ha
  refine ⟨_, pe_un un_neg p1, fun ρ σ H Q r h R k => l1 ρ σ H _ r h _ fun d v H1 s1 i1 ⟨i, e, q1⟩ => ?_⟩
  subst e
  exact ⟨i, is_int.mp i1, k _ _ H1 s1 (is_int.mpr rfl) q1⟩
theorem o_cat : DOp X (binaryOp .Add) (fun d e Q => ∃ ds es, d = .lst ds ∧ e = .lst es ∧ ds.length + es.length ≤ 100000 ∧ Q (.lst (ds ++ es))) := by
  refine ⟨_, op_cat, fun H x y d e Q i1 i2 q R k => ?_⟩
  obtain ⟨ds, es, rfl, rfl, hl, q⟩ := q
  obtain ⟨l, xs, rfl, h1, a1⟩ := is_lst.mp i1
  obtain ⟨m, ys, rfl, h2, a2⟩ := is_lst.mp i2
  refine ⟨l, m, xs, ys, rfl, rfl, H.sub _ _ h1, H.sub _ _ h2, by rw [← a1.length, ← a2.length]; exact Nat.le_trans hl (by decide), fun p hp => ?_⟩
  have s := le_new hp (.lst (xs ++ ys))
  exact k _ _ _ s (is_lst.mpr ⟨p, _, rfl, upd_same, (a1.mono s).append (a2.mono s)⟩) q

def dNil : DTA := fun _ Q => Q []
def dCons (te : DTE) (t : DTA) : DTA := fun ρ Q => te ρ fun d => t ρ fun ds => Q (d :: ds)
variable {es : List Expr} {t : DTA}
theorem da_nil : DA X [] dNil := ⟨_, pa_nil, fun ρ σ H Q r h R k => k [] [] H (Le.refl H) (allIs_nil.mpr rfl) h⟩
theorem da_cons (ha : DE X a ta) (hr : DA X es t) (hs : starEach (a :: es) X.env = (false, eval a X.env) :: starEach es X.env := by rfl) : DA X (a :: es) (dCons ta t) := by
  obtain ⟨te, p1, l1⟩ := ha
  obtain ⟨tf, p2, l2⟩ := hr
  exact ⟨_, pa_cons p1 p2 hs, fun ρ σ H Q r h R k => l1 ρ σ H _ r h _ fun d v H1 s1 i1 q1 => l2 ρ σ H1 _ (r.mono s1) q1 _ fun ds vs H2 s2 i2 q2 =>
    k (d :: ds) (v :: vs) H2 (s1.trans s2) (allIs_cons.mpr ⟨v, vs, rfl, i1.mono s2, i2⟩) q2⟩
def dTup (t : DTA) : DTE := fun ρ Q => t ρ fun ds => Nat.ble ds.length 1000 = true ∧ Q (.tup ds)
def dLst (t : DTA) : DTE := fun ρ Q => t ρ fun ds => Nat.ble ds.length 1000 = true ∧ Q (.lst ds)
theorem de_tup {x1} (h : DA X es t) : DE X (.Tuple es x1 pos) (dTup t) := by
  obtain ⟨te, p1, l1⟩ := h
  refine ⟨_, pe_tup p1, fun ρ σ H Q r h R k => l1 ρ σ H _ r h _ fun ds vs H1 s1 i1 ⟨hl, q1⟩ => ⟨?_, fun p hp => ?_⟩⟩
  · rw [← i1.length]; exact Nat.le_trans (Nat.le_of_ble_eq_true hl) (by decide)
  · have s := le_new hp (.tup vs)
    exact k _ _ _ (s1.trans s) (is_tup.mpr ⟨p, vs, rfl, upd_same, i1.mono s⟩) q1
theorem de_lst (h : DA X es t) : DE X (.List es pos) (dLst t) := by
  obtain ⟨te, p1, l1⟩ := h
  refine ⟨_, pe_lst p1, fun ρ σ H Q r h R k => l1 ρ σ H _ r h _ fun ds vs H1 s1 i1 ⟨hl, q1⟩ => ⟨?_, fun p hp => ?_⟩⟩
  · rw [← i1.length]; exact Nat.le_trans (Nat.le_of_ble_eq_true hl) (by decide)
  · have s := le_new hp (.lst vs)
    exact k _ _ _ (s1.trans s) (is_lst.mpr ⟨p, vs, rfl, upd_same, i1.mono s⟩) q1

def seqOf : Dt → Option (List Dt)
  | .tup ds => some ds
  | .lst ds => some ds
  | .scr ns => some (ns.map .int)
  | _ => none
theorem seq_is {H : Vw} {d : Dt} {v : V} {ds : List Dt} (h : Is K H.g d v) (e : seqOf d = some ds) : ∃ a xs, v = .ref a ∧ (SqL K H.h a xs ∨ SqT K H.h a xs) ∧ AllIs K H.g ds xs := by
  cases d with
  | tup es =>
    obtain rfl : es = ds := Option.some.inj e
    obtain ⟨a, xs, rfl, h1, h2⟩ := is_tup.mp h
    exact ⟨a, xs, rfl, .inr (.of (H.sub _ _ h1)), h2⟩
  | lst es =>
    obtain rfl : es = ds := Option.some.inj e
    obtain ⟨a, xs, rfl, h1, h2⟩ := is_lst.mp h
    exact ⟨a, xs, rfl, .inl (.of (H.sub _ _ h1)), h2⟩
  | scr ns =>
    obtain rfl : ns.map Dt.int = ds := Option.some.inj e
    obtain ⟨a, rfl, h1⟩ := is_scr.mp h
    exact ⟨a, _, rfl, .inl (H.sub.seq h1), AllIs.ints⟩
  | _ => cases e
def dIx (ta tb : DTE) : DTE := fun ρ Q => ta ρ fun d => tb ρ fun e => ∃ ds i d', seqOf d = some ds ∧ e = .int i ∧ atI ds i = some d' ∧ Q d'
theorem de_ix (ha : DE X a ta) (hb : DE X b tb) (hs : PlainIx b) : DE X (.Subscript a b pos) (dIx ta tb) := by
  obtain ⟨te, p1, l1⟩ := ha
  obtain ⟨tf, p2, l2⟩ := hb
  refine ⟨_, pe_ix ix_seq p1 p2 hs, fun ρ σ H Q r h R k => l1 ρ σ H _ r h _ fun d v H1 s1 i1 q1 => l2 ρ σ H1 _ (r.mono s1) q1 _ fun e u H2 s2 i2 q2 => ?_⟩
  obtain ⟨ds, i, d', e1, e2, e3, q⟩ := q2
  subst e2
  obtain ⟨p, xs, e4, h1, h2⟩ := seq_is (i1.mono s2) e1
  obtain ⟨w, e5, h3⟩ := h2.atI e3
  rcases h1 with h1 | h1
  · exact .inl ⟨p, xs, i, w, e4, is_int.mp i2, h1, e5, k d' w H2 (s1.trans s2) h3 q⟩
  · exact .inr (.inl ⟨p, xs, i, w, e4, is_int.mp i2, h1, e5, k d' w H2 (s1.trans s2) h3 q⟩)
def dLen (t : DTE) : DTE := fun ρ Q => t ρ fun d => ∃ ds, seqOf d = some ds ∧ Q (.int ds.length)
theorem de_len {p : Pos} (hg : Gl X "len") (hm : X.mg "len" = none) (ha : DE X a ta) (hs : starEach [a] X.env = (false, eval a X.env) :: starEach [] X.env := by rfl) (hpl : (backTo pos (starEach [] X.env)).any (·.1) = false := by rfl) :
    DE X (.Call (.Name "len" p) [a] [] pos) (dLen ta) := by
  obtain ⟨te, p1, l1⟩ := ha
  refine ⟨_, pe_callB call_len_seq hg hm PySem.boot_len (pa_cons p1 pa_nil hs) (by decide) (by decide) hs hpl, fun ρ σ H Q r h R k => l1 ρ σ H _ r h _ fun d v H1 s1 i1 ⟨ds, e, q⟩ => ?_⟩
  obtain ⟨a, xs, rfl, h1, h2⟩ := seq_is i1 e
  exact ⟨a, xs, rfl, h1, by rw [← h2.length]; exact k _ _ H1 s1 (is_int.mpr rfl) q⟩
def cutD (xs : List Dt) (lo hi : Option Int) : List Dt := (xs.drop (HT.sIx xs.length 0 lo)).take (HT.sIx xs.length xs.length hi - HT.sIx xs.length 0 lo)
theorem AllIs.cut {G : Hp} {ds : List Dt} {xs : List V} (h : AllIs K G ds xs) (lo hi : Option Int) : AllIs K G (cutD ds lo hi) (cutV xs lo hi) := by
  unfold cutD cutV
  rw [← h.length]
  exact (h.drop _).take _
abbrev DTO := DS → (Option Int → Prop) → Prop
def DO (X : Cx) (e : Option Expr) (t : DTO) : Prop := ∃ te, PO X e te ∧ ∀ {F : Hp} (ρ : DS) (σ : St) (H : Vw) (Q : Option Int → Prop), Rl X.K (Zx X) F H ρ σ → t ρ Q → ∀ R : Option Int → Hp → Prop, (∀ o H', Le H H' → Q o → R o H'.h) → te σ H.h R
def dPart (t : DTE) : DTO := fun ρ Q => t ρ fun d => ∃ i, d = .int i ∧ Q (some i)
theorem do_some (ha : DE X a ta) : DO X (some a) (dPart ta) := by
  obtain ⟨te, p1, l1⟩ := ha
  refine ⟨_, po_some p1, fun ρ σ H Q r h R k => l1 ρ σ H _ r h _ fun d v H1 s1 i1 ⟨i, e, q⟩ => ?_⟩
  subst e
  exact ⟨i, is_int.mp i1, k _ H1 s1 q⟩
def listOf : Dt → Option (List Dt)
  | .lst ds => some ds
  | .scr ns => some (ns.map .int)
  | _ => none
theorem list_is {H : Vw} {d : Dt} {v : V} {ds : List Dt} (h : Is K H.g d v) (e : listOf d = some ds) : ∃ a xs, v = .ref a ∧ SqL K H.h a xs ∧ AllIs K H.g ds xs := by
  cases d with
  | lst es =>
    obtain rfl : es = ds := Option.some.inj e
    obtain ⟨a, xs, rfl, h1, h2⟩ := is_lst.mp h
    exact ⟨a, xs, rfl, .of (H.sub _ _ h1), h2⟩
  | scr ns =>
    obtain rfl : ns.map Dt.int = ds := Option.some.inj e
    obtain ⟨a, rfl, h1⟩ := is_scr.mp h
    exact ⟨a, _, rfl, H.sub.seq h1, AllIs.ints⟩
  | _ => cases e
def dSl (te : DTE) (tl th : DTO) : DTE := fun ρ Q => te ρ fun d => tl ρ fun l => th ρ fun u => ∃ ds, listOf d = some ds ∧ Q (.lst (cutD ds l u))
theorem de_slice {lo hi : Option Expr} {tl th : DTO} {p2 : Pos} (ha : DE X a ta) (hl : DO X lo tl) (hu : DO X hi th) : DE X (.Subscript a (.Slice lo hi none p2) pos) (dSl ta tl th) := by
  obtain ⟨te, p1, l1⟩ := ha
  obtain ⟨tf, p2, l2⟩ := hl
  obtain ⟨tg, p3, l3⟩ := hu
  refine ⟨_, pe_slice sl_list p1 p2 p3, fun ρ σ H Q r h R k => l1 ρ σ H _ r h _ fun d v H1 s1 i1 q1 => l2 ρ σ H1 _ (r.mono s1) q1 _ fun l H2 s2 q2 => l3 ρ σ H2 _ (r.mono (s1.trans s2)) q2 _ fun u H3 s3 ⟨ds, e, q⟩ => ?_⟩
  obtain ⟨a, xs, rfl, h1, h2⟩ := list_is (i1.mono (s2.trans s3)) e
  refine ⟨a, xs, rfl, h1, fun p hp => ?_⟩
  have s := le_new hp (.lst (cutV xs l u))
  exact k _ _ _ (((s1.trans s2).trans s3).trans s) (is_lst.mpr ⟨p, _, rfl, upd_same, (h2.cut l u).mono s⟩) q
end

def LiF (K : PySem.W.Frag) (Z : Hp) (te : TE) (t : DTE) : Prop :=
  ∀ {F : Hp} (ρ : DS) (σ : St) (H : Vw) (Q : Dt → Prop), Rl K Z F H ρ σ → t ρ Q → ∀ R : VK,
    (∀ es p xs H', Le H H' → H.h p = none → H'.h p = some (.lst xs) → H'.g p = none → AllIs K H'.g es xs → Q (.lst es) → R (.ref p) H'.h) → te σ H.h R
def DF (X : Cx) (e : Expr) (t : DTE) : Prop := ∃ te, PE X e te ∧ LiF X.K (Zx X) te t
theorem le_frz {H H' : Vw} {p : Addr} {o : HO} (s : Le H H') (h0 : H.h p = none) (h1 : H'.h p = some o) (h2 : H'.g p = none) : Le H (H'.frz p o h1) :=
  ⟨s.g.trans (same_new h2 o), s.h, fun a z1 z2 => by
    have : a ≠ p := fun e => z1 (e ▸ h0)
    show upd H'.g p o a = none
    rw [upd_ne this]; exact s.n a z1 z2⟩
section
variable {X : Cx} {a b c e : Expr} {ta tb tc : DTE} {t : DTA} {pos p0 p1 p2 : Pos} {es : List Expr}
theorem DF.de {t : DTE} (h : DF X e t) : DE X e t := by
  obtain ⟨te, p, l⟩ := h
  exact ⟨te, p, fun ρ σ H Q r h R k => l ρ σ H Q r h R fun es q xs H' s h0 h1 h2 i z => k (.lst es) (.ref q) (H'.frz q _ h1) (le_frz s h0 h1 h2) (is_lst.mpr ⟨q, xs, rfl, upd_same, AllIs.mono0 (same_new h2 _) i⟩) z⟩
theorem df_lst (h : DA X es t) : DF X (.List es pos) (dLst t) := by
  obtain ⟨te, p1, l1⟩ := h
  refine ⟨_, pe_lst p1, fun ρ σ H Q r h R k => l1 ρ σ H _ r h _ fun ds vs H1 s1 i1 ⟨hl, q1⟩ => ⟨?_, fun p hp => ?_⟩⟩
  · rw [← i1.length]; exact Nat.le_trans (Nat.le_of_ble_eq_true hl) (by decide)
  · exact k ds p vs (H1.mine p (.lst vs) (H1.sub.free hp)) (s1.trans (le_mine hp _)) (s1.h.free hp) upd_same (H1.sub.free hp) i1 q1
theorem AllIs.rep {G : Hp} {ds : List Dt} {xs : List V} (h : AllIs K G ds xs) : ∀ k : Nat, AllIs K G (List.replicate k ds).flatten (List.replicate k xs).flatten
  | 0 => allIs_nil.mpr rfl
  | k + 1 => by
    rw [List.replicate_succ, List.replicate_succ, List.flatten_cons, List.flatten_cons]
    exact h.append (h.rep k)
def gRep : Dt → Dt → (Dt → Prop) → Prop := fun d e Q => ∃ ds k, d = .lst ds ∧ e = .int k ∧ -16000000 ≤ k ∧ k ≤ 16000000 ∧ ds.length * k.toNat ≤ 16000000 ∧ Q (.lst (List.replicate k.toNat ds).flatten)
theorem df_rep (ha : DE X a ta) (hb : DE X b tb) : DF X (.BinOp a .Mult b pos) (dOp gRep ta tb) := by
  obtain ⟨te, p1, l1⟩ := ha
  obtain ⟨tf, p2, l2⟩ := hb
  refine ⟨_, pe_op op_rep p1 p2, fun ρ σ H Q r h R k => l1 ρ σ H _ r h _ fun d v H1 s1 i1 q1 => l2 ρ σ H1 _ (r.mono s1) q1 _ fun e u H2 s2 i2 q2 => ?_⟩
  obtain ⟨ds, n, rfl, rfl, hn1, hn2, hl, q⟩ := q2
  obtain ⟨l, xs, rfl, h1, a1⟩ := is_lst.mp (i1.mono s2)
  refine ⟨l, n, xs, rfl, is_int.mp i2, H2.sub _ _ h1, by omega, by omega, by rw [← a1.length]; exact Nat.le_trans hl (by decide), fun p hp => ?_⟩
  exact k _ p _ (H2.mine p _ (H2.sub.free hp)) ((s1.trans s2).trans (le_mine hp _)) ((s1.trans s2).h.free hp) upd_same (H2.sub.free hp) (a1.rep _) q
def dList (ta : DTE) : DTE := fun ρ Q => ta ρ fun d => ∃ ds, seqOf d = some ds ∧ Q (.lst ds)
theorem df_list (hg : Gl X "list") (hm : X.mg "list" = none) (ha : DE X a ta) (hs : starEach [a] X.env = (false, eval a X.env) :: starEach [] X.env := by rfl) (hpl : (backTo pos (starEach [] X.env)).any (·.1) = false := by rfl) :
    DF X (.Call (.Name "list" p0) [a] [] pos) (dList ta) := by
  obtain ⟨te, p1, l1⟩ := ha
  refine ⟨_, pe_callTy call_list_of hg hm PyProof.Rows.boot_list (pa_cons p1 pa_nil hs) (by decide) (by decide) hs hpl, fun ρ σ H Q r h R k => l1 ρ σ H _ r h _ fun d v H1 s1 i1 ⟨ds, e, q⟩ => ?_⟩
  obtain ⟨a, xs, rfl, h1, h2⟩ := seq_is i1 e
  exact ⟨a, xs, rfl, h1, fun p hp => k _ p _ (H1.mine p _ (H1.sub.free hp)) (s1.trans (le_mine hp _)) (s1.h.free hp) upd_same (H1.sub.free hp) h2 q⟩

variable {i : Nat} {x : Str}
def dLenO (i : Nat) : DTE := fun ρ Q => ∃ ds, ρ[i]? = some (.own ds) ∧ Q (.int ds.length)
theorem de_lenO (i : Nat) (hg : Gl X "len") (hm : X.mg "len" = none) (hN : X.N[i]? = some x := by rfl) (hv : Vis X.env.scope x := by first | exact Or.inl rfl | exact Or.inr (Or.inl rfl) | exact Or.inr (Or.inr rfl)) (hd : (x == ("__debug__" : Str)) = false := by decide)
    (hcd : (x == ("__classdict__" : Str)) = false := by decide) (hs : starEach [.Name x p1] X.env = (false, eval (.Name x p1) X.env) :: starEach [] X.env := by rfl) (hpl : (backTo pos (starEach [] X.env)).any (·.1) = false := by rfl) :
    DE X (.Call (.Name "len" p0) [.Name x p1] [] pos) (dLenO i) := by
  refine ⟨_, pe_callB call_len_seq hg hm PySem.boot_len (pa_cons (pe_var hN hv hd hcd) pa_nil hs) (by decide) (by decide) hs hpl, fun ρ σ H Q r h R k => ?_⟩
  obtain ⟨ds, e, q⟩ := h
  obtain ⟨a, xs, e1, e2, e3, e4, e5⟩ := r.ow i ds e
  exact ⟨.ref a, e1, a, xs, rfl, .inl (.of e2), by rw [← e5.length]; exact k _ _ H (Le.refl H) (is_int.mpr rfl) q⟩
def dIxO (i : Nat) (tb : DTE) : DTE := fun ρ Q => ∃ ds, ρ[i]? = some (.own ds) ∧ tb ρ fun e => ∃ k d, e = .int k ∧ atI ds k = some d ∧ Q d
theorem de_ixO (i : Nat) (hb : DE X b tb) (hs : PlainIx b) (hN : X.N[i]? = some x := by rfl) (hv : Vis X.env.scope x := by first | exact Or.inl rfl | exact Or.inr (Or.inl rfl) | exact Or.inr (Or.inr rfl)) (hd : (x == ("__debug__" : Str)) = false := by decide)
    (hcd : (x == ("__classdict__" : Str)) = false := by decide) : DE X (.Subscript (.Name x p1) b pos) (dIxO i tb) := by
  obtain ⟨tf, p2, l2⟩ := hb
  refine ⟨_, pe_ix ix_list (pe_var hN hv hd hcd) p2 hs, fun ρ σ H Q r h R k => ?_⟩
  obtain ⟨ds, e, h⟩ := h
  obtain ⟨a, xs, e1, e2, e3, e4, e5⟩ := r.ow i ds e
  refine ⟨.ref a, e1, l2 ρ σ H _ r h _ fun e u H2 s2 i2 ⟨n, d, en, ed, q⟩ => ?_⟩
  subst en
  obtain ⟨v, ev, iv⟩ := e5.atI ed
  exact ⟨a, xs, n, v, rfl, is_int.mp i2, .of (s2.h _ _ e2), ev, k d v H2 s2 (iv.mono s2) q⟩
def dTruO (i : Nat) : DTT := fun ρ Q => ∃ ds, ρ[i]? = some (.own ds) ∧ Q (!ds.isEmpty)
theorem allIs_empty {G : Hp} {ds : List Dt} {xs : List V} (h : AllIs K G ds xs) : (!xs.isEmpty) = !ds.isEmpty := by
  cases ds with
  | nil => rw [allIs_nil.mp h]; rfl
  | cons d ds => obtain ⟨x, r, rfl, _⟩ := allIs_cons.mp h; rfl
theorem dt_truO (i : Nat) (hN : X.N[i]? = some x := by rfl) (hv : Vis X.env.scope x := by first | exact Or.inl rfl | exact Or.inr (Or.inl rfl) | exact Or.inr (Or.inr rfl)) (hd : (x == ("__debug__" : Str)) = false := by decide)
    (hcd : (x == ("__classdict__" : Str)) = false := by decide) (he : ∀ whole, isTrue (.Name x p1) X.env whole = (do let v ← whole; standAt (Expr.Name x p1).pos; holding [v] (truthy v)) := by intro _; rfl) : DT X (.Name x p1) (dTruO i) := by
  refine ⟨_, pt_truth (pe_var hN hv hd hcd) he, fun ρ σ H Q r h R k => ?_⟩
  obtain ⟨ds, e, q⟩ := h
  obtain ⟨a, xs, e1, e2, e3, e4, e5⟩ := r.ow i ds e
  exact ⟨.ref a, e1, !ds.isEmpty, .inl ⟨xs, .of e2, (allIs_empty e5).symm⟩, k _ H (Le.refl H) q⟩
def dTru (ta : DTE) : DTT := fun ρ Q => ta ρ fun d => ∃ ds, listOf d = some ds ∧ Q (!ds.isEmpty)
theorem dt_tru (ha : DE X a ta) (he : ∀ whole, isTrue a X.env whole = (do let v ← whole; standAt a.pos; holding [v] (truthy v)) := by intro _; rfl) : DT X a (dTru ta) := by
  obtain ⟨te, p1, l1⟩ := ha
  refine ⟨_, pt_truth p1 he, fun ρ σ H Q r h R k => l1 ρ σ H _ r h _ fun d v H1 s1 i1 ⟨ds, e, q⟩ => ?_⟩
  obtain ⟨a, xs, rfl, h1, h2⟩ := list_is i1 e
  exact ⟨!ds.isEmpty, .inl ⟨xs, h1, (allIs_empty h2).symm⟩, k _ H1 s1 q⟩

def fz : Sl → Sl
  | .own ds => .some (.lst ds)
  | .arg _ ds => .some (.lst ds)
  | s => s
open Classical in
theorem Rl.bor {ρ : DS} {σ : St} (r : Rl K Z F W ρ σ) : ∃ W' : Vw, W'.h = W.h ∧ Same W.g W'.g ∧ Rl K Z F W' (ρ.map fz) σ ∧ ∀ a o, W'.g a = some o → W.g a = some o ∨ ∃ xs, o = .lst xs := by
  let ow : Addr → Prop := fun a => ∃ (i : Nat) (ds : List Dt), (ρ[i]? = some (Sl.own ds) ∧ σ[i]? = some (some (V.ref a))) ∨ ρ[i]? = some (Sl.arg a ds)
  have own_at : ∀ a, ow a → W.g a = none := fun a ⟨i, ds, h⟩ => by
    rcases h with ⟨e, ea⟩ | e
    · obtain ⟨b, xs, e1, _, e3, _⟩ := r.ow i ds e
      rw [ea] at e1
      cases e1
      exact e3
    · exact (r.ar i a ds e).1.choose_spec.2.2.1
  let g : Hp := fun a => if ow a then W.h a else W.g a
  have gs : Same W.g g := fun b o q => by
    show (if ow b then W.h b else W.g b) = some o
    by_cases hb : ow b
    · rw [own_at b hb] at q; cases q
    · rw [if_neg hb]; exact q
  have sub : Same g W.h := fun b o q => by
    have q' : (if ow b then W.h b else W.g b) = some o := q
    by_cases hb : ow b
    · rw [if_pos hb] at q'; exact q'
    · rw [if_neg hb] at q'; exact W.sub _ _ q'
  have cls : ∀ (i : Nat) (y : Sl), (ρ.map fz)[i]? = some y → (∃ d, ρ[i]? = some (.some d) ∧ y = .some d) ∨ (∃ ds, (ρ[i]? = some (.own ds) ∨ ∃ a, ρ[i]? = some (.arg a ds)) ∧ y = .some (.lst ds)) ∨ y = .none := fun i y e => by
    rw [List.getElem?_map] at e
    cases q : ρ[i]? with
    | none => rw [q] at e; cases e
    | some z =>
      rw [q] at e
      have e' := (Option.some.inj e).symm
      cases z with
      | none => exact .inr (.inr e')
      | some d => exact .inl ⟨d, rfl, e'⟩
      | own ds => exact .inr (.inl ⟨ds, .inl rfl, e'⟩)
      | arg a ds => exact .inr (.inl ⟨ds, .inr ⟨a, rfl⟩, e'⟩)
  have gl : ∀ a o, g a = some o → W.g a = some o ∨ ∃ xs, o = HO.lst xs := fun a o q => by
    have q' : (if ow a then W.h a else W.g a) = some o := q
    by_cases hb : ow a
    · rw [if_pos hb] at q'
      obtain ⟨i, ds, h⟩ := hb
      rcases h with ⟨e, ea⟩ | e
      · obtain ⟨b, xs, e1, e2, _⟩ := r.ow i ds e
        rw [ea] at e1
        cases e1
        rw [e2] at q'
        exact .inr ⟨xs, (Option.some.inj q').symm⟩
      · obtain ⟨⟨xs, _, e2, _⟩, _, _⟩ := r.ar i a ds e
        rw [e2] at q'
        exact .inr ⟨xs, (Option.some.inj q').symm⟩
    · rw [if_neg hb] at q'
      exact .inl q'
  refine ⟨⟨g, W.h, sub⟩, rfl, gs, ⟨by rw [List.length_map]; exact r.len, fun i d e => ?_, fun i ds e => ?_, fun i j ds es _ e _ => ?_, r.fr, r.z, fun i a ds e => ?_⟩, gl⟩
  · rcases cls i _ e with ⟨d', q, e1⟩ | ⟨ds, q, e1⟩ | e1
    · cases e1
      obtain ⟨v, h1, h2⟩ := r.at_ i d q
      exact ⟨v, h1, Is.mono0 gs h2⟩
    · cases e1
      rcases q with q | ⟨b, q⟩
      · obtain ⟨b, xs, e1, e2, e3, e4, e5⟩ := r.ow i ds q
        have hb : ow b := ⟨i, ds, .inl ⟨q, e1⟩⟩
        exact ⟨_, e1, is_lst.mpr ⟨b, xs, rfl, (if_pos hb).trans e2, AllIs.mono0 gs e5⟩⟩
      · obtain ⟨⟨xs, e1, e2, e3, e4, e5⟩, _, _⟩ := r.ar i b ds q
        have hb : ow b := ⟨i, ds, .inr q⟩
        exact ⟨_, e1, is_lst.mpr ⟨b, xs, rfl, (if_pos hb).trans e2, AllIs.mono0 gs e5⟩⟩
    · cases e1
  · rcases cls i _ e with ⟨d', q, e1⟩ | ⟨ds, q, e1⟩ | e1 <;> cases e1
  · rcases cls i _ e with ⟨d', q, e1⟩ | ⟨ds, q, e1⟩ | e1 <;> cases e1
  · rcases cls i _ e with ⟨d', q, e1⟩ | ⟨ds, q, e1⟩ | e1 <;> cases e1
theorem bor_back {H W' H1 : Vw} (e : W'.h = H.h) (s1 : Le W' H1) (sg : Same H.g W'.g) : ∃ H2 : Vw, H2.h = H1.h ∧ H2.g = H.g ∧ Le H H2 :=
  ⟨⟨H.g, H1.h, (sg.trans s1.g).trans H1.sub⟩, rfl, rfl, Same.refl _, e ▸ s1.h, fun _ _ h => h⟩
def scalD : Dt → Bool
  | .non => true | .bl _ => true | .int _ => true | .str _ => true | _ => false
theorem scal_is {G G' : Hp} {d : Dt} {v : V} (h : scalD d = true) (i : Is K G d v) : Is K G' d v := by
  cases d with
  | non => exact is_non.mpr (is_non.mp i)
  | bl b => exact is_bl.mpr (is_bl.mp i)
  | int b => exact is_int.mpr (is_int.mp i)
  | str b => exact is_str.mpr (is_str.mp i)
  | _ => cases h
def dBor (t : DTE) : DTE := fun ρ Q => t (ρ.map fz) fun d => scalD d = true ∧ Q d
theorem de_bor {t : DTE} (h : DE X e t) : DE X e (dBor t) := by
  obtain ⟨te, p, l⟩ := h
  refine ⟨te, p, fun ρ σ H Q r hq R k => ?_⟩
  obtain ⟨W', e, sg, r', _⟩ := r.bor
  have := l (ρ.map fz) σ W' _ r' hq R fun d v H1 s1 i1 ⟨hs, q1⟩ => by
    obtain ⟨H2, e2, _, s2⟩ := bor_back e s1 sg
    rw [← e2]
    exact k d v H2 s2 (scal_is hs i1) q1
  rw [e] at this
  exact this
end

abbrev DSp := List Dt → (Dt → Prop) → Prop
def PureSp (K : PySem.W.Frag) (S : DSp) : Sp := fun vs H Q _ => ∃ (W : Vw) (ds : List Dt) (Qd : Dt → Prop), W.h = H ∧ AllIs K W.g ds vs ∧ S ds Qd ∧ ∀ d v W', Le W W' → Is K W'.g d v → Qd d → Q v W'.h
def FreshSp (K : PySem.W.Frag) (S : DSp) : Sp := fun vs H Q _ => ∃ (W : Vw) (ds : List Dt) (Qd : Dt → Prop), W.h = H ∧ AllIs K W.g ds vs ∧ S ds Qd ∧
  ∀ es p xs W', Le W W' → W.h p = none → W'.h p = some (.lst xs) → W'.g p = none → AllIs K W'.g es xs → Qd (.lst es) → Q (.ref p) W'.h
structure DOk (P : Program) (w : World) (K : PySem.W.Frag) (mg : Str → Option Value) (base : Heap) (n : Nat) (x : Str) (S : DSp) : Prop where
  ex : ∃ f fd ps, mg x = some (.ref f) ∧ PySem.W.keepIn K (.ref f) = true ∧ Binds K fd ps [] ∧ FnOk P w K mg base CX0 n f fd ps (PureSp K S)
structure FOk (P : Program) (w : World) (K : PySem.W.Frag) (mg : Str → Option Value) (base : Heap) (n : Nat) (x : Str) (S : DSp) : Prop where
  ex : ∃ f fd ps, mg x = some (.ref f) ∧ PySem.W.keepIn K (.ref f) = true ∧ Binds K fd ps [] ∧ FnOk P w K mg base CX0 n f fd ps (FreshSp K S)
structure MOk (P : Program) (w : World) (K : PySem.W.Frag) (mg : Str → Option Value) (base : Heap) (n : Nat) (C : Addr) (m : Str) (S : DSp) : Prop where
  cl : Cls K C
  ex : ∃ f fd ps, Meth K C m f ∧ Binds K fd ps [] ∧ FnOk P w K mg base CX0 n f fd ps (PureSp K S)
structure FMOk (P : Program) (w : World) (K : PySem.W.Frag) (mg : Str → Option Value) (base : Heap) (n : Nat) (C : Addr) (m : Str) (S : DSp) : Prop where
  cl : Cls K C
  ex : ∃ f fd ps, Meth K C m f ∧ Binds K fd ps [] ∧ FnOk P w K mg base CX0 n f fd ps (FreshSp K S)
section
variable {X : Cx} {a b c e o : Expr} {ta tb tc : DTE} {pos p apos : Pos} {es : List Expr} {t : DTA} {n : Nat} {x m : Str} {S : DSp}
def dCall (S : DSp) (t : DTA) : DTE := fun ρ Q => t ρ fun ds => S ds Q
theorem de_call (G : DOk X.prog X.w X.K X.mg X.base n x S) (hr : Room n X.A) (hg : Gl X x) (ha : DA X (e :: es) t) (hdb : (x == ("__debug__" : Str)) = false := by decide)
    (he : starEach (e :: es) X.env = (false, eval e X.env) :: starEach es X.env := by rfl) (hpl : (backTo pos (starEach es X.env)).any (·.1) = false := by rfl) : DE X (.Call (.Name x p) (e :: es) [] pos) (dCall S t) := by
  obtain ⟨f, fd, ps, hm, hk, hb, F⟩ := G.ex
  obtain ⟨te, p1, l1⟩ := ha
  refine ⟨_, pe_call F hr hg hm hk hb .nil pass0 p1 hdb he hpl, fun ρ σ H Q r h R k => l1 ρ σ H _ r h _ fun ds vs H1 s1 i1 q1 => ?_⟩
  rw [List.append_nil]
  exact ⟨H1, ds, Q, rfl, i1, q1, fun d v H2 s2 i2 q2 => k d v H2 (s1.trans s2) i2 q2⟩
theorem df_call (G : FOk X.prog X.w X.K X.mg X.base n x S) (hr : Room n X.A) (hg : Gl X x) (ha : DA X (e :: es) t) (hdb : (x == ("__debug__" : Str)) = false := by decide)
    (he : starEach (e :: es) X.env = (false, eval e X.env) :: starEach es X.env := by rfl) (hpl : (backTo pos (starEach es X.env)).any (·.1) = false := by rfl) : DF X (.Call (.Name x p) (e :: es) [] pos) (dCall S t) := by
  obtain ⟨f, fd, ps, hm, hk, hb, F⟩ := G.ex
  obtain ⟨te, p1, l1⟩ := ha
  refine ⟨_, pe_call F hr hg hm hk hb .nil pass0 p1 hdb he hpl, fun ρ σ H Q r h R k => l1 ρ σ H _ r h _ fun ds vs H1 s1 i1 q1 => ?_⟩
  rw [List.append_nil]
  exact ⟨H1, ds, Q, rfl, i1, q1, fun es p xs H2 s2 h0 h1 h2 i2 q2 => k es p xs H2 (s1.trans s2) (s1.h.free h0) h1 h2 i2 q2⟩
def tMethD (X : Cx) (n : Nat) (m : Str) (ta : TE) (t : TA) : TE := fun σ H Q => ta σ H fun x H1 => ∃ a dx fs C f fd ps sp, x = .ref a ∧ H1 a = some (.ins C dx fs) ∧ fs.lookup m = none ∧ Cls X.K C ∧ Meth X.K C m f ∧ Binds X.K fd ps [] ∧
  FnOk X.prog X.w X.K X.mg X.base CX0 n f fd ps sp ∧ t σ H1 fun vs H2 => sp (x :: vs) H2 Q E0
theorem pe_methD {pl : Sem Bool} {te : TE} {tt : TA} (he : PE X o te) (hr : Room n X.A) (ha : PA X (e :: es) tt)
    (hst : starEach (e :: es) X.env = (false, eval e X.env) :: starEach es X.env := by rfl) (hpl : (backTo pos (starEach es X.env)).any (·.1) = false := by rfl)
    (ht : eval (.Call (.Attribute o m apos) (e :: es) [] pos) X.env = (do
      let ov ← eval o X.env
      standAt apos.atName
      let (f, first) ← holding [ov] (getMethod ov m pl)
      callWith pos f first (backTo pos (starEach (e :: es) X.env)) (backToKw pos (keywordEach [] X.env))) := by rfl) :
    PE X (.Call (.Attribute o m apos) (e :: es) [] pos) (tMethD X n m te tt) := by
  intro pins s σ H Q I h
  refine PySem.W.methodCall_KW (pl := pl) (thn (he pins s σ H _ I h) fun u s1 ⟨x, H1, I1, rx, a, dx, fs, C, f, fd, ps, sp, ex, ea, l, c, hm, hb, F, q⟩ => ?_) ht
  subst ex
  obtain rfl : u = Value.ref a := rx
  refine getmeth_ok I1 ea c hm l ?_
  refine PySem.W.callWith_K (first := [.ref a]) (h₀ := X.base) I.ok.mod.kin hm.kp (thn (ha pos pins s1 σ H1 _ I1 q) fun us s2 ⟨vs, H2, I2, r, q2⟩ => ⟨I2.kIn, ?_⟩) hst hpl
  exact run_fn (us := .ref a :: us) (vs := .ref a :: vs) (dvs := []) (E := E0) F hr hb .nil pass0 I2 (.cons rfl r) (by rw [List.append_nil]; exact q2)
def dMeth (X : Cx) (n : Nat) (m : Str) (ta : DTE) (t : DTA) : DTE := fun ρ Q => ta ρ fun d => ∃ C f k S, d = .way C f k ∧ (m == f) = false ∧ MOk X.prog X.w X.K X.mg X.base n C m S ∧ t ρ fun ds => S (d :: ds) Q
theorem de_meth {pl : Sem Bool} (hr : Room n X.A) (he : DE X o ta) (ha : DA X (e :: es) t)
    (hst : starEach (e :: es) X.env = (false, eval e X.env) :: starEach es X.env := by rfl) (hpl : (backTo pos (starEach es X.env)).any (·.1) = false := by rfl)
    (ht : eval (.Call (.Attribute o m apos) (e :: es) [] pos) X.env = (do
      let ov ← eval o X.env
      standAt apos.atName
      let (f, first) ← holding [ov] (getMethod ov m pl)
      callWith pos f first (backTo pos (starEach (e :: es) X.env)) (backToKw pos (keywordEach [] X.env))) := by rfl) :
    DE X (.Call (.Attribute o m apos) (e :: es) [] pos) (dMeth X n m ta t) := by
  obtain ⟨te, p0, l0⟩ := he
  obtain ⟨tt, p1, l1⟩ := ha
  refine ⟨_, pe_methD (pl := pl) p0 hr p1 hst hpl ht, fun ρ σ H Q r h R k => l0 ρ σ H _ r h _ fun d v H1 s1 i1 ⟨C, f, z, S, ed, hne, M, q1⟩ => ?_⟩
  subst ed
  obtain ⟨a, dx, rfl, ha⟩ := is_way.mp i1
  obtain ⟨g, fd, ps, hm, hb, F⟩ := M.ex
  refine ⟨a, dx, _, C, g, fd, ps, _, rfl, H1.sub _ _ ha, by simp [List.lookup, hne], M.cl, hm, hb, F, l1 ρ σ H1 _ (r.mono s1) q1 _ fun ds vs H2 s2 i2 q2 => ?_⟩
  exact ⟨H2, _, Q, rfl, allIs_cons.mpr ⟨_, _, rfl, i1.mono s2, i2⟩, q2, fun d v H3 s3 i3 q3 => k d v H3 ((s1.trans s2).trans s3) i3 q3⟩
def dFld (K : PySem.W.Frag) (f : Str) (ta : DTE) : DTE := fun ρ Q => ta ρ fun d => ∃ C g k, d = .way C g k ∧ (f == g) = true ∧ Cls K C ∧ NoAttr K C f ∧ Q (.int k)
theorem de_fld {f : Str} (ha : DE X a ta) (hb : attributeBase a f X.env (eval a X.env) = eval a X.env := by rfl) : DE X (.Attribute a f pos) (dFld X.K f ta) := by
  obtain ⟨te, p1, l1⟩ := ha
  refine ⟨_, pe_fld p1 hb, fun ρ σ H Q r h R k => l1 ρ σ H _ r h _ fun d v H1 s1 i1 ⟨C, g, z, ed, hfg, hc, hn, q1⟩ => ?_⟩
  subst ed
  obtain ⟨p, dx, rfl, hp⟩ := is_way.mp i1
  exact ⟨p, C, dx, _, .int z, rfl, H1.sub _ _ hp, hc, hn, by simp [List.lookup, hfg], k _ _ H1 s1 (is_int.mpr rfl) q1⟩
def spInitW (C : Addr) (f : Str) (ok : Int → Prop) : Sp := fun vs H Q _ => ∃ p dx i, vs = [.ref p, .int i] ∧ H p = some (.ins C dx []) ∧ ok i ∧ ∀ H' : Hp, H' p = some (.ins C dx [(f, .int i)]) → (∀ b o, H b = some o → b ≠ p → H' b = some o) → Q .non H'
structure KOk (P : Program) (w : World) (K : PySem.W.Frag) (mg : Str → Option Value) (base : Heap) (n : Nat) (x : Str) (C : Addr) (f : Str) (ok : Int → Prop) : Prop where
  ex : ∃ g fd ps, mg x = some (.ref C) ∧ Mk K C g ∧ Binds K fd ps [] ∧ FnOk P w K mg base CX0 n g fd ps (spInitW C f ok)
def dMake (C : Addr) (f : Str) (ok : Int → Prop) (t : DTA) : DTE := fun ρ Q => t ρ fun ds => ∃ i, ds = [.int i] ∧ ok i ∧ Q (.way C f i)
theorem de_make {C : Addr} {f : Str} {ok : Int → Prop} (G : KOk X.prog X.w X.K X.mg X.base n x C f ok) (hr : Room (n + 1) X.A) (hg : Gl X x) (ha : DA X (e :: es) t) (hdb : (x == ("__debug__" : Str)) = false := by decide)
    (he : starEach (e :: es) X.env = (false, eval e X.env) :: starEach es X.env := by rfl) (hpl : (backTo pos (starEach es X.env)).any (·.1) = false := by rfl) : DE X (.Call (.Name x p) (e :: es) [] pos) (dMake C f ok t) := by
  obtain ⟨g, fd, ps, hm, M, hb, F⟩ := G.ex
  obtain ⟨te, p1, l1⟩ := ha
  refine ⟨_, pe_make M F hr hg hm hb .nil pass0 p1 hdb he hpl, fun ρ σ H Q r h R k => l1 ρ σ H _ r h _ fun ds vs H1 s1 i1 ⟨i, ed, hok, q1⟩ y dy ny ndy ne => ?_⟩
  subst ed
  obtain ⟨v, rfl, hv⟩ := i1.one
  obtain rfl := is_int.mp hv
  refine ⟨y, dy, i, rfl, upd_same, hok, fun H' e1 e2 => ⟨rfl, ?_⟩⟩
  have keep : Same H1.h H' := fun b o hb => e2 b o (by rw [upd_ne (ne_of_none hb ny), upd_ne (ne_of_none hb ndy)]; exact hb) (ne_of_none hb ny)
  have gy : H1.g y = none := H1.sub.free ny
  exact k _ _ ⟨upd H1.g y (.ins C dy [(f, .int i)]), H', fun b u q => by
      by_cases e : b = y
      · subst e; rw [upd_same] at q; rw [e1]; exact q
      · rw [upd_ne e] at q; exact keep _ _ (H1.sub _ _ q)⟩
    (s1.trans ⟨same_new gy _, keep, fun a z1 z2 => by
      have : a ≠ y := fun e => z1 (e ▸ ny)
      show upd H1.g y _ a = none
      rw [upd_ne this]; exact z2⟩) (is_way.mpr ⟨y, dy, rfl, upd_same⟩) q1

structure KitT (K : PySem.W.Frag) : Prop where
  ib : PySem.W.kitOne K (.type "int") (.type "bool") = some false
  it : PySem.W.kitOne K (.type "int") (.type "tuple") = some false
  il : PySem.W.kitOne K (.type "int") (.type "list") = some false
  bi : PySem.W.kitOne K (.type "bool") (.type "int") = some true
  bt : PySem.W.kitOne K (.type "bool") (.type "tuple") = some false
  bl : PySem.W.kitOne K (.type "bool") (.type "list") = some false
  ti : PySem.W.kitOne K (.type "tuple") (.type "int") = some false
  tb : PySem.W.kitOne K (.type "tuple") (.type "bool") = some false
  tl : PySem.W.kitOne K (.type "tuple") (.type "list") = some false
  li : PySem.W.kitOne K (.type "list") (.type "int") = some false
  lb : PySem.W.kitOne K (.type "list") (.type "bool") = some false
  lt : PySem.W.kitOne K (.type "list") (.type "tuple") = some false
theorem kit_same {K : PySem.W.Frag} {t : Value} : PySem.W.kitOne K t t = some true := by
  unfold PySem.W.kitOne
  rw [if_pos (beq_self_eq_true t)]
theorem kit_bb {K : PySem.W.Frag} {t c : String} {b : Bool} (h1 : (Value.type t == Value.type c) = false) (h2 : PySem.W.kitMeta c = true) (h3 : (fastBuiltinMro t).map (·.contains (Value.type c)) = some b) : PySem.W.kitOne K (.type t) (.type c) = some b := by
  unfold PySem.W.kitOne PySem.W.kitCls
  rw [if_neg (by rw [h1]; decide)]
  show (if PySem.W.kitMeta c = true then PySem.W.subIn K (.type t) (.type c) else none) = some b
  rw [if_pos h2]
  exact h3
theorem kitT (K : PySem.W.Frag) : KitT K := by
  constructor <;> exact kit_bb (by decide +kernel) (by decide +kernel) (by decide +kernel)
inductive TyN where | int | bool | tuple | list
def TyN.str : TyN → String
  | .int => "int" | .bool => "bool" | .tuple => "tuple" | .list => "list"
def isiD : Dt → TyN → Option Bool
  | .int _, .int => some true | .int _, .bool => some false | .int _, .tuple => some false | .int _, .list => some false
  | .bl _, .int => some true | .bl _, .bool => some true | .bl _, .tuple => some false | .bl _, .list => some false
  | .tup _, .int => some false | .tup _, .bool => some false | .tup _, .tuple => some true | .tup _, .list => some false
  | .lst _, .int => some false | .lst _, .bool => some false | .lst _, .tuple => some false | .lst _, .list => some true
  | _, _ => none
theorem isi_ty {H : Vw} {d : Dt} {v : V} {T : TyN} {b : Bool} (kt : KitT K) (h : Is K H.g d v) (e : isiD d T = some b) : ∃ tv, TyOf K H.h v tv ∧ PySem.W.kitOne K tv (.type T.str) = some b := by
  cases d with
  | int i =>
    obtain rfl := is_int.mp h
    refine ⟨_, .int i, ?_⟩
    cases T <;> (obtain rfl := Option.some.inj e; first | exact kit_same | exact kt.ib | exact kt.it | exact kt.il)
  | bl i =>
    obtain rfl := is_bl.mp h
    refine ⟨_, .bl i, ?_⟩
    cases T <;> (obtain rfl := Option.some.inj e; first | exact kit_same | exact kt.bi | exact kt.bt | exact kt.bl)
  | tup ds =>
    obtain ⟨a, xs, rfl, h1, _⟩ := is_tup.mp h
    refine ⟨_, .tup (H.sub _ _ h1), ?_⟩
    cases T <;> (obtain rfl := Option.some.inj e; first | exact kit_same | exact kt.ti | exact kt.tb | exact kt.tl)
  | lst ds =>
    obtain ⟨a, xs, rfl, h1, _⟩ := is_lst.mp h
    refine ⟨_, .lst (H.sub _ _ h1), ?_⟩
    cases T <;> (obtain rfl := Option.some.inj e; first | exact kit_same | exact kt.li | exact kt.lb | exact kt.lt)
  | _ => cases T <;> cases e
theorem call_isi : CallR X (.builtin "isinstance") (fun xs H Q => ∃ v T tv b, xs = [v, .ty T] ∧ TyOf X.K H v tv ∧ PySem.W.kitOne X.K tv (.type T) = some b ∧ Q (.bl b) H) := by
  intro pins s σ H xs us Q I r h
  obtain ⟨v, T, tv, b, rfl, hty, hk, q⟩ := h
  cases r with
  | cons r1 r2 =>
    cases r2 with
    | cons r3 r4 =>
      cases r4
      cases r3
      exact isinst_ok I r1 hty hk fun tk => ⟨.bl b, H, I.tok _, rfl, q⟩
def dIsi (T : TyN) (ta : DTE) : DTE := fun ρ Q => ta ρ fun d => ∃ b, isiD d T = some b ∧ Q (.bl b)
theorem de_isi {T : TyN} {y : Str} {p' : Pos} (kt : KitT X.K) (hm : X.mg "isinstance" = none) (hmc : X.mg y = none) (hv : bootBuiltins y = some (.type T.str)) (ha : DE X a ta)
    (hg : Gl X "isinstance" := by rfl) (hgc : Gl X y := by rfl) (hny : y ≠ "__name__" := by decide) (hdy : (y == ("__debug__" : Str)) = false := by decide)
    (hs : starEach [a, .Name y p'] X.env = (false, eval a X.env) :: starEach [.Name y p'] X.env := by rfl) (hs2 : starEach [.Name y p'] X.env = (false, eval (.Name y p') X.env) :: starEach [] X.env := by rfl)
    (hpl : (backTo pos (starEach [.Name y p'] X.env)).any (·.1) = false := by rfl) :
    DE X (.Call (.Name "isinstance" p) [a, .Name y p'] [] pos) (dIsi T ta) := by
  obtain ⟨te, p1, l1⟩ := ha
  have pc : PE X (.Name y p') (tC (.ty T.str)) := pe_bltn hgc hmc hv rfl hny hdy
  refine ⟨_, pe_callB call_isi hg hm boot_isinstance (pa_cons p1 (pa_cons pc pa_nil hs2) hs) (by decide) (by decide) hs hpl, fun ρ σ H Q r h R k => l1 ρ σ H _ r h _ fun d v H1 s1 i1 ⟨b, e, q⟩ => ?_⟩
  obtain ⟨tv, h1, h2⟩ := isi_ty kt i1 e
  exact ⟨v, T.str, tv, b, rfl, h1, h2, k _ _ H1 s1 (is_bl.mpr rfl) q⟩
end

structure DEnds where
  nx : DS → Prop
  rt : Dt → Prop
  bk : DS → Prop := fun _ => False
  ct : DS → Prop := fun _ => False
abbrev DTS := DEnds → DS → Prop
structure At (K : PySem.W.Frag) (Z : Hp) (W0 : Vw) (G : Hp) (W : Vw) (ρ : DS) (σ : St) : Prop where
  le : Le W0 W
  gs : Same G W.g
  rl : Rl K Z W0.h W ρ σ
inductive Fr where | d | l | t (a b : Bool)
def NewL (K : PySem.W.Frag) (F : Hp) (W : Vw) (d : Dt) (v : V) : Prop := ∃ es p xs, d = .lst es ∧ v = .ref p ∧ F p = none ∧ W.h p = some (.lst xs) ∧ W.g p = none ∧ AllIs K W.g es xs
def Prt (K : PySem.W.Frag) (F : Hp) (W : Vw) (b : Bool) (d : Dt) (v : V) : Prop := match b with
  | false => Is K W.g d v
  | true => NewL K F W d v ∨ scalD d = true ∧ Is K W.g d v
def Tld (K : PySem.W.Frag) (F : Hp) (W : Vw) : Fr → Dt → V → Prop
  | .d, d, v => Is K W.g d v
  | .l, d, v => NewL K F W d v
  | .t a b, d, v => ∃ d1 d2 q u1 u2, d = .tup [d1, d2] ∧ v = .ref q ∧ W.g q = some (.tup [u1, u2]) ∧ Prt K F W a d1 u1 ∧ Prt K F W b d2 u2 ∧ (∀ es fs, a = true → b = true → d1 = .lst es → d2 = .lst fs → u1 ≠ u2)
structure Sim (K : PySem.W.Frag) (Z : Hp) (fr : Fr) (W0 : Vw) (G : Hp) (D : DEnds) (D' : Ends) : Prop where
  nx : ∀ ρ σ W', At K Z W0 G W' ρ σ → D.nx ρ → D'.nx σ W'.h
  tl : ∀ d v W', Le W0 W' → Tld K W0.h W' fr d v → D.rt d → D'.rt v W'.h
  bk : ∀ ρ σ W', At K Z W0 G W' ρ σ → D.bk ρ → D'.bk σ W'.h
  ct : ∀ ρ σ W', At K Z W0 G W' ρ σ → D.ct ρ → D'.ct σ W'.h
theorem NewL.le {F G : Hp} {W : Vw} {d : Dt} {v : V} (h : NewL K F W d v) (z : ∀ p, F p = none → G p = none) : NewL K G W d v :=
  let ⟨es, p, xs, h1, h2, h3, h4⟩ := h; ⟨es, p, xs, h1, h2, z p h3, h4⟩
theorem Sim.rf {Z : Hp} {fr : Fr} {W0 : Vw} {G : Hp} {D : DEnds} {D' : Ends} (s : Sim K Z fr W0 G D D') (hf : fr = .d ∨ fr = .l) (es : List Dt) (p : Addr) (xs : List V) (W' : Vw) (le : Le W0 W') (h0 : W0.h p = none) (h1 : W'.h p = some (.lst xs)) (h2 : W'.g p = none) (h3 : AllIs K W'.g es xs) (q : D.rt (.lst es)) : D'.rt (.ref p) W'.h := by
  rcases hf with rfl | rfl
  · exact s.tl (.lst es) (.ref p) (W'.frz p _ h1) (le_frz le h0 h1 h2) (is_lst.mpr ⟨p, xs, rfl, upd_same, AllIs.mono0 (same_new h2 _) h3⟩) q
  · exact s.tl (.lst es) (.ref p) W' le ⟨es, p, xs, rfl, rfl, h0, h1, h2, h3⟩ q
section
variable {W0 : Vw} {G G' : Hp} {ρ : DS} {σ : St} {fr : Fr}
theorem At.step (a : At K Z W0 G W ρ σ) (s : Le W W') : At K Z W0 G W' ρ σ := ⟨a.le.trans s, a.gs.trans s.g, a.rl.mono s⟩
theorem At.set (a : At K Z W0 G W ρ σ) {d : Dt} {v : V} (i : Nat) (h : Is K W.g d v) : At K Z W0 G W (ρ.set i (.some d)) (σ.set i (some v)) := ⟨a.le, a.gs, a.rl.set i h⟩
theorem At.weak (a : At K Z W0 G W ρ σ) (s : Same G' G) : At K Z W0 G' W ρ σ := ⟨a.le, s.trans a.gs, a.rl⟩
theorem At.own (a : At K Z W0 G W ρ σ) (s : Le W W') {p : Addr} {xs : List V} {ds : List Dt} (i : Nat) (h0 : W.h p = none) (h1 : W'.h p = some (.lst xs)) (h2 : W'.g p = none) (h3 : AllIs K W'.g ds xs) :
    At K Z W0 G W' (ρ.set i (.own ds)) (σ.set i (some (.ref p))) := ⟨a.le.trans s, a.gs.trans s.g, a.rl.own s i h0 h1 h2 h3⟩
theorem At.put (at_ : At K Z W0 G W ρ σ) {i : Nat} {ds es : List Dt} {a : Addr} {ys : List V} (hi : ρ[i]? = some (.own ds)) (ha : σ[i]? = some (some (.ref a))) (hg : W.g a = none) (hF : W0.h a = none) (h3 : AllIs K W.g es ys) :
    At K Z W0 G (W.mine a (.lst ys) hg) (ρ.set i (.own es)) σ :=
  ⟨⟨at_.le.g, fun b o q => by
      have : b ≠ a := fun e => by rw [e, hF] at q; cases q
      show upd W.h a _ b = some o
      rw [upd_ne this]; exact at_.le.h _ _ q, at_.le.n⟩, at_.gs, at_.rl.put hi ha hg hF h3⟩
theorem At.frz (at_ : At K Z W0 G W ρ σ) {i : Nat} {ds : List Dt} {a : Addr} {xs : List V} (hi : ρ[i]? = some (.own ds)) (ha : σ[i]? = some (some (.ref a))) (hh : W.h a = some (.lst xs)) (hg : W.g a = none) (hF : W0.h a = none) (h3 : AllIs K W.g ds xs) :
    At K Z W0 G (W.frz a _ hh) (ρ.set i (.some (.lst ds))) σ :=
  ⟨le_frz at_.le hF hh hg, at_.gs.trans (same_new hg _), at_.rl.frz hi ha hh hg h3⟩
theorem Sim.weak {D : DEnds} {D' : Ends} (h : Sim K Z fr W0 G' D D') (s : Same G' G) : Sim K Z fr W0 G D D' :=
  ⟨fun ρ σ W' a => h.nx ρ σ W' (a.weak s), h.tl, fun ρ σ W' a => h.bk ρ σ W' (a.weak s), fun ρ σ W' a => h.ct ρ σ W' (a.weak s)⟩
end
def LiS (K : PySem.W.Frag) (Z : Hp) (fr : Fr) (ts : TS) (t : DTS) : Prop := ∀ (W0 : Vw) (G : Hp) (ρ : DS) (σ : St) (W : Vw) (D : DEnds) (D' : Ends), At K Z W0 G W ρ σ → Sim K Z fr W0 G D D' → t D ρ → ts D' σ W.h
def DSt (X : Cx) (fr : Fr) (st : Stmt) (t : DTS) : Prop := ∃ ts, PS X st ts ∧ LiS X.K (Zx X) fr ts t
def DSs (X : Cx) (fr : Fr) (sts : List Stmt) (t : DTS) : Prop := ∃ ts, PSs X sts ts ∧ LiS X.K (Zx X) fr ts t
def dNext : DTS := fun D ρ => D.nx ρ
def dSeq (t u : DTS) : DTS := fun D ρ => t { D with nx := u D } ρ
def dRet (te : DTE) : DTS := fun D ρ => te ρ D.rt
def dRetO (i : Nat) : DTS := fun D ρ => ∃ ds, ρ[i]? = some (.own ds) ∧ D.rt (.lst ds)
def dSet (i : Nat) (te : DTE) : DTS := fun D ρ => te ρ fun d => D.nx (ρ.set i (.some d))
def dSetO (i : Nat) (te : DTE) : DTS := fun D ρ => te ρ fun d => ∃ ds, d = .lst ds ∧ D.nx (ρ.set i (.own ds))
def dIfS (c : DTT) (t u : DTS) : DTS := fun D ρ => c ρ fun b => if b = true then t D ρ else u D ρ
def dDrop (te : DTE) : DTS := fun D ρ => te ρ fun _ => D.nx ρ
def dNever : DTS := fun _ _ => False
def dForL (j : Nat) (te : DTE) (tb : DTS) : DTS := fun D ρ => te ρ fun d => ∃ (ds : List Dt) (Pv : Nat → DS → Prop), listOf d = some ds ∧ Pv 0 ρ ∧
  (∀ i e ρ', ds[i]? = some e → Pv i ρ' → tb { D with nx := Pv (i + 1), ct := Pv (i + 1), bk := D.nx } (ρ'.set j (.some e))) ∧ ∀ ρ', Pv ds.length ρ' → D.nx ρ'
def dForR (j : Nat) (te : DTE) (tb : DTS) : DTS := fun D ρ => te ρ fun d => ∃ (n : Int) (Pv : Nat → DS → Prop), d = .int n ∧ -(2 ^ 62) ≤ n ∧ n < 2 ^ 62 ∧ Pv 0 ρ ∧
  (∀ (i : Nat) ρ', i < n.toNat → Pv i ρ' → tb { D with nx := Pv (i + 1), ct := Pv (i + 1), bk := D.nx } (ρ'.set j (.some (.int i)))) ∧ ∀ ρ', Pv n.toNat ρ' → D.nx ρ'
def dForR2 (j : Nat) (ta : DTA) (tb : DTS) : DTS := fun D ρ => ta ρ fun ds => ∃ (m n : Int) (Pv : Nat → DS → Prop), ds = [.int m, .int n] ∧ -(2 ^ 62) ≤ m ∧ m < 2 ^ 62 ∧ -(2 ^ 62) ≤ n ∧ n < 2 ^ 62 ∧ Pv 0 ρ ∧
  (∀ (i : Nat) ρ', i < (n - m).toNat → Pv i ρ' → tb { D with nx := Pv (i + 1), ct := Pv (i + 1), bk := D.nx } (ρ'.set j (.some (.int (m + i))))) ∧ ∀ ρ', Pv (n - m).toNat ρ' → D.nx ρ'
def dWhile (c : DTT) (tb : DTS) : DTS := fun D ρ => ∃ Pv : Nat → DS → Prop, (∃ m, Pv m ρ) ∧ ∀ m ρ', Pv m ρ' →
  c ρ' fun b => if b = true then tb { D with nx := fun ρ2 => ∃ m', m' < m ∧ Pv m' ρ2, ct := fun ρ2 => ∃ m', m' < m ∧ Pv m' ρ2, bk := D.nx } ρ' else D.nx ρ'
section
variable {X : Cx} {fr : Fr} {st : Stmt} {rest : List Stmt} {t u : DTS} {e : Expr} {te : DTE} {pos p0 p1 p2 : Pos}
theorem dss_nil : DSs X fr [] dNext := ⟨_, pss_nil, fun W0 G ρ σ W D D' a s h => s.nx ρ σ W a h⟩
theorem dss_cons (h1 : DSt X fr st t) (h2 : DSs X fr rest u) : DSs X fr (st :: rest) (dSeq t u) := by
  obtain ⟨ts, p1, l1⟩ := h1
  obtain ⟨us, p2, l2⟩ := h2
  exact ⟨_, pss_cons p1 p2, fun W0 G ρ σ W D D' a s h => l1 W0 G ρ σ W { D with nx := u D } { D' with nx := us D' } a ⟨fun ρ' σ' W' a' q => l2 W0 G ρ' σ' W' D D' a' s q, s.tl, s.bk, s.ct⟩ h⟩
theorem dss_one (h : DSt X fr st t) : DSs X fr [st] t := let ⟨_, p, l⟩ := h; ⟨_, pss_one p, l⟩
def dFrz (i : Nat) (t : DTS) : DTS := fun D ρ => ∃ ds, ρ[i]? = some (.own ds) ∧ t D (ρ.set i (.some (.lst ds)))
theorem dss_frz (i : Nat) (h : DSs X fr rest t) : DSs X fr rest (dFrz i t) := by
  obtain ⟨ts, p, l⟩ := h
  refine ⟨ts, p, fun W0 G ρ σ W D D' a s h => ?_⟩
  obtain ⟨ds, e, q⟩ := h
  obtain ⟨b, xs, e1, e2, e3, e4, e5⟩ := a.rl.ow i ds e
  exact l W0 G _ σ (W.frz b _ e2) D D' (a.frz e e1 e2 e3 e4 e5) s q
theorem ds_ret (h : DE X e te) : DSt X .d (.Return (some e) pos) (dRet te) := by
  obtain ⟨tt, p, l⟩ := h
  exact ⟨_, ps_ret p, fun W0 G ρ σ W D D' a s h => l ρ σ W _ a.rl h _ fun d v W1 s1 i1 q1 => s.tl d v W1 (a.le.trans s1) i1 q1⟩
theorem ds_retF (h : DF X e te) (hf : fr = .d ∨ fr = .l := by first | exact .inl rfl | exact .inr rfl) : DSt X fr (.Return (some e) pos) (dRet te) := by
  obtain ⟨tt, p, l⟩ := h
  exact ⟨_, ps_ret p, fun W0 G ρ σ W D D' a s h => l ρ σ W _ a.rl h _ fun es q xs W1 s1 h0 h1 h2 i1 q1 => s.rf hf es q xs W1 (a.le.trans s1) (a.le.h.free h0) h1 h2 i1 q1⟩
theorem ds_retO (i : Nat) {x : Str} (hN : X.N[i]? = some x := by rfl) (hv : Vis X.env.scope x := by first | exact Or.inl rfl | exact Or.inr (Or.inl rfl) | exact Or.inr (Or.inr rfl)) (hd : (x == ("__debug__" : Str)) = false := by decide)
    (hcd : (x == ("__classdict__" : Str)) = false := by decide) (hf : fr = .d ∨ fr = .l := by first | exact .inl rfl | exact .inr rfl) : DSt X fr (.Return (some (.Name x p0)) pos) (dRetO i) := by
  refine ⟨_, ps_ret (pe_var hN hv hd hcd), fun W0 G ρ σ W D D' a s h => ?_⟩
  obtain ⟨ds, e, q⟩ := h
  obtain ⟨b, xs, e1, e2, e3, e4, e5⟩ := a.rl.ow i ds e
  exact ⟨.ref b, e1, s.rf hf ds b xs W a.le e4 e2 e3 e5 q⟩
theorem ds_expr (h : DE X e te) (hs : swapsWith e none pos.line X.env = pure false := by rfl) : DSt X fr (.Expr e pos) (dDrop te) := by
  obtain ⟨tt, p, l⟩ := h
  exact ⟨_, ps_expr p hs, fun W0 G ρ σ W D D' a s h => l ρ σ W _ a.rl h _ fun d v W1 s1 i1 q1 => s.nx ρ σ W1 (a.step s1) q1⟩
theorem ds_set {i : Nat} {x : Str} {pos' : Pos} (hN : X.N.Nodup) (hi : X.N[i]? = some x) (hx : Loc X.env.scope x) (h : DE X e te) (hs : swapsWith e (some (.Name x pos')) pos.line X.env = pure false := by rfl) (hf : X.fn x = true ∨ X.env.scope.names.lookup x = some .local := by first | exact .inl rfl | exact .inr rfl | assumption) :
    DSt X fr (.Assign [.Name x pos'] e pos) (dSet i te) := by
  obtain ⟨tt, p, l⟩ := h
  exact ⟨_, ps_set hN hi hx p hs hf, fun W0 G ρ σ W D D' a s h => l ρ σ W _ a.rl h _ fun d v W1 s1 i1 q1 => s.nx _ _ W1 ((a.step s1).set i i1) q1⟩
theorem ds_setO {i : Nat} {x : Str} {pos' : Pos} (hN : X.N.Nodup) (hi : X.N[i]? = some x) (hx : Loc X.env.scope x) (h : DF X e te) (hs : swapsWith e (some (.Name x pos')) pos.line X.env = pure false := by rfl) (hf : X.fn x = true ∨ X.env.scope.names.lookup x = some .local := by first | exact .inl rfl | exact .inr rfl | assumption) :
    DSt X fr (.Assign [.Name x pos'] e pos) (dSetO i te) := by
  obtain ⟨tt, p, l⟩ := h
  refine ⟨_, ps_set hN hi hx p hs hf, fun W0 G ρ σ W D D' a s h => l ρ σ W _ a.rl h _ fun es q xs W1 s1 h0 h1 h2 i1 ⟨ds, ed, q1⟩ => ?_⟩
  cases ed
  exact s.nx _ _ W1 (a.own s1 i h0 h1 h2 i1) q1
theorem ds_if {c : Expr} {a b : List Stmt} {tc : DTT} (hc : DT X c tc) (ha : DSs X fr a t) (hb : DSs X fr b u) : DSt X fr (.If c a b pos) (dIfS tc t u) := by
  obtain ⟨t0, p0, l0⟩ := hc
  obtain ⟨t1, p1, l1⟩ := ha
  obtain ⟨t2, p2, l2⟩ := hb
  refine ⟨_, ps_if p0 p1 p2, fun W0 G ρ σ W D D' a s h => l0 ρ σ W _ a.rl h _ fun k W1 s1 q1 => ?_⟩
  cases k with
  | true => exact l1 W0 G ρ σ W1 D D' (a.step s1) s q1
  | false => exact l2 W0 G ρ σ W1 D D' (a.step s1) s q1
theorem ds_never : DSt X fr st dNever := ⟨_, ps_never, fun _ _ _ _ _ _ _ _ _ h => h.elim⟩
def InL (K : PySem.W.Frag) (Z : Hp) (W0 W1 : Vw) (Pv : DS → Prop) (σ : St) (H : Hp) : Prop := ∃ (ρ : DS) (W : Vw), W.h = H ∧ At K Z W0 W1.g W ρ σ ∧ Pv ρ
theorem sim_loop {K : PySem.W.Frag} {W0 W1 : Vw} {G : Hp} {D : DEnds} {D' : Ends} {Pv : DS → Prop} (s : Sim K Z fr W0 G D D') (hg : Same G W1.g) :
    Sim K Z fr W0 W1.g { D with nx := Pv, ct := Pv, bk := D.nx } { D' with nx := InL K Z W0 W1 Pv, ct := InL K Z W0 W1 Pv, bk := D'.nx } :=
  ⟨fun ρ3 σ3 W3 a3 q3 => ⟨ρ3, W3, rfl, a3, q3⟩, s.tl, fun ρ3 σ3 W3 a3 q3 => s.nx ρ3 σ3 W3 (a3.weak hg) q3, fun ρ3 σ3 W3 a3 q3 => ⟨ρ3, W3, rfl, a3, q3⟩⟩
theorem At.now {K : PySem.W.Frag} {W0 : Vw} {G : Hp} {W : Vw} {ρ : DS} {σ : St} (a : At K Z W0 G W ρ σ) : At K Z W0 W.g W ρ σ := ⟨a.le, Same.refl _, a.rl⟩
theorem ds_for {j : Nat} {x : Str} {iter : Expr} {body : List Stmt} {tb : DTS} {px : Pos} (hc : X.calm = true) (hN : X.N.Nodup) (hi : X.N[j]? = some x) (hx : Loc X.env.scope x) (hp : PassesOwn (model X.prog X.w) X.A X.env X.xe)
    (h : DE X iter te) (hb : DSs X fr body tb) (hs : ∀ x, foldedSetIterable iter X.env x = pure x := by intro _; rfl)
    (hf : X.fn x = true ∨ X.env.scope.names.lookup x = some .local := by first | exact .inl rfl | exact .inr rfl | assumption) : DSt X fr (.For (.Name x px) iter body [] pos) (dForL j te tb) := by
  obtain ⟨tt, p, l⟩ := h
  obtain ⟨tbs, p2, l2⟩ := hb
  refine ⟨_, ps_for hp hc (pi_list p) (pg_name hN hi hx hf) p2 hs, fun W0 G ρ σ W D D' at_ s h => l ρ σ W _ at_.rl h _ fun d v W1 s1 i1 ⟨ds, Pv, el, h0, ht, hd⟩ => ?_⟩
  have hg : Same G W1.g := at_.gs.trans s1.g
  have hq : ∃ a xs, v = .ref a ∧ (∀ W2 : Vw, Same W1.g W2.g → SqL X.K W2.h a xs) ∧ AllIs X.K W1.g ds xs := by
    cases d with
    | lst es =>
      obtain rfl : es = ds := Option.some.inj el
      obtain ⟨a, xs, rfl, h1, h2⟩ := is_lst.mp i1
      exact ⟨a, xs, rfl, fun W2 s2 => .of (W2.sub _ _ (s2 _ _ h1)), h2⟩
    | scr ns =>
      obtain rfl : ns.map Dt.int = ds := Option.some.inj el
      obtain ⟨a, rfl, h1⟩ := is_scr.mp i1
      exact ⟨a, _, rfl, fun W2 s2 => W2.sub.seq (s2.seq h1), AllIs.ints⟩
    | _ => cases el
  obtain ⟨a, xs, rfl, hq, ha⟩ := hq
  refine ⟨a, rfl, ⟨xs, hq W1 (Same.refl _)⟩, for_list (K := X.K) (a := a) (xs := xs) (fun i => InL X.K (Zx X) W0 W1 (Pv i)) ⟨ρ, W1, rfl, (at_.step s1).now, h0⟩ (fun i σ' H' _ ⟨_, W2, e2, a2, _⟩ => e2 ▸ hq W2 a2.gs) ?_ ?_⟩
  · rintro i x σ' _ hi ⟨ρ', W2, rfl, a2, hp2⟩
    obtain ⟨e, he, ie⟩ := ha.get' hi
    exact l2 W0 W1.g _ _ W2 { D with nx := Pv (i + 1), ct := Pv (i + 1), bk := D.nx } _ (a2.set j (Is.mono0 a2.gs ie)) (sim_loop s hg) (ht i e ρ' he hp2)
  · rintro σ' _ ⟨ρ', W2, rfl, a2, hp2⟩
    exact s.nx ρ' σ' W2 (a2.weak hg) (hd ρ' (by rw [ha.length]; exact hp2))
theorem ds_forR {j : Nat} {x : Str} {a : Expr} {body : List Stmt} {tb : DTS} {px p0 pos1 : Pos} (hc : X.calm = true) (hN : X.N.Nodup) (hi : X.N[j]? = some x) (hx : Loc X.env.scope x) (hp : PassesOwn (model X.prog X.w) X.A X.env X.xe)
    (hg : Gl X "range") (hm : X.mg "range" = none) (h : DE X a te) (hb : DSs X fr body tb) (hs : ∀ x, foldedSetIterable (.Call (.Name "range" p0) [a] [] pos1) X.env x = pure x := by intro _; rfl)
    (hst : starEach [a] X.env = [(false, eval a X.env)] := by rfl) (hst2 : starEach [a] X.env = (false, eval a X.env) :: starEach [] X.env := by rfl)
    (hf : X.fn x = true ∨ X.env.scope.names.lookup x = some .local := by first | exact .inl rfl | exact .inr rfl | assumption) : DSt X fr (.For (.Name x px) (.Call (.Name "range" p0) [a] [] pos1) body [] pos) (dForR j te tb) := by
  obtain ⟨tt, p, l⟩ := h
  obtain ⟨tbs, p2, l2⟩ := hb
  refine ⟨_, ps_for hp hc (pi_range1 hg hm (pa_cons p pa_nil hst2) hst) (pg_name hN hi hx hf) p2 hs, fun W0 G ρ σ W D D' at_ s h => l ρ σ W _ at_.rl h _ fun d v W1 s1 i1 ⟨n, Pv, ed, n1, n2, h0, ht, hd⟩ => ?_⟩
  subst ed
  have hg : Same G W1.g := at_.gs.trans s1.g
  refine ⟨n, by rw [is_int.mp i1], n1, n2, for_range (lo := 0) (n := n.toNat) (fun i => InL X.K (Zx X) W0 W1 (Pv i)) ⟨ρ, W1, rfl, (at_.step s1).now, h0⟩ ?_ ?_⟩
  · rintro i σ' _ hi ⟨ρ', W2, rfl, a2, hp2⟩
    have ez : (0 : Int) + (i : Int) = (i : Int) := Int.zero_add _
    rw [ez]
    exact l2 W0 W1.g _ _ W2 { D with nx := Pv (i + 1), ct := Pv (i + 1), bk := D.nx } _ (a2.set j (is_int.mpr rfl)) (sim_loop s hg) (ht i ρ' hi hp2)
  · rintro σ' _ ⟨ρ', W2, rfl, a2, hp2⟩
    exact s.nx ρ' σ' W2 (a2.weak hg) (hd ρ' hp2)
theorem ds_while {c : Expr} {body : List Stmt} {tc : DTT} {tb : DTS} (hp : PassesOwn (model X.prog X.w) X.A X.env X.xe) (hc : DT X c tc) (hb : DSs X fr body tb) : DSt X fr (.While c body [] pos) (dWhile tc tb) := by
  obtain ⟨t0, p0, l0⟩ := hc
  obtain ⟨tbs, p2, l2⟩ := hb
  refine ⟨_, ps_while hp p0 p2, fun W0 G ρ σ W D D' at_ s h => ?_⟩
  obtain ⟨Pv, ⟨m0, h0⟩, ht⟩ := h
  refine ⟨fun m => InL X.K (Zx X) W0 W (Pv m), ⟨m0, ρ, W, rfl, at_.now, h0⟩, ?_⟩
  rintro m σ' _ ⟨ρ', W2, rfl, a2, hp2⟩
  refine l0 ρ' σ' W2 _ a2.rl (ht m ρ' hp2) _ fun b W3 s3 q3 => ?_
  have a3 := a2.step s3
  cases b with
  | true =>
    refine ⟨InL X.K (Zx X) W0 W (fun ρ2 => ∃ m', m' < m ∧ Pv m' ρ2), fun σ4 H4 ⟨ρ4, W4, e4, a4, m', hm, p4⟩ => ⟨m', hm, ρ4, W4, e4, a4, p4⟩, ?_⟩
    exact l2 W0 W.g _ _ W3 { D with nx := fun ρ2 => ∃ m', m' < m ∧ Pv m' ρ2, ct := fun ρ2 => ∃ m', m' < m ∧ Pv m' ρ2, bk := D.nx } _ a3 (sim_loop s at_.gs) q3
  | false => exact s.nx ρ' σ' W3 (a3.weak at_.gs) q3

variable {i : Nat} {x : Str}
def dApp (i : Nat) (te : DTE) : DTS := fun D ρ => ∃ ds, ρ[i]? = some (.own ds) ∧ te ρ fun d => ds.length ≤ 100000 ∧ D.nx (ρ.set i (.own (ds ++ [d])))
theorem ds_app (i : Nat) (h : DE X e te) (hN : X.N[i]? = some x := by rfl) (hv : Vis X.env.scope x := by first | exact Or.inl rfl | exact Or.inr (Or.inl rfl) | exact Or.inr (Or.inr rfl)) (hd : (x == ("__debug__" : Str)) = false := by decide)
    (hcd : (x == ("__classdict__" : Str)) = false := by decide) (hst : starEach [e] X.env = (false, eval e X.env) :: starEach [] X.env := by rfl) (hpl : (backTo p2 (starEach [] X.env)).any (·.1) = false := by rfl)
    (hfew : ((backTo p2 (starEach [e] X.env)).all (fun x => !x.1) && (backToKw p2 (keywordEach [] X.env)).all (fun x => x.1.isSome)
      && decide ([e].length + ([] : List Keyword).length + (if ([] : List Keyword).isEmpty then 0 else 1) < 30)) = true := by rfl)
    (hbase : attributeBase (.Name x p0) "append" X.env (eval (.Name x p0) X.env) = eval (.Name x p0) X.env := by rfl) (hline : (p1.endLine == p2.line) = true := by rfl)
    (hs : swapsWith (.Call (.Attribute (.Name x p0) "append" p1) [e] [] p2) none pos.line X.env = pure false := by rfl) :
    DSt X fr (.Expr (.Call (.Attribute (.Name x p0) "append" p1) [e] [] p2) pos) (dApp i te) := by
  obtain ⟨tt, p, l⟩ := h
  refine ⟨_, ps_expr (pe_bm PySem.F.plainAttrs_list PySem.F.slot_list_append PySem.F.type_list_append mt_append (pe_var hN hv hd hcd) (pa_cons p pa_nil hst) hbase hfew hline hst hpl) hs, fun W0 G ρ σ W D D' at_ s h => ?_⟩
  obtain ⟨ds, ei, h⟩ := h
  obtain ⟨b, xs, e1, e2, e3, e4, e5⟩ := at_.rl.ow i ds ei
  refine ⟨.ref b, e1, .inl ⟨rfl, xs, .of e2⟩, l ρ σ W _ at_.rl h _ fun d v W1 s1 i1 ⟨hl, q1⟩ => ?_⟩
  have a1 := at_.step s1
  have hg1 : W1.g b = none := s1.n b (by rw [e2]; intro z; cases z) e3
  refine ⟨b, xs, v, rfl, rfl, s1.h _ _ e2, by rw [← e5.length]; exact Nat.lt_of_le_of_lt hl (by decide), ?_⟩
  exact s.nx _ _ _ (a1.put ei e1 hg1 e4 ((e5.mono s1).append (allIs_cons.mpr ⟨v, [], rfl, i1, allIs_nil.mpr rfl⟩))) q1
theorem AllIs.dropLast {G : Hp} {ds : List Dt} {xs : List V} (h : AllIs K G ds xs) : AllIs K G ds.dropLast xs.dropLast := by
  rw [List.dropLast_eq_take, List.dropLast_eq_take, h.length]
  exact h.take _
theorem AllIs.reverse {G : Hp} : ∀ {ds : List Dt} {xs : List V}, AllIs K G ds xs → AllIs K G ds.reverse xs.reverse
  | [], _, h => by rw [allIs_nil.mp h]; exact allIs_nil.mpr rfl
  | d :: ds, _, h => by
    obtain ⟨x, r, rfl, h1, h2⟩ := allIs_cons.mp h
    rw [List.reverse_cons, List.reverse_cons]
    exact (AllIs.reverse h2).append (allIs_cons.mpr ⟨x, [], rfl, h1, allIs_nil.mpr rfl⟩)
theorem AllIs.set {G : Hp} : ∀ {ds : List Dt} {xs : List V} {d : Dt} {v : V} (j : Nat), AllIs K G ds xs → Is K G d v → AllIs K G (ds.set j d) (xs.set j v)
  | [], _, _, _, _, h, _ => by rw [allIs_nil.mp h]; exact allIs_nil.mpr rfl
  | d :: ds, _, _, _, 0, h, i => by
    obtain ⟨x, r, rfl, h1, h2⟩ := allIs_cons.mp h
    exact allIs_cons.mpr ⟨_, _, rfl, i, h2⟩
  | d :: ds, _, _, _, j + 1, h, i => by
    obtain ⟨x, r, rfl, h1, h2⟩ := allIs_cons.mp h
    exact allIs_cons.mpr ⟨_, _, rfl, h1, AllIs.set j h2 i⟩
def dPop (i : Nat) : DTS := fun D ρ => ∃ ds, ρ[i]? = some (.own ds) ∧ ds.isEmpty = false ∧ D.nx (ρ.set i (.own ds.dropLast))
theorem ds_pop (i : Nat) (hN : X.N[i]? = some x := by rfl) (hv : Vis X.env.scope x := by first | exact Or.inl rfl | exact Or.inr (Or.inl rfl) | exact Or.inr (Or.inr rfl)) (hd : (x == ("__debug__" : Str)) = false := by decide)
    (hcd : (x == ("__classdict__" : Str)) = false := by decide)
    (hbase : attributeBase (.Name x p0) "pop" X.env (eval (.Name x p0) X.env) = eval (.Name x p0) X.env := by rfl) (hline : (p1.endLine == p2.line) = true := by rfl)
    (hs : swapsWith (.Call (.Attribute (.Name x p0) "pop" p1) [] [] p2) none pos.line X.env = pure false := by rfl) :
    DSt X fr (.Expr (.Call (.Attribute (.Name x p0) "pop" p1) [] [] p2) pos) (dPop i) := by
  refine ⟨_, ps_expr (pe_bm0 PySem.F.plainAttrs_list PySem.F.slot_list_pop PySem.F.type_list_pop mt_pop (pe_var hN hv hd hcd) hbase hline) hs, fun W0 G ρ σ W D D' at_ s h => ?_⟩
  obtain ⟨ds, ei, hne, q1⟩ := h
  obtain ⟨b, xs, e1, e2, e3, e4, e5⟩ := at_.rl.ow i ds ei
  have hx : xs ≠ [] := fun z => by
    have := e5.length
    rw [z] at this
    rw [List.length_eq_zero_iff.mp this] at hne
    cases hne
  have hlt : xs.length - 1 < xs.length := by
    have := List.length_pos_iff.mpr hx
    omega
  exact ⟨.ref b, e1, .inl ⟨rfl, xs, .of e2⟩, b, xs, xs[xs.length - 1], rfl, rfl, e2, List.getElem?_eq_getElem hlt, s.nx _ _ _ (at_.put ei e1 e3 e4 e5.dropLast) q1⟩
def dRev (i : Nat) : DTS := fun D ρ => ∃ ds, ρ[i]? = some (.own ds) ∧ D.nx (ρ.set i (.own ds.reverse))
theorem ds_rev (i : Nat) (hN : X.N[i]? = some x := by rfl) (hv : Vis X.env.scope x := by first | exact Or.inl rfl | exact Or.inr (Or.inl rfl) | exact Or.inr (Or.inr rfl)) (hd : (x == ("__debug__" : Str)) = false := by decide)
    (hcd : (x == ("__classdict__" : Str)) = false := by decide)
    (hbase : attributeBase (.Name x p0) "reverse" X.env (eval (.Name x p0) X.env) = eval (.Name x p0) X.env := by rfl) (hline : (p1.endLine == p2.line) = true := by rfl)
    (hs : swapsWith (.Call (.Attribute (.Name x p0) "reverse" p1) [] [] p2) none pos.line X.env = pure false := by rfl) :
    DSt X fr (.Expr (.Call (.Attribute (.Name x p0) "reverse" p1) [] [] p2) pos) (dRev i) := by
  refine ⟨_, ps_expr (pe_bm0 PySem.F.plainAttrs_list PySem.F.slot_list_reverse PySem.F.type_list_reverse mt_reverse (pe_var hN hv hd hcd) hbase hline) hs, fun W0 G ρ σ W D D' at_ s h => ?_⟩
  obtain ⟨ds, ei, q1⟩ := h
  obtain ⟨b, xs, e1, e2, e3, e4, e5⟩ := at_.rl.ow i ds ei
  exact ⟨.ref b, e1, .inl ⟨rfl, xs, .of e2⟩, b, xs, rfl, rfl, e2, s.nx _ _ _ (at_.put ei e1 e3 e4 e5.reverse) q1⟩
def dPut (i : Nat) (ti te : DTE) : DTS := fun D ρ => ∃ ds, ρ[i]? = some (.own ds) ∧ te ρ fun d => ti ρ fun z => ∃ n j, z = .int n ∧ ixN ds.length n = some j ∧ D.nx (ρ.set i (.own (ds.set j d)))
theorem ds_put (i : Nat) {k : Expr} {ti : DTE} (hk : DE X k ti) (h : DE X e te) (hN : X.N[i]? = some x := by rfl) (hv : Vis X.env.scope x := by first | exact Or.inl rfl | exact Or.inr (Or.inl rfl) | exact Or.inr (Or.inr rfl)) (hd : (x == ("__debug__" : Str)) = false := by decide)
    (hcd : (x == ("__classdict__" : Str)) = false := by decide)
    (ha : ∀ v, assign (.Subscript (.Name x p0) k p1) X.env v = (do
      let ov ← holding [v] (eval (.Name x p0) X.env)
      let iv ← holding [v, ov] (eval k X.env)
      standAt p1
      holding [v, ov, iv] (setItem ov iv v)
      release [v, ov, iv] []) := by intro _; rfl)
    (hs : swapsWithSole [.Subscript (.Name x p0) k p1] e pos.line X.env = pure false := by rfl) (hw : swappedStores [.Subscript (.Name x p0) k p1] e X.env = pure none := by rfl)
    (h1 : (assignEach [.Subscript (.Name x p0) k p1] X.env).map (·.2) = [assign (.Subscript (.Name x p0) k p1) X.env] := by rfl) :
    DSt X fr (.Assign [.Subscript (.Name x p0) k p1] e pos) (dPut i ti te) := by
  obtain ⟨tt, p, l⟩ := h
  obtain ⟨tk, pk, lk⟩ := hk
  refine ⟨_, ps_asg p (pg_sub (pe_var hN hv hd hcd) pk set_list ha) hs hw h1, fun W0 G ρ σ W D D' at_ s h => ?_⟩
  obtain ⟨ds, ei, h⟩ := h
  refine l ρ σ W _ at_.rl h _ fun d v W1 s1 i1 q1 => ?_
  have a1 := at_.step s1
  obtain ⟨b, xs, e1, e2, e3, e4, e5⟩ := a1.rl.ow i ds ei
  refine ⟨.ref b, e1, lk ρ σ W1 _ a1.rl q1 _ fun z u W2 s2 i2 ⟨n, j, ez, ej, q2⟩ => ?_⟩
  subst ez
  have a2 := a1.step s2
  have hg2 : W2.g b = none := s2.n b (by rw [e2]; intro z; cases z) e3
  refine ⟨b, xs, n, j, rfl, is_int.mp i2, s2.h _ _ e2, by rw [← e5.length]; exact ej, ?_⟩
  exact s.nx _ _ _ (a2.put ei e1 hg2 e4 ((e5.mono s2).set j (i1.mono s2))) q2
end

section
variable {P : Program} {w : World} {K : PySem.W.Frag} {mg : Str → Option Value} {base : Heap}
theorem at_start {W : Vw} {N : List Str} {ds : List Dt} {vs : List V} (ia : AllIs K W.g ds vs) (hz : Z = W.h) : At K Z W W.g W (dstart N.length ds) (start N vs) := ⟨Le.refl W, Same.refl _, Rl.start ia (hz ▸ Same.refl _)⟩
theorem okD {x qual : Str} {st : Stmt} {f : Addr} {fd : FuncData} {N ps : List Str} {k : Nat} {S : DSp} (F : Fun K x qual st f fd) (sc : FnScope N ps (defScope st)) (len : ∀ ds Q, S ds Q → ds.length = ps.length)
    (hbody : ∀ (cdv : Value) (A : Around) (outer : List Env) (s : Shared) (H : Hp) (E : XK), Room k (A.deeper (envOfC qual (defScope st) s.heap.objs.size f cdv)) → ∀ (ds : List Dt) (Q : Dt → Prop), S ds Q →
      ∃ t, DSs (cxOf CX0 P w K mg base N qual (defScope st) f cdv A outer s H E).nox .d (defBody st) t ∧ t { nx := fun _ => Q .non, rt := Q } (dstart N.length ds)) : FnOk P w K mg base CX0 (k + 1) f fd ps (PureSp K S) := by
  refine F.ok sc (fun vs H Q E h => ?_) (fun cdv A outer s H vs Q E hr h => ?_)
  · obtain ⟨W, ds, Qd, _, ia, hS, _⟩ := h
    rw [← ia.length]
    exact len ds Qd hS
  obtain ⟨W, ds, Qd, rfl, ia, hS, kk⟩ := h
  obtain ⟨t, ⟨ts, p, l⟩, ht⟩ := hbody cdv A outer s W.h E hr ds Qd hS
  refine ⟨ts, p, l W W.g (dstart N.length ds) (start N vs) W { nx := fun _ => Qd .non, rt := Qd } _ (at_start ia (zx_stk (Nat.succ_ne_self _))) ⟨fun ρ σ W' a q => kk .non .non W' a.le (is_non.mpr rfl) q, fun d v W' s' i' q => kk d v W' s' i' q, fun _ _ _ _ q => q.elim, fun _ _ _ _ q => q.elim⟩ ht⟩
theorem okF {x qual : Str} {st : Stmt} {f : Addr} {fd : FuncData} {N ps : List Str} {k : Nat} {S : DSp} (F : Fun K x qual st f fd) (sc : FnScope N ps (defScope st)) (len : ∀ ds Q, S ds Q → ds.length = ps.length)
    (hbody : ∀ (cdv : Value) (A : Around) (outer : List Env) (s : Shared) (H : Hp) (E : XK), Room k (A.deeper (envOfC qual (defScope st) s.heap.objs.size f cdv)) → ∀ (ds : List Dt) (Q : Dt → Prop), S ds Q →
      ∃ t, DSs (cxOf CX0 P w K mg base N qual (defScope st) f cdv A outer s H E).nox .l (defBody st) t ∧ t { nx := fun _ => False, rt := Q } (dstart N.length ds)) : FnOk P w K mg base CX0 (k + 1) f fd ps (FreshSp K S) := by
  refine F.ok sc (fun vs H Q E h => ?_) (fun cdv A outer s H vs Q E hr h => ?_)
  · obtain ⟨W, ds, Qd, _, ia, hS, _⟩ := h
    rw [← ia.length]
    exact len ds Qd hS
  obtain ⟨W, ds, Qd, rfl, ia, hS, kk⟩ := h
  obtain ⟨t, ⟨ts, p, l⟩, ht⟩ := hbody cdv A outer s W.h E hr ds Qd hS
  exact ⟨ts, p, l W W.g (dstart N.length ds) (start N vs) W { nx := fun _ => False, rt := Qd } _ (at_start ia (zx_stk (Nat.succ_ne_self _))) ⟨fun ρ σ W' a q => q.elim, fun d v W' s' ⟨es, p, xs, e1, e2, e3, e4, e5, e6⟩ q => by subst e1; subst e2; exact kk es p xs W' s' e3 e4 e5 e6 q, fun _ _ _ _ q => q.elim, fun _ _ _ _ q => q.elim⟩ ht⟩
theorem DOk.mk' {x qual : Str} {st : Stmt} {f : Addr} {fd : FuncData} {ps : List Str} {n : Nat} {S : DSp} (F : Fun K x qual st f fd) (hm : mg x = some (.ref f)) (hb : Binds K fd ps []) (h : FnOk P w K mg base CX0 n f fd ps (PureSp K S)) : DOk P w K mg base n x S :=
  ⟨f, fd, ps, hm, F.kp, hb, h⟩
theorem FOk.mk' {x qual : Str} {st : Stmt} {f : Addr} {fd : FuncData} {ps : List Str} {n : Nat} {S : DSp} (F : Fun K x qual st f fd) (hm : mg x = some (.ref f)) (hb : Binds K fd ps []) (h : FnOk P w K mg base CX0 n f fd ps (FreshSp K S)) : FOk P w K mg base n x S :=
  ⟨f, fd, ps, hm, F.kp, hb, h⟩
theorem DOk.mono {x : Str} {m n : Nat} {S : DSp} (h : DOk P w K mg base m x S) (hl : m ≤ n) : DOk P w K mg base n x S :=
  let ⟨f, fd, ps, h1, h2, h3, h4⟩ := h.ex; ⟨f, fd, ps, h1, h2, h3, h4.mono hl⟩
theorem FOk.mono {x : Str} {m n : Nat} {S : DSp} (h : FOk P w K mg base m x S) (hl : m ≤ n) : FOk P w K mg base n x S :=
  let ⟨f, fd, ps, h1, h2, h3, h4⟩ := h.ex; ⟨f, fd, ps, h1, h2, h3, h4.mono hl⟩
theorem MOk.mono {C : Addr} {x : Str} {m n : Nat} {S : DSp} (h : MOk P w K mg base m C x S) (hl : m ≤ n) : MOk P w K mg base n C x S :=
  ⟨h.cl, let ⟨f, fd, ps, h1, h3, h4⟩ := h.ex; ⟨f, fd, ps, h1, h3, h4.mono hl⟩⟩
theorem FMOk.mono {C : Addr} {x : Str} {m n : Nat} {S : DSp} (h : FMOk P w K mg base m C x S) (hl : m ≤ n) : FMOk P w K mg base n C x S :=
  ⟨h.cl, let ⟨f, fd, ps, h1, h3, h4⟩ := h.ex; ⟨f, fd, ps, h1, h3, h4.mono hl⟩⟩
theorem MOk.imp {C : Addr} {x : Str} {n : Nat} {S S' : DSp} (h : MOk P w K mg base n C x S) (hi : ∀ ds Q, S' ds Q → S ds Q) : MOk P w K mg base n C x S' :=
  ⟨h.cl, let ⟨f, fd, ps, h1, h3, h4⟩ := h.ex; ⟨f, fd, ps, h1, h3, h4.imp fun vs H Q E ⟨W, ds, Qd, a, b, c, d⟩ => ⟨W, ds, Qd, a, b, hi _ _ c, d⟩⟩⟩
theorem FMOk.imp {C : Addr} {x : Str} {n : Nat} {S S' : DSp} (h : FMOk P w K mg base n C x S) (hi : ∀ ds Q, S' ds Q → S ds Q) : FMOk P w K mg base n C x S' :=
  ⟨h.cl, let ⟨f, fd, ps, h1, h3, h4⟩ := h.ex; ⟨f, fd, ps, h1, h3, h4.imp fun vs H Q E ⟨W, ds, Qd, a, b, c, d⟩ => ⟨W, ds, Qd, a, b, hi _ _ c, d⟩⟩⟩
theorem DOk.imp {x : Str} {n : Nat} {S S' : DSp} (h : DOk P w K mg base n x S) (hi : ∀ ds Q, S' ds Q → S ds Q) : DOk P w K mg base n x S' :=
  let ⟨f, fd, ps, h1, h2, h3, h4⟩ := h.ex; ⟨f, fd, ps, h1, h2, h3, h4.imp fun vs H Q E ⟨W, ds, Qd, a, b, c, d⟩ => ⟨W, ds, Qd, a, b, hi _ _ c, d⟩⟩
theorem init_ok {qual : Str} {st : Stmt} {g C : Addr} {fd : FuncData} {y f : Str} {k : Nat} {ok : Int → Prop} (F : Fun K "__init__" qual st g fd) (sc : FnScope ["self", y] ["self", y] (defScope st)) (cl : Cls K C) (na : NoAttr K C f)
    (hbody : ∀ (cdv : Value) (A : Around) (outer : List Env) (s : Shared) (H : Hp) (E : XK), Room k (A.deeper (envOfC qual (defScope st) s.heap.objs.size g cdv)) →
      ∃ te t, PSs (cxOf CX0 P w K mg base ["self", y] qual (defScope st) g cdv A outer s H E).nox (defBody st) (sFld K (tVar 0) te f) ∧ LiE K (Zx (cxOf CX0 P w K mg base ["self", y] qual (defScope st) g cdv A outer s H E)) te t ∧ ∀ i, ok i → t [.none, .some (.int i)] fun d => d = .int i) :
    FnOk P w K mg base CX0 (k + 1) g fd ["self", y] (spInitW C f ok) := by
  refine F.ok sc (fun vs H Q E h => ?_) (fun cdv A outer s H vs Q E hr h => ?_)
  · obtain ⟨p, dx, i, rfl, _⟩ := h
    rfl
  obtain ⟨p, dx, i, rfl, hp, hok, q⟩ := h
  obtain ⟨te, t, ps, l, ht⟩ := hbody cdv A outer s H E hr
  rw [zx_def] at l
  refine ⟨_, ps, l (F := H) [.none, .some (.int i)] _ ⟨H, H, Same.refl H⟩ _ ⟨rfl, fun j d e => ?_, fun j ds e => ?_, fun j j' ds es _ e _ => ?_, Same.refl H, Same.refl H, fun j a ds e => ?_⟩ (ht i hok) _ fun d v W1 s1 i1 ed => ?_⟩
  · match j, e with
    | 0, e => cases e
    | 1, e =>
      have e' : Dt.int i = d := by cases e; rfl
      subst e'
      exact ⟨.int i, rfl, is_int.mpr rfl⟩
    | j + 2, e => cases e
  · match j, e with
    | 0, e => cases e
    | 1, e => cases e
    | j + 2, e => cases e
  · match j, e with
    | 0, e => cases e
    | 1, e => cases e
    | j + 2, e => cases e
  · match j, e with
    | 0, e => cases e
    | 1, e => cases e
    | j + 2, e => cases e
  · subst ed
    obtain rfl := is_int.mp i1
    refine ⟨.ref p, rfl, p, C, dx, [], rfl, s1.h _ _ hp, cl, na, (by show 0 < 1000; decide), ?_⟩
    refine q _ upd_same fun b o hb hbp => ?_
    rw [upd_ne hbp]
    exact s1.h _ _ hb
end
end OD

namespace OD
open PySem PySem.Spec PyProof.Rows L2
theorem iteNE {c : Bool} {A B : Prop} (h : c = true) (hb : B) : if (!c) = true then A else B := by
  subst h
  exact iteF hb
mutual
/-- Python's == of data -/
def eqD : Dt → Dt → Bool
  | .non, .non => true
  | .bl a, .bl b => a == b
  | .bl a, .int b => (if a then (1 : Int) else 0) == b
  | .int a, .bl b => a == (if b then (1 : Int) else 0)
  | .int a, .int b => a == b
  | .str a, .str b => a == b
  | .tup ds, .tup es => eqDs ds es
  | .lst ds, .lst es => eqDs ds es
  | _, _ => false
def eqDs : List Dt → List Dt → Bool
  | [], [] => true
  | d :: ds, e :: es => eqD d e && eqDs ds es
  | _, _ => false
end
def okE : Nat → Dt → Bool
  | _, .non => true
  | _, .bl _ => true
  | _, .int _ => true
  | _, .str _ => true
  | n + 1, .tup ds => ds.all (okE n)
  | n + 1, .lst ds => ds.all (okE n)
  | _, _ => false
theorem eqD_int (a b : Int) : eqD (.int a) (.int b) = (a == b) := by unfold eqD; rfl
theorem eqD_bl (a b : Bool) : eqD (.bl a) (.bl b) = (a == b) := by unfold eqD; rfl
theorem eqD_str (a b : Str) : eqD (.str a) (.str b) = (a == b) := by unfold eqD; rfl
theorem eqD_tup (ds es : List Dt) : eqD (.tup ds) (.tup es) = eqDs ds es := by rw [eqD]
theorem eqD_lst (ds es : List Dt) : eqD (.lst ds) (.lst es) = eqDs ds es := by rw [eqD]
theorem eqDs_nil : eqDs [] [] = true := by unfold eqDs; rfl
theorem eqDs_cons (d e : Dt) (ds es : List Dt) : eqDs (d :: ds) (e :: es) = (eqD d e && eqDs ds es) := by rw [eqDs]
theorem eqDs_nil_cons (e : Dt) (es : List Dt) : eqDs [] (e :: es) = false := by unfold eqDs; rfl
theorem eqDs_cons_nil (e : Dt) (es : List Dt) : eqDs (e :: es) [] = false := by unfold eqDs; rfl
theorem eqDs_range : ∀ ds es : List Dt, (((List.range (min ds.length es.length)).all fun j => eqD (ds.getD j .non) (es.getD j .non)) && (ds.length == es.length)) = eqDs ds es
  | [], [] => by rw [eqDs_nil]; rfl
  | [], e :: es => by
    rw [eqDs_nil_cons]
    have h : ((([] : List Dt).length == (e :: es).length)) = false := by simp
    rw [h, Bool.and_false]
  | d :: ds, [] => by
    rw [eqDs_cons_nil]
    have h : (((d :: ds).length == ([] : List Dt).length)) = false := by simp
    rw [h, Bool.and_false]
  | d :: ds, e :: es => by
    have ih := eqDs_range ds es
    rw [eqDs_cons, ← ih]
    have hm : min (d :: ds).length (e :: es).length = min ds.length es.length + 1 := by
      rw [List.length_cons, List.length_cons]; omega
    rw [hm, List.range_succ_eq_map, List.all_cons, List.all_map, Bool.and_assoc]
    have hl : ((d :: ds).length == (e :: es).length) = (ds.length == es.length) := by
      rw [List.length_cons, List.length_cons]
      rw [Bool.eq_iff_iff, beq_iff_eq, beq_iff_eq]
      omega
    rw [hl]
    rfl
theorem eqDs_lens {ds es : List Dt} (h : ds.length ≠ es.length) : eqDs ds es = false := by
  rw [← eqDs_range ds es]
  have h : (ds.length == es.length) = false := beq_eq_false_iff_ne.mpr h
  rw [h, Bool.and_false]
theorem eqDs_all {ds es : List Dt} (h : ds.length = es.length) : ((List.range ds.length).all fun j => eqD (ds.getD j .non) (es.getD j .non)) = eqDs ds es := by
  rw [← eqDs_range ds es]
  have h' : (ds.length == es.length) = true := beq_iff_eq.mpr h
  rw [h', Bool.and_true, ← h, Nat.min_self]
theorem eqDs_self : ∀ {ds : List Dt}, (∀ d ∈ ds, eqD d d = true) → eqDs ds ds = true
  | [], _ => eqDs_nil
  | d :: ds, h => by
    rw [eqDs_cons, h d List.mem_cons_self, eqDs_self fun e he => h e (List.mem_cons_of_mem _ he)]
    rfl
theorem eqD_self : ∀ (n : Nat) {d : Dt}, okE n d = true → eqD d d = true := by
  intro n
  induction n with
  | zero =>
    intro d h
    cases d with
    | non => unfold eqD; rfl
    | bl b => rw [eqD_bl]; exact beq_self_eq_true _
    | int b => rw [eqD_int]; exact beq_self_eq_true _
    | str b => rw [eqD_str]; exact beq_self_eq_true _
    | _ => simp [okE] at h
  | succ n ih =>
    intro d h
    cases d with
    | non => unfold eqD; rfl
    | bl b => rw [eqD_bl]; exact beq_self_eq_true _
    | int b => rw [eqD_int]; exact beq_self_eq_true _
    | str b => rw [eqD_str]; exact beq_self_eq_true _
    | tup ds =>
      rw [eqD_tup]
      have h' : ∀ d ∈ ds, okE n d = true := by simpa [okE] using h
      exact eqDs_self fun d hd => ih (h' d hd)
    | lst ds =>
      rw [eqD_lst]
      have h' : ∀ d ∈ ds, okE n d = true := by simpa [okE] using h
      exact eqDs_self fun d hd => ih (h' d hd)
    | _ => simp [okE] at h
example : eqD (.int ((2 : Nat) : Int)) (.int 2) = true := by rfl
section
variable {X : Cx} {pins : List (Addr × Obj)} {σ : St} {K : PySem.W.Frag} {H : Hp} {s : Shared}
theorem eqs_of : ∀ {ds es : List Dt} {xs : List V}, (∀ d e v, d ∈ ds → e ∈ es → Is K H d v → Is K H e v → eqD d e = true) → AllIs K H ds xs → AllIs K H es xs → eqDs ds es = true
  | [], es, xs, ih, i1, i2 => by
    obtain rfl := allIs_nil.mp i1
    cases es with
    | nil => exact eqDs_nil
    | cons e es => obtain ⟨_, _, z, _⟩ := allIs_cons.mp i2; cases z
  | d :: ds, es, xs, ih, i1, i2 => by
    obtain ⟨x, r, rfl, j1, j2⟩ := allIs_cons.mp i1
    cases es with
    | nil => cases allIs_nil.mp i2
    | cons e es =>
      obtain ⟨y, r', z, k1, k2⟩ := allIs_cons.mp i2
      cases z
      rw [eqDs_cons, ih d e x List.mem_cons_self List.mem_cons_self j1 k1, eqs_of (fun d' e' v' hd he => ih d' e' v' (List.mem_cons_of_mem _ hd) (List.mem_cons_of_mem _ he)) j2 k2]
      rfl
def flatD : Dt → Bool
  | .non => true
  | .bl _ => true
  | .int _ => true
  | .str _ => true
  | _ => false
def vD : Dt → V
  | .bl b => .bl b
  | .int i => .int i
  | .str x => .str x
  | _ => .non
theorem is_flat {d : Dt} {v : V} (h : flatD d = true) (i : Is K H d v) : v = vD d := by
  cases d <;> first | exact is_non.mp i | exact is_bl.mp i | exact is_int.mp i | exact is_str.mp i | cases h
theorem flat_V {d : Dt} (h : flatD d = true) : flatV (vD d) = true := by cases d <;> first | rfl | cases h
theorem flat_ref {d : Dt} {a : Addr} (h : flatD d = true) (e : vD d = .ref a) : False := by cases d <;> first | cases e | cases h
theorem eqV_self {v : V} (h : flatV v = true) : eqV v v = true := by cases v <;> first | rfl | exact beq_self_eq_true _ | cases h
theorem eqD_flat {d e : Dt} (h1 : flatD d = true) (h2 : flatD e = true) : eqD d e = eqV (vD d) (vD e) := by cases d <;> first | exact absurd h1 Bool.false_ne_true | (cases e <;> first | exact absurd h2 Bool.false_ne_true | rfl)
theorem eqD_ft {d : Dt} {es : List Dt} (h : flatD d = true) : eqD d (.tup es) = false ∧ eqD (.tup es) d = false ∧ eqD d (.lst es) = false ∧ eqD (.lst es) d = false := by
  cases d <;> first | exact ⟨rfl, rfl, rfl, rfl⟩ | cases h
theorem shape {n : Nat} {d : Dt} (h : okE n d = true) : flatD d = true ∨ ∃ m ds, n = m + 1 ∧ (d = .tup ds ∨ d = .lst ds) ∧ ∀ d ∈ ds, okE m d = true := by
  cases d with
  | non => exact .inl rfl
  | bl b => exact .inl rfl
  | int b => exact .inl rfl
  | str b => exact .inl rfl
  | tup ds =>
    cases n with
    | zero => simp [okE] at h
    | succ m => exact .inr ⟨m, ds, rfl, .inl rfl, by simpa [okE] using h⟩
  | lst ds =>
    cases n with
    | zero => simp [okE] at h
    | succ m => exact .inr ⟨m, ds, rfl, .inr rfl, by simpa [okE] using h⟩
  | _ => cases n <;> simp [okE] at h
theorem eq_same : ∀ (n : Nat) {d e : Dt} {v : V}, okE n d = true → okE n e = true → Is K H d v → Is K H e v → eqD d e = true := by
  intro n
  induction n with
  | zero =>
    intro d e v h1 h2 i1 i2
    rcases shape h1 with f1 | ⟨m, ds, z, _⟩
    · rcases shape h2 with f2 | ⟨m, ds, z, _⟩
      · rw [eqD_flat f1 f2, ← is_flat f1 i1, ← is_flat f2 i2]
        exact eqV_self (by rw [is_flat f1 i1]; exact flat_V f1)
      · cases z
    · cases z
  | succ n ih =>
    intro d e v h1 h2 i1 i2
    rcases shape h1 with f1 | ⟨m, ds, z, hk, hd⟩
    · rcases shape h2 with f2 | ⟨m, es, z, hk, he⟩
      · rw [eqD_flat f1 f2, ← is_flat f1 i1, ← is_flat f2 i2]
        exact eqV_self (by rw [is_flat f1 i1]; exact flat_V f1)
      · obtain rfl := is_flat f1 i1
        rcases hk with rfl | rfl
        · obtain ⟨_, _, e, _⟩ := is_tup.mp i2; exact (flat_ref f1 e).elim
        · obtain ⟨_, _, e, _⟩ := is_lst.mp i2; exact (flat_ref f1 e).elim
    · cases z
      rcases shape h2 with f2 | ⟨m, es, z, hk2, he⟩
      · obtain rfl := is_flat f2 i2
        rcases hk with rfl | rfl
        · obtain ⟨_, _, e, _⟩ := is_tup.mp i1; exact (flat_ref f2 e).elim
        · obtain ⟨_, _, e, _⟩ := is_lst.mp i1; exact (flat_ref f2 e).elim
      · cases z
        rcases hk with rfl | rfl
        · obtain ⟨a, xs, rfl, hx, ha⟩ := is_tup.mp i1
          rcases hk2 with rfl | rfl
          · obtain ⟨b, ys, eb, hy, hb⟩ := is_tup.mp i2
            cases eb
            rw [hx] at hy
            cases hy
            rw [eqD_tup]
            exact eqs_of (fun d e v q1 q2 => ih (hd d q1) (he e q2)) ha hb
          · obtain ⟨b, ys, eb, hy, hb⟩ := is_lst.mp i2
            cases eb
            rw [hx] at hy
            cases hy
        · obtain ⟨a, xs, rfl, hx, ha⟩ := is_lst.mp i1
          rcases hk2 with rfl | rfl
          · obtain ⟨b, ys, eb, hy, hb⟩ := is_tup.mp i2
            cases eb
            rw [hx] at hy
            cases hy
          · obtain ⟨b, ys, eb, hy, hb⟩ := is_lst.mp i2
            cases eb
            rw [hx] at hy
            cases hy
            rw [eqD_lst]
            exact eqs_of (fun d e v q1 q2 => ih (hd d q1) (he e q2)) ha hb
section
variable {A : Around}
open SeqAt
theorem flat_tupE {d : Dt} {v : Value} {b : Addr} {its : Array Value} (f : flatD d = true) (q : RelV (vD d) v) (t : s.heap.IsTuple b its) (hA : A.units < cLine) :
    (EqAt A s v (.ref b) false ∧ EqAt A s (.ref b) v false) ∧ (RcAt A s v (.ref b) false ∧ RcNeAt A s v (.ref b) true) ∧ RcAt A s (.ref b) v false ∧ RcNeAt A s (.ref b) v true := by
  cases d with
  | non => cases q; exact ⟨⟨.none_tuple t hA, .tuple_none t hA⟩, ⟨.none_tuple t hA, .none_tuple t hA⟩, .tuple_none t hA, .tuple_none t hA⟩
  | bl a => cases q; exact ⟨⟨.bool_tuple a t hA, .tuple_bool a t hA⟩, ⟨.bool_tuple a t hA, .bool_tuple a t hA⟩, .tuple_bool a t hA, .tuple_bool a t hA⟩
  | int a => obtain ⟨u, rfl⟩ := q; exact ⟨⟨.int_tuple a u t hA, .tuple_int a u t hA⟩, ⟨.int_tuple a u t hA, .int_tuple a u t hA⟩, .tuple_int a u t hA, .tuple_int a u t hA⟩
  | str a => obtain ⟨u, rfl⟩ := q; exact ⟨⟨.str_tuple a u t hA, .tuple_str a u t hA⟩, ⟨.str_tuple a u t hA, .str_tuple a u t hA⟩, .tuple_str a u t hA, .tuple_str a u t hA⟩
  | _ => cases f
theorem flat_lstE {d : Dt} {v : Value} {b : Addr} {its : Array Value} (f : flatD d = true) (q : RelV (vD d) v) (t : s.heap.IsList b its) (hA : A.units < cLine) :
    (EqAt A s v (.ref b) false ∧ EqAt A s (.ref b) v false) ∧ (RcAt A s v (.ref b) false ∧ RcNeAt A s v (.ref b) true) ∧ RcAt A s (.ref b) v false ∧ RcNeAt A s (.ref b) v true := by
  cases d with
  | non => cases q; exact ⟨⟨.none_list t hA, .list_none t hA⟩, ⟨.none_list t hA, .none_list t hA⟩, .list_none t hA, .list_none t hA⟩
  | bl a => cases q; exact ⟨⟨.bool_list a t hA, .list_bool a t hA⟩, ⟨.bool_list a t hA, .bool_list a t hA⟩, .list_bool a t hA, .list_bool a t hA⟩
  | int a => obtain ⟨u, rfl⟩ := q; exact ⟨⟨.int_list a u t hA, .list_int a u t hA⟩, ⟨.int_list a u t hA, .int_list a u t hA⟩, .list_int a u t hA, .list_int a u t hA⟩
  | str a => obtain ⟨u, rfl⟩ := q; exact ⟨⟨.str_list a u t hA, .list_str a u t hA⟩, ⟨.str_list a u t hA, .str_list a u t hA⟩, .list_str a u t hA, .list_str a u t hA⟩
  | _ => cases f
theorem flat_rc {d e : Dt} {v u : Value} (f1 : flatD d = true) (f2 : flatD e = true) (q1 : RelV (vD d) v) (q2 : RelV (vD e) u) : RcAt A s v u (eqD d e) ∧ RcNeAt A s v u (!eqD d e) := by
  cases d with
  | non =>
    cases q1
    cases e with
    | non => cases q2; exact ⟨.none_none, .none_none⟩
    | bl b => cases q2; exact ⟨.none_bool b, .none_bool b⟩
    | int b => obtain ⟨t, rfl⟩ := q2; exact ⟨.none_int b t, .none_int b t⟩
    | str b => obtain ⟨t, rfl⟩ := q2; exact ⟨.none_str b t, .none_str b t⟩
    | _ => cases f2
  | bl a =>
    cases q1
    cases e with
    | non => cases q2; exact ⟨.bool_none a, .bool_none a⟩
    | bl b => cases q2; exact ⟨.bool_bool a b, .bool_bool a b⟩
    | int b => obtain ⟨t, rfl⟩ := q2; exact ⟨.bool_int a b t, .bool_int a b t⟩
    | str b => obtain ⟨t, rfl⟩ := q2; exact ⟨.bool_str a b t, .bool_str a b t⟩
    | _ => cases f2
  | int a =>
    obtain ⟨ta, rfl⟩ := q1
    cases e with
    | non => cases q2; exact ⟨.int_none a ta, .int_none a ta⟩
    | bl b => cases q2; exact ⟨.int_bool a ta b, .int_bool a ta b⟩
    | int b => obtain ⟨t, rfl⟩ := q2; exact ⟨.int_int a ta b t, .int_int a ta b t⟩
    | str b => obtain ⟨t, rfl⟩ := q2; exact ⟨.int_str a ta b t, .int_str a ta b t⟩
    | _ => cases f2
  | str a =>
    obtain ⟨ta, rfl⟩ := q1
    cases e with
    | non => cases q2; exact ⟨.str_none a ta, .str_none a ta⟩
    | bl b => cases q2; exact ⟨.str_bool a ta b, .str_bool a ta b⟩
    | int b => obtain ⟨t, rfl⟩ := q2; exact ⟨.str_int a ta b t, .str_int a ta b t⟩
    | str b => obtain ⟨t, rfl⟩ := q2; exact ⟨.str_str a ta b t, .str_str a ta b t⟩
    | _ => cases f2
  | _ => cases f1
end
theorem items_eq {n : Nat} {A : Around} {ds es : List Dt} {xs ys : List V} {its its2 : List Value}
    (ih : ∀ {d e : Dt} {x y : V} {v u : Value}, okE n d = true → okE n e = true → Is K H d x → Is K H e y → RelV x v → RelV y u → SeqAt.EqAt A s v u (eqD d e))
    (hd : ∀ d ∈ ds, okE n d = true) (he : ∀ d ∈ es, okE n d = true) (a1 : AllIs K H ds xs) (a2 : AllIs K H es ys) (r1 : Vals xs its) (r2 : Vals ys its2) :
    ∀ j (h1 : j < its.toArray.size) (h2 : j < its2.toArray.size), SeqAt.EqAt A s its.toArray[j] its2.toArray[j] (eqD (ds.getD j .non) (es.getD j .non)) := by
  intro j h1 h2
  have l1 := a1.length.trans r1.length
  have l2 := a2.length.trans r2.length
  rw [List.size_toArray] at h1 h2
  have g1 : ds[j]? = some ds[j] := List.getElem?_eq_getElem (by omega)
  have g2 : es[j]? = some es[j] := List.getElem?_eq_getElem (by omega)
  obtain ⟨x, e1, i1⟩ := a1.get g1
  obtain ⟨y, e2, i2⟩ := a2.get g2
  obtain ⟨v, e3, q1⟩ := r1.get e1
  obtain ⟨u, e4, q2⟩ := r2.get e2
  have f1 : ds.getD j .non = ds[j] := by rw [List.getD_eq_getElem?_getD, g1]; rfl
  have f2 : es.getD j .non = es[j] := by rw [List.getD_eq_getElem?_getD, g2]; rfl
  have f3 : its.toArray[j] = v := by
    have z : its[j]? = some its[j] := List.getElem?_eq_getElem h1
    rw [z] at e3
    simpa using Option.some.inj e3
  have f4 : its2.toArray[j] = u := by
    have z : its2[j]? = some its2[j] := List.getElem?_eq_getElem h2
    rw [z] at e4
    simpa using Option.some.inj e4
  rw [f1, f2, f3, f4]
  exact ih (hd _ (List.mem_of_getElem? g1)) (he _ (List.mem_of_getElem? g2)) i1 i2 q1 q2
theorem eq_at (I : Inv X pins σ H s) : ∀ (n : Nat) {A : Around} {d e : Dt} {x y : V} {v u : Value}, A.units + n < cLine → okE n d = true → okE n e = true → Is X.K H d x → Is X.K H e y → RelV x v → RelV y u → SeqAt.EqAt A s v u (eqD d e) := by
  intro n
  induction n with
  | zero =>
    intro A d e x y v u hu h1 h2 i1 i2 q1 q2
    rcases shape h1 with f1 | ⟨m, ds, z, _⟩
    · rcases shape h2 with f2 | ⟨m, ds, z, _⟩
      · rw [eqD_flat f1 f2]
        rw [is_flat f1 i1] at q1
        rw [is_flat f2 i2] at q2
        exact eqAt_V q1 q2 (flat_V f1) (flat_V f2)
      · cases z
    · cases z
  | succ n ih =>
    intro A d e x y v u hu h1 h2 i1 i2 q1 q2
    have hA : A.units < cLine := by omega
    have hu' : A.in1.units + n < cLine := by show A.units + 1 + n < cLine; omega
    rcases shape h1 with f1 | ⟨m, ds, z, hk, hd⟩
    · rw [is_flat f1 i1] at q1
      rcases shape h2 with f2 | ⟨m, es, z, rfl | rfl, he⟩
      · rw [eqD_flat f1 f2]
        rw [is_flat f2 i2] at q2
        exact eqAt_V q1 q2 (flat_V f1) (flat_V f2)
      · obtain ⟨b, ys, rfl, hy, hb⟩ := is_tup.mp i2
        obtain ⟨its2, r2, t2, _⟩ := I.tuple (.of hy)
        cases q2
        rw [(eqD_ft f1).1]
        exact (flat_tupE f1 q1 t2 hA).1.1
      · obtain ⟨b, ys, rfl, hy, hb⟩ := is_lst.mp i2
        obtain ⟨its2, r2, t2, _⟩ := I.list (.of hy)
        cases q2
        rw [(eqD_ft f1).2.2.1]
        exact (flat_lstE f1 q1 t2.isList hA).1.1
    · cases z
      rcases hk with rfl | rfl
      · obtain ⟨a, xs, rfl, hx, ha⟩ := is_tup.mp i1
        obtain ⟨its, r1, t1, _⟩ := I.tuple (.of hx)
        cases q1
        rcases shape h2 with f2 | ⟨m, es, z, rfl | rfl, he⟩
        · rw [is_flat f2 i2] at q2
          rw [(eqD_ft f2).2.1]
          exact (flat_tupE f2 q2 t1 hA).1.2
        · cases z
          have i2' := i2
          obtain ⟨b, ys, rfl, hy, hb⟩ := is_tup.mp i2
          obtain ⟨its2, r2, t2, _⟩ := I.tuple (.of hy)
          cases q2
          by_cases hab : a = b
          · subst hab
            rw [eq_same _ h1 h2 i1 i2']
            exact SeqAt.EqAt.same _
          · have q := SeqAt.RcAt.tuples t1 t2 hA (items_eq (fun {d e x y v u} => ih (A := A.in1) hu') hd he ha hb r1 r2)
            rw [List.size_toArray, List.size_toArray, ← r1.length, ← r2.length, ← ha.length, ← hb.length, eqDs_range] at q
            rw [eqD_tup]
            exact .of_refs hab q
        · obtain ⟨b, ys, rfl, hy, hb⟩ := is_lst.mp i2
          obtain ⟨its2, r2, t2, _⟩ := I.list (.of hy)
          cases q2
          exact SeqAt.EqAt.tuple_list t1 t2.isList hA
      · obtain ⟨a, xs, rfl, hx, ha⟩ := is_lst.mp i1
        obtain ⟨its, r1, t1, _⟩ := I.list (.of hx)
        cases q1
        rcases shape h2 with f2 | ⟨m, es, z, rfl | rfl, he⟩
        · rw [is_flat f2 i2] at q2
          rw [(eqD_ft f2).2.2.2]
          exact (flat_lstE f2 q2 t1.isList hA).1.2
        · obtain ⟨b, ys, rfl, hy, hb⟩ := is_tup.mp i2
          obtain ⟨its2, r2, t2, _⟩ := I.tuple (.of hy)
          cases q2
          exact SeqAt.EqAt.list_tuple t1.isList t2 hA
        · cases z
          have i2' := i2
          obtain ⟨b, ys, rfl, hy, hb⟩ := is_lst.mp i2
          obtain ⟨its2, r2, t2, _⟩ := I.list (.of hy)
          cases q2
          by_cases hab : a = b
          · subst hab
            rw [eq_same _ h1 h2 i1 i2']
            exact SeqAt.EqAt.same _
          · rw [eqD_lst]
            have l1 := ha.length.trans r1.length
            have l2 := hb.length.trans r2.length
            by_cases hl : ds.length = es.length
            · have q := SeqAt.RcAt.lists t1.isList t2.isList (by rw [List.size_toArray, List.size_toArray]; omega) hA (items_eq (fun {d e x y v u} => ih (A := A.in1) hu') hd he ha hb r1 r2)
              rw [List.size_toArray, ← l1, eqDs_all hl] at q
              exact .of_refs hab q
            · have q := SeqAt.RcAt.lists_lengths t1.isList t2.isList (by rw [List.size_toArray, List.size_toArray, bne_iff_ne]; omega) hA
              rw [eqDs_lens hl]
              exact .of_refs hab q
theorem rc_at (I : Inv X pins σ H s) {n : Nat} {A : Around} {d e : Dt} {x y : V} {v u : Value} (hu : A.units + (n + 1) < cLine) (h1 : okE (n + 1) d = true) (h2 : okE (n + 1) e = true) (i1 : Is X.K H d x) (i2 : Is X.K H e y) (q1 : RelV x v) (q2 : RelV y u) :
    SeqAt.RcAt A s v u (eqD d e) ∧ SeqAt.RcNeAt A s v u (!eqD d e) := by
  have hA : A.units < cLine := by omega
  have hu' : A.in1.units + n < cLine := by show A.units + 1 + n < cLine; omega
  have ih := fun {d e : Dt} {x y : V} {v u : Value} => eq_at I n (A := A.in1) (d := d) (e := e) (x := x) (y := y) (v := v) (u := u) hu'
  rcases shape h1 with f1 | ⟨m, ds, z, hk, hd⟩
  · rw [is_flat f1 i1] at q1
    rcases shape h2 with f2 | ⟨m, es, z, rfl | rfl, he⟩
    · rw [is_flat f2 i2] at q2
      exact flat_rc f1 f2 q1 q2
    · obtain ⟨b, ys, rfl, hy, hb⟩ := is_tup.mp i2
      obtain ⟨its2, r2, t2, _⟩ := I.tuple (.of hy)
      cases q2
      rw [(eqD_ft f1).1]
      exact (flat_tupE f1 q1 t2 hA).2.1
    · obtain ⟨b, ys, rfl, hy, hb⟩ := is_lst.mp i2
      obtain ⟨its2, r2, t2, _⟩ := I.list (.of hy)
      cases q2
      rw [(eqD_ft f1).2.2.1]
      exact (flat_lstE f1 q1 t2.isList hA).2.1
  · cases z
    rcases hk with rfl | rfl
    · obtain ⟨a, xs, rfl, hx, ha⟩ := is_tup.mp i1
      obtain ⟨its, r1, t1, _⟩ := I.tuple (.of hx)
      cases q1
      rcases shape h2 with f2 | ⟨m, es, z, rfl | rfl, he⟩
      · rw [is_flat f2 i2] at q2
        rw [(eqD_ft f2).2.1]
        exact (flat_tupE f2 q2 t1 hA).2.2
      · cases z
        obtain ⟨b, ys, rfl, hy, hb⟩ := is_tup.mp i2
        obtain ⟨its2, r2, t2, _⟩ := I.tuple (.of hy)
        cases q2
        have it := items_eq (A := A.in1) ih hd he ha hb r1 r2
        have q := SeqAt.RcAt.tuples t1 t2 hA it
        have q' := SeqAt.RcNeAt.tuples t1 t2 hA it
        rw [List.size_toArray, List.size_toArray, ← r1.length, ← r2.length, ← ha.length, ← hb.length, eqDs_range] at q q'
        rw [eqD_tup]
        exact ⟨q, q'⟩
      · obtain ⟨b, ys, rfl, hy, hb⟩ := is_lst.mp i2
        obtain ⟨its2, r2, t2, _⟩ := I.list (.of hy)
        cases q2
        exact ⟨SeqAt.RcAt.tuple_list t1 t2.isList hA, SeqAt.RcNeAt.tuple_list t1 t2.isList hA⟩
    · obtain ⟨a, xs, rfl, hx, ha⟩ := is_lst.mp i1
      obtain ⟨its, r1, t1, _⟩ := I.list (.of hx)
      cases q1
      rcases shape h2 with f2 | ⟨m, es, z, rfl | rfl, he⟩
      · rw [is_flat f2 i2] at q2
        rw [(eqD_ft f2).2.2.2]
        exact (flat_lstE f2 q2 t1.isList hA).2.2
      · obtain ⟨b, ys, rfl, hy, hb⟩ := is_tup.mp i2
        obtain ⟨its2, r2, t2, _⟩ := I.tuple (.of hy)
        cases q2
        exact ⟨SeqAt.RcAt.list_tuple t1.isList t2 hA, SeqAt.RcNeAt.list_tuple t1.isList t2 hA⟩
      · cases z
        obtain ⟨b, ys, rfl, hy, hb⟩ := is_lst.mp i2
        obtain ⟨its2, r2, t2, _⟩ := I.list (.of hy)
        cases q2
        rw [eqD_lst]
        have l1 := ha.length.trans r1.length
        have l2 := hb.length.trans r2.length
        by_cases hl : ds.length = es.length
        · have it := items_eq (A := A.in1) ih hd he ha hb r1 r2
          have q := SeqAt.RcAt.lists t1.isList t2.isList (by rw [List.size_toArray, List.size_toArray]; omega) hA it
          have q' := SeqAt.RcNeAt.lists t1.isList t2.isList (by rw [List.size_toArray, List.size_toArray]; omega) hA it
          rw [List.size_toArray, ← l1, eqDs_all hl] at q q'
          exact ⟨q, q'⟩
        · have q := SeqAt.RcAt.lists_lengths t1.isList t2.isList (by rw [List.size_toArray, List.size_toArray, bne_iff_ne]; omega) hA
          have q' := SeqAt.RcNeAt.lists_lengths t1.isList t2.isList (by rw [List.size_toArray, List.size_toArray, bne_iff_ne]; omega) hA
          rw [eqDs_lens hl]
          exact ⟨q, q'⟩
def gEq : Dt → Dt → (Dt → Prop) → Prop := fun d e Q => okE 40 d = true ∧ okE 40 e = true ∧ Q (.bl (eqD d e))
def gNe : Dt → Dt → (Dt → Prop) → Prop := fun d e Q => okE 40 d = true ∧ okE 40 e = true ∧ Q (.bl (!eqD d e))
theorem o_eq {k : Nat} (hr : Room k X.A) : DOp X (compareOp .Eq) gEq := by
  refine ⟨fun x y H Q => ∃ d e, Is X.K H d x ∧ Is X.K H e y ∧ okE 40 d = true ∧ okE 40 e = true ∧ Q (.bl (eqD d e)) H, fun pins s σ H x y v u Q I rx ry h => ?_, fun H x y d e Q i1 i2 q R k => ⟨d, e, Is.mono0 H.sub i1, Is.mono0 H.sub i2, q.1, q.2.1, k _ _ H (Le.refl H) (is_bl.mpr rfl) q.2.2⟩⟩
  obtain ⟨d, e, i1, i2, h1, h2, q⟩ := h
  have hu := hr.units
  exact (rc_at (n := 39) I (A := X.A) (by omega) h1 h2 i1 i2 rx ry).1 _ _ _ _ ⟨.bl _, H, I, rfl, q⟩
theorem o_ne {k : Nat} (hr : Room k X.A) : DOp X (compareOp .NotEq) gNe := by
  refine ⟨fun x y H Q => ∃ d e, Is X.K H d x ∧ Is X.K H e y ∧ okE 40 d = true ∧ okE 40 e = true ∧ Q (.bl (!eqD d e)) H, fun pins s σ H x y v u Q I rx ry h => ?_, fun H x y d e Q i1 i2 q R k => ⟨d, e, Is.mono0 H.sub i1, Is.mono0 H.sub i2, q.1, q.2.1, k _ _ H (Le.refl H) (is_bl.mpr rfl) q.2.2⟩⟩
  obtain ⟨d, e, i1, i2, h1, h2, q⟩ := h
  have hu := hr.units
  exact (rc_at (n := 39) I (A := X.A) (by omega) h1 h2 i1 i2 rx ry).2 _ _ _ _ ⟨.bl _, H, I, rfl, q⟩
end
end OD

namespace OD
open PySem PySem.Spec PyProof.Rows L2
section
variable {X : Cx} {pins : List (Addr × Obj)} {σ : St} {H : Hp} {s : Shared} {scope : Scope} {x : Str} {fp : List Addr}
end
end OD

namespace OD
variable {Z : Hp}
open PySem PySem.Spec PyProof.Rows L2
section
variable {X : Cx} {pins : List (Addr × Obj)} {σ : St} {H : Hp} {s : Shared} {h' : Heap}
theorem fp_ch {ch : List Addr} (hn : ∀ b ∈ ch, FpOk X pins H b) : ∀ b ∈ ch, (b ∈ X.ex ∨ X.s₀.heap.objs.size ≤ b) ∧ b ≠ X.env.locals ∧ (∀ x c, X.env.cells.lookup x = some c → c ≠ b) ∧ ∀ p ∈ X.pn ++ pins, p.1 ≠ b := fun b hb => by
  obtain ⟨_, h2, _, h4, h5, h6⟩ := hn b hb
  exact ⟨h4, h2, h5, h6⟩
theorem inv_turned {ch : List Addr} {t' : Nat} (I : Inv X pins σ H s) (hn : ∀ b ∈ ch, FpOk X pins H b) (k : ∀ b o, b ∉ ch → s.heap.get? b = some o → h'.get? b = some o) : Inv X pins σ H { s with heap := h', toks := t' } := by
  have nit : ∀ b u, H b = some u → b ∉ ch := fun b u e z => by rw [(hn b z).1] at e; cases e
  refine I.step (g' := s.gens) (d' := s.drawn) (ch := ch) (fp_ch hn) (fun b o _ _ hc e _ => k b o hc e) (fun b o _ _ hc e _ => ⟨o.slots, k b o hc e⟩) (fun _ _ _ _ n => n)
    (fun b o hc e => ⟨o, k b o hc e⟩) (fun _ _ e => e) (fun _ _ _ e => e) (fun b ps e => ⟨#[], by rw [e]; simp⟩) (fun m hm => ?_) (fun b u e => ?_) I.bare
  · obtain ⟨o, es, ep, ho, r⟩ := hm
    exact ⟨o, es, ep, k _ o (fun z => (hn _ z).2.1 rfl) ho, r⟩
  · refine (I.hok b u e).stay (fun c v hc q => k c v ?_ q) (fun _ q => q) fun _ _ q => q
    rcases hc with z | z
    · rw [z]; exact nit b u e
    · exact nit c _ z
theorem inv_turnedT {ch : List Addr} {t' : Nat} {T : Addr} {xs : List V} (I : Inv X pins σ H s) (hn : ∀ b ∈ ch, FpOk X pins H b) (k : ∀ b o, b ∉ ch → s.heap.get? b = some o → h'.get? b = some o) (hT : s.heap.objs.size ≤ T)
    (new : ObjOk X.prog X.w (upd H T (.tup xs)) h' T (.tup xs)) : Inv X pins σ (upd H T (.tup xs)) { s with heap := h', toks := t' } := by
  have nit : ∀ b u, H b = some u → b ∉ ch := fun b u e z => by rw [(hn b z).1] at e; cases e
  have fT : H T = none := I.hok.fresh hT
  have old : ∀ b o, s.heap.get? b = some o → b ≠ T := fun b o e => Nat.ne_of_lt (Nat.lt_of_lt_of_le (Heap.lt_size e) hT)
  have up : ∀ b u, H b = some u → upd H T (.tup xs) b = some u := fun b u e => (upd_ne (ne_of_none e fT)).trans e
  refine I.step (g' := s.gens) (d' := s.drawn) (ch := ch) (fp_ch hn) (fun b o _ _ hc e _ => k b o hc e) (fun b o _ _ hc e _ => ⟨o.slots, k b o hc e⟩) (fun b o _ e n => (upd_ne (old b o e)).trans n)
    (fun b o hc e => ⟨o, k b o hc e⟩) (fun b xs e => up b _ e) (fun b o u e => up b _ e) (fun b ps e => ⟨#[], by rw [up b _ e]; simp⟩) (fun m hm => ?_) (fun b u e => ?_) I.bare
  · obtain ⟨o, es, ep, ho, r⟩ := hm
    exact ⟨o, es, ep, k _ o (fun z => (hn _ z).2.1 rfl) ho, r⟩
  · by_cases hb : b = T
    · subst hb
      rw [upd_same] at e
      cases e
      exact new
    · rw [upd_ne hb] at e
      refine (I.hok b u e).stay (fun c v hc q => k c v ?_ q) (fun c q => up c _ q) fun c ys q => up c _ q
      rcases hc with z | z
      · rw [z]; exact nit b u e
      · exact nit c _ z
end
section
variable {X : Cx}
end

section
variable {X : Cx} {fr : Fr} {ta : DTA} {tb : DTS} {pos : Pos}
theorem list_g {K : PySem.W.Frag} {W1 : Vw} {d : Dt} {v : V} {ds : List Dt} (i1 : Is K W1.g d v) (el : listOf d = some ds) : ∃ a xs, v = .ref a ∧ (∀ W2 : Vw, Same W1.g W2.g → SqL K W2.h a xs) ∧ AllIs K W1.g ds xs := by
  cases d with
  | lst es =>
    obtain rfl : es = ds := Option.some.inj el
    obtain ⟨a, xs, rfl, h1, h2⟩ := is_lst.mp i1
    exact ⟨a, xs, rfl, fun W2 s2 => .of (W2.sub _ _ (s2 _ _ h1)), h2⟩
  | scr ns =>
    obtain rfl : ns.map Dt.int = ds := Option.some.inj el
    obtain ⟨a, rfl, h1⟩ := is_scr.mp i1
    exact ⟨a, _, rfl, fun W2 s2 => W2.sub.seq (s2.seq h1), AllIs.ints⟩
  | _ => cases el
def liftE (K : PySem.W.Frag) (t : DTE) : TE := fun σ H R => ∃ (F : Hp) (ρ : DS) (W : Vw) (Q : Dt → Prop), W.h = H ∧ Rl K (fun _ => none) F W ρ σ ∧ t ρ Q ∧ ∀ d v W', Le W W' → Is K W'.g d v → Q d → R v W'.h
theorem DE.up {e : Expr} {t : DTE} (h : DE X e t) (hz : X.stack.length = X.outer.length := by rfl) : PE X e (liftE X.K t) := by
  obtain ⟨te, p, l⟩ := h
  intro pins s σ H R I q
  obtain ⟨F, ρ, W, Q, rfl, r, h, k⟩ := q
  have r' : Rl X.K (Zx X) F W ρ σ := by unfold Zx; rw [if_pos (Or.inl hz)]; exact r
  exact p pins s σ W.h R I (l ρ σ W Q r' h R k)
theorem li_lift {K : PySem.W.Frag} {t : DTE} : LiE K (fun _ => none) (liftE K t) t := fun ρ σ H Q r h R k => ⟨_, ρ, H, Q, rfl, r, h, k⟩
theorem LiF.le {K : PySem.W.Frag} {te : TE} {t : DTE} (l : LiF K Z te t) : LiE K Z te t := fun ρ σ H Q r h R k => l ρ σ H Q r h R fun es q xs H' s h0 h1 h2 i z => k (.lst es) (.ref q) (H'.frz q _ h1) (le_frz s h0 h1 h2) (is_lst.mpr ⟨q, xs, rfl, upd_same, AllIs.mono0 (same_new h2 _) i⟩) z
variable {scope : Scope} {x : Str} {elt iter : Expr} {px : Pos} {tl te : DTE}
end
end OD

namespace OD
variable {Z : Hp}
open PySem PySem.Spec PyProof.Rows L2
def Ite (K : PySem.W.Frag) (l : Addr) : It :=
  ⟨fun i H => ∃ xs x, SqL K H l xs ∧ xs[i]? = some x,
   fun i H v H' => ∃ T x, v = .ref T ∧ H T = none ∧ H' = upd H T (.tup [.int i, x]) ∧ ∀ xs, SqL K H l xs → xs[i]? = some x,
   fun i H => ∃ xs, SqL K H l xs ∧ xs.length ≤ i⟩
def tnEnum (l e it : Addr) (i : Nat) (h : Heap) : Prop := (∃ old, IsEnum h e it (i : Int) old) ∧ h.IsListIter it l i
theorem turn_enum {P : Program} {w : World} {K : PySem.W.Frag} {elts : List Expr} {x1} {tpos : Pos} (l e it : Addr) (hne : e ≠ it) : Turn P w K (.Tuple elts x1 tpos) (Ite K l) [e, it] e (tnEnum l e it) where
  mem := by simp
  obj := fun i h ⟨⟨old, h1⟩, ⟨o4, e4, c4, d4⟩⟩ b hb => by
    simp only [List.mem_cons, List.not_mem_nil, or_false] at hb
    rcases hb with rfl | rfl
    · exact ⟨_, h1, fun v z => by cases z⟩
    · exact ⟨_, e4, fun v z => by rw [d4] at z; cases z⟩
  keep := fun i h h' ⟨⟨old, h1⟩, ⟨o4, e4, c4⟩⟩ k => ⟨⟨old, k e (by simp) _ h1⟩, ⟨o4, k it (by simp) _ e4, c4⟩⟩
  item := fun X hP hw hK hc i pins s σ H E I hfp ⟨⟨old, h1⟩, h4⟩ ⟨xs, x, q1, e1⟩ => by
    subst hP hw hK
    obtain ⟨its1, r1, p1, z1⟩ := I.list q1
    obtain ⟨u, eu, ru⟩ := r1.get e1
    refine wpAny_pyNext_enum_item h1 h4 p1.isList (x := u) (by simpa using eu) hne fun h' a1 a2 a3 a4 a5 => ?_
    refine ⟨_, rfl, wpAny_letOwnedTupleGo_enum a1 fun h'' b1 b2 => ?_⟩
    have ne : ∀ b ∈ [e, it], b ≠ s.heap.objs.size := fun b hb => by
      simp only [List.mem_cons, List.not_mem_nil, or_false] at hb
      obtain ⟨o4, e4, _⟩ := id h4
      rcases hb with rfl | rfl
      · exact Nat.ne_of_lt (Heap.lt_size h1)
      · exact Nat.ne_of_lt (Heap.lt_size e4)
    have en : e ≠ s.heap.objs.size := ne e (by simp)
    have aT := b2.extBut _ _ (Ne.symm en) a3
    have I' : Inv X pins σ (upd H s.heap.objs.size (.tup [.int i, x])) { s with heap := h'', toks := s.toks + 1 } := inv_turnedT (ch := [e, it]) (t' := s.toks + 1) I hfp (fun b o hb q => by
        simp only [List.mem_cons, List.not_mem_nil, or_false, not_or] at hb
        exact b2.extBut b o hb.1 (a5 b o hb.1 hb.2 q)) (Nat.le_refl _) ⟨by show 2 ≤ sizeLine; rw [sizeLine_eq]; decide, [.int i s.toks, u], .cons ⟨_, rfl⟩ (.cons ru .nil), _, aT, rfl, _, rfl⟩
    refine ⟨.ref s.heap.objs.size, _, I', rfl, ⟨_, x, rfl, I.fresh, rfl, fun xs' q => ?_⟩, ⟨⟨u, ?_⟩, a2.extBut b2.extBut (Ne.symm hne)⟩, fun b hb => ?_⟩
    · rw [I.list_inj q q1]; exact e1
    · have : ((i + 1 : Nat) : Int) = (i : Int) + 1 := by omega
      show IsEnum h'' e it ((i + 1 : Nat) : Int) u
      rw [this]
      exact b1
    · exact (upd_ne (ne b hb)).trans (hfp b hb).1
  done := fun X hP hw hK hc i pins s σ H E I hfp ⟨⟨old, h1⟩, h4⟩ ⟨xs, q1, e1⟩ => by
    subst hP hw hK
    obtain ⟨its1, r1, p1, z1⟩ := I.list q1
    refine wpAny_pyNext_enum_end (I.ok.hd hc) h1 h4 p1.isList ?_ fun h' hk => ⟨rfl, ?_⟩
    · have := r1.length
      simp; omega
    · exact inv_turned (ch := [e, it]) (t' := s.toks) I hfp fun b o hb q => by
        simp only [List.mem_cons, List.not_mem_nil, or_false, not_or] at hb
        exact hk b o hb.2 q
  self := fun A i s Q E ⟨⟨old, h1⟩, _⟩ q => wpAny_pyIter_enum h1 q
def iEnum (K : PySem.W.Frag) (ta : TA) : TI := fun σ H R => ta σ H fun vs H1 => ∃ l xs, vs = [.ref l] ∧ SqL K H1 l xs ∧ R (Ite K l) H1
section
variable {X : Cx}
theorem boot_enum : bootBuiltins "enumerate" = some (.type "enumerate") := by decide +kernel
theorem pi_enum {a : Expr} {ta : TA} {p pos : Pos} {elts : List Expr} {x1} {tpos : Pos} (hg : Gl X "enumerate") (hm : X.mg "enumerate" = none) (ha : PA X [a] ta) (hs : starEach [a] X.env = (false, eval a X.env) :: starEach [] X.env := by rfl)
    (hpl : (backTo pos (starEach [] X.env)).any (·.1) = false := by rfl) : PI X (.Tuple elts x1 tpos) (.Call (.Name "enumerate" p) [a] [] pos) (iEnum X.K ta) := by
  intro pins s σ H R I h
  refine Call_ (ld_blt I hg hm boot_enum (PyProof.Rows.callWith_type1 (thn (ha pos pins s σ H _ I h) fun us s1 ⟨vs, H1, I1, r1, q1⟩ => ?_) hs hpl))
  obtain ⟨l, xs, e, q1, q⟩ := q1
  subst e
  obtain ⟨u, rfl, ru⟩ := r1.one
  cases ru
  obtain ⟨its1, r1, p1, z1⟩ := I1.list q1
  refine call_enumerate_list p1.isList fun h' b1 b2 b3 b4 => ?_
  have I2 : Inv X pins σ H1 { s1 with heap := h' } := I1.kept (t' := s1.toks) b4
  refine wpAny_pyIter_enum b1 ⟨s1.heap.objs.size + 1, [s1.heap.objs.size + 1, s1.heap.objs.size], _, _, H1, rfl, I2, turn_enum l (s1.heap.objs.size + 1) s1.heap.objs.size (Nat.succ_ne_self _), ⟨⟨_, b1⟩, b2⟩, fun b hb => ?_, q⟩
  have hb' : s1.heap.objs.size ≤ b := by
    simp only [List.mem_cons, List.not_mem_nil, or_false] at hb
    rcases hb with rfl | rfl
    · exact Nat.le_add_right _ _
    · exact Nat.le_refl _
  have f := I1.fpOk hb' (I1.hok.fresh hb')
  exact f
theorem for_enum {K : PySem.W.Frag} {l : Addr} {xs : List V} {g : TG} {tb : TS} {D : Ends} {σ : St} {H : Hp} (Pv : Nat → St → Hp → Prop) (h0 : Pv 0 σ H) (hl : ∀ i σ H, Pv i σ H → SqL K H l xs)
    (hs : ∀ (i : Nat) x T σ H, xs[i]? = some x → H T = none → Pv i σ H → g (.ref T) σ (upd H T (.tup [.int i, x])) fun σ2 H2 => tb { D with nx := Pv (i + 1), ct := Pv (i + 1), bk := D.nx } σ2 H2) (hd : ∀ σ H, Pv xs.length σ H → D.nx σ H) :
    ∃ W : Nat → Nat → St → Hp → Prop, (∃ m, W 0 m σ H) ∧ ∀ i m σ H, W i m σ H →
      ((Ite K l).stop i H ∧ D.nx σ H) ∨ ((Ite K l).go i H ∧ ∃ N : St → Hp → Prop, (∀ σ' H', N σ' H' → ∃ m', m' < m ∧ W (i + 1) m' σ' H') ∧ ∀ x H', (Ite K l).yld i H x H' → g x σ H' fun σ2 H2 => tb { D with nx := N, ct := N, bk := D.nx } σ2 H2) := by
  refine ⟨fun i m σ H => m = xs.length - i ∧ i ≤ xs.length ∧ Pv i σ H, ⟨_, rfl, Nat.zero_le _, h0⟩, ?_⟩
  rintro i m σ H ⟨rfl, hi, p⟩
  have q1 := hl i σ H p
  by_cases hlt : i < xs.length
  · have g1 : xs[i]? = some xs[i] := List.getElem?_eq_getElem hlt
    refine .inr ⟨⟨xs, xs[i], q1, g1⟩, Pv (i + 1), fun σ' H' p' => ⟨xs.length - (i + 1), by omega, rfl, hlt, p'⟩, fun v H' y => ?_⟩
    obtain ⟨T, x, rfl, hT, rfl, e1⟩ := y
    exact hs i x T σ H (e1 xs q1) hT p
  · have e : i = xs.length := by omega
    subst e
    exact .inl ⟨⟨xs, q1, Nat.le_refl _⟩, hd σ H p⟩
end
section
variable {X : Cx} {fr : Fr} {ta : DTA} {tb : DTS} {pos p0 p1 p2 : Pos}
def dForE (i j : Nat) (ta : DTA) (tb : DTS) : DTS := fun D ρ => ta ρ fun ds => ∃ (d : Dt) (xs : List Dt) (Pv : Nat → DS → Prop), ds = [d] ∧ listOf d = some xs ∧ Pv 0 ρ ∧
  (∀ (n : Nat) x ρ', xs[n]? = some x → Pv n ρ' → tb { D with nx := Pv (n + 1), ct := Pv (n + 1), bk := D.nx } ((ρ'.set i (.some (.int n))).set j (.some x))) ∧ ∀ ρ', Pv xs.length ρ' → D.nx ρ'
theorem ds_for_enumerate {i j : Nat} {x y : Str} {a : Expr} {body : List Stmt} {px py pt p0 pos1 : Pos} {kt : Nat} (hc : X.calm = true) (hN : X.N.Nodup) (hi : X.N[i]? = some x) (hj : X.N[j]? = some y) (hx : Loc X.env.scope x) (hy : Loc X.env.scope y) (hp : PassesOwn (model X.prog X.w) X.A X.env X.xe)
    (hg : Gl X "enumerate") (hm : X.mg "enumerate" = none) (ha : DA X [a] ta) (hb : DSs X fr body tb) (hs : ∀ z, foldedSetIterable (.Call (.Name "enumerate" p0) [a] [] pos1) X.env z = pure z := by intro _; rfl)
    (hst : starEach [a] X.env = (false, eval a X.env) :: starEach [] X.env := by rfl) (hpl : (backTo pos1 (starEach [] X.env)).any (·.1) = false := by rfl)
    (hf : X.fn x = true ∨ X.env.scope.names.lookup x = some .local := by first | exact .inl rfl | exact .inr rfl | assumption) (hf2 : X.fn y = true ∨ X.env.scope.names.lookup y = some .local := by first | exact .inl rfl | exact .inr rfl | assumption) :
    DSt X fr (.For (.Tuple [.Name x px, .Name y py] kt pt) (.Call (.Name "enumerate" p0) [a] [] pos1) body [] pos) (dForE i j ta tb) := by
  obtain ⟨tt, p, l⟩ := ha
  obtain ⟨tbs, p2, l2⟩ := hb
  refine ⟨_, ps_for hp hc (pi_enum hg hm p hst hpl) (pg_tup hc (pgs_cons (pg_name hN hi hx hf) (pgs_cons (pg_name hN hj hy hf2) pgs_nil))) p2 hs, fun W0 G ρ σ W D D' at_ s h => l ρ σ W _ at_.rl h _ fun ds vs W1 s1 i1 ⟨d, xs, Pv, ed, el1, h0, ht, hd⟩ => ?_⟩
  subst ed
  obtain ⟨v1, rfl, j1⟩ := i1.one
  have hg1 : Same G W1.g := at_.gs.trans s1.g
  obtain ⟨l1, us, rfl, hq1, ha1⟩ := list_g j1 el1
  refine ⟨l1, us, rfl, hq1 W1 (Same.refl _), for_enum (K := X.K) (xs := us) (fun n => InL X.K (Zx X) W0 W1 (Pv n)) ⟨ρ, W1, rfl, (at_.step s1).now, h0⟩ (fun n σ' H' ⟨_, W2, e2, a2, _⟩ => e2 ▸ hq1 W2 a2.gs) ?_ ?_⟩
  · rintro n u T σ' _ hu hT ⟨ρ', W2, rfl, a2, hp2⟩
    obtain ⟨x', ex, ix⟩ := ha1.get' hu
    have s3 := le_new hT (.tup [.int n, u])
    have a3 := a2.step s3
    refine ⟨T, _, rfl, .of upd_same, rfl, .int n, [u], rfl, u, [], rfl, rfl, ?_⟩
    exact l2 W0 W1.g _ _ (W2.new T (.tup [.int n, u])) { D with nx := Pv (n + 1), ct := Pv (n + 1), bk := D.nx } _ ((a3.set i (is_int.mpr rfl)).set j (Is.mono0 a3.gs ix)) (sim_loop s hg1) (ht n x' ρ' ex hp2)
  · rintro σ' _ ⟨ρ', W2, rfl, a2, hp2⟩
    exact s.nx ρ' σ' W2 (a2.weak hg1) (hd ρ' (by rw [ha1.length]; exact hp2))
theorem ds_forR2 {j : Nat} {x : Str} {a b : Expr} {body : List Stmt} {px p0 pos1 : Pos} (hc : X.calm = true) (hN : X.N.Nodup) (hi : X.N[j]? = some x) (hx : Loc X.env.scope x) (hp : PassesOwn (model X.prog X.w) X.A X.env X.xe)
    (hg : Gl X "range") (hm : X.mg "range" = none) (h : DA X [a, b] ta) (hb : DSs X fr body tb) (hs : ∀ x, foldedSetIterable (.Call (.Name "range" p0) [a, b] [] pos1) X.env x = pure x := by intro _; rfl)
    (hst : starEach [a, b] X.env = [(false, eval a X.env), (false, eval b X.env)] := by rfl) (hst2 : starEach [b] X.env = [(false, eval b X.env)] := by rfl)
    (hf : X.fn x = true ∨ X.env.scope.names.lookup x = some .local := by first | exact .inl rfl | exact .inr rfl | assumption) : DSt X fr (.For (.Name x px) (.Call (.Name "range" p0) [a, b] [] pos1) body [] pos) (dForR2 j ta tb) := by
  obtain ⟨tt, p, l⟩ := h
  obtain ⟨tbs, p2, l2⟩ := hb
  refine ⟨_, ps_for hp hc (pi_range2 hg hm p hst hst2) (pg_name hN hi hx hf) p2 hs, fun W0 G ρ σ W D D' at_ s h => l ρ σ W _ at_.rl h _ fun ds vs W1 s1 i1 ⟨m, n, Pv, ed, m1, m2, n1, n2, h0, ht, hd⟩ => ?_⟩
  subst ed
  obtain ⟨v1, v2, rfl, j1, j2⟩ := i1.two
  have hg1 : Same G W1.g := at_.gs.trans s1.g
  refine ⟨m, n, by rw [is_int.mp j1, is_int.mp j2], ⟨m1, m2, n1, n2⟩, for_range (lo := m) (n := (n - m).toNat) (fun i => InL X.K (Zx X) W0 W1 (Pv i)) ⟨ρ, W1, rfl, (at_.step s1).now, h0⟩ ?_ ?_⟩
  · rintro i σ' _ hi ⟨ρ', W2, rfl, a2, hp2⟩
    exact l2 W0 W1.g _ _ W2 { D with nx := Pv (i + 1), ct := Pv (i + 1), bk := D.nx } _ (a2.set j (is_int.mpr rfl)) (sim_loop s hg1) (ht i ρ' hi hp2)
  · rintro σ' _ ⟨ρ', W2, rfl, a2, hp2⟩
    exact s.nx ρ' σ' W2 (a2.weak hg1) (hd ρ' hp2)
def dMin (ta : DTA) : DTE := fun ρ Q => ta ρ fun ds => ∃ i j, ds = [.int i, .int j] ∧ Q (.int (if j < i then j else i))
theorem de_min {a b : Expr} (hc : X.calm = true) (hg : Gl X "min") (hm : X.mg "min" = none) (ha : DA X [a, b] ta) (hs : starEach [a, b] X.env = (false, eval a X.env) :: starEach [b] X.env := by rfl) (hpl : (backTo pos (starEach [b] X.env)).any (·.1) = false := by rfl) :
    DE X (.Call (.Name "min" p0) [a, b] [] pos) (dMin ta) := by
  obtain ⟨te, p1, l1⟩ := ha
  refine ⟨_, pe_callB (call_min2 hc) hg hm (by decide +kernel) p1 (by decide) (by decide) hs hpl, fun ρ σ H Q r h R k => l1 ρ σ H _ r h _ fun ds vs H1 s1 i1 ⟨i, j, ed, q⟩ => ?_⟩
  subst ed
  obtain ⟨v1, v2, rfl, j1, j2⟩ := i1.two
  exact ⟨i, j, by rw [is_int.mp j1, is_int.mp j2], k _ _ H1 s1 (is_int.mpr rfl) q⟩
structure IsiOk (K : PySem.W.Frag) (C : Addr) : Prop where
  cl : Cls K C
  ha : PySem.W.findIn K (.ref C) "__class__" = some (some (.builtin "object.__class__"))
  hn : PySem.W.specialIn K (.builtin "object.__class__") "__get__" = some (some (.builtin "getset_descriptor.__get__"))
  htk : PySem.W.takesIn K (.builtin "object.__class__") = some true
  hm : PySem.W.mroIn K C (.type "object") = some true
theorem call_isiO : CallR X (.builtin "isinstance") (fun xs H Q => ∃ v D tv b, xs = [v, .ref D] ∧ TyOf X.K H v tv ∧ PySem.W.kitOne X.K tv (.ref D) = some b ∧ Q (.bl b) H) := by
  intro pins s σ H xs us Q I r h
  obtain ⟨v, D, tv, b, rfl, hty, hk, q⟩ := h
  cases r with
  | cons r1 r2 =>
    cases r2 with
    | cons r3 r4 =>
      cases r4
      cases r3
      exact isinst_ok I r1 hty hk fun tk => ⟨.bl b, H, I.tok _, rfl, q⟩
def dIsiO (K : PySem.W.Frag) (D : Addr) (ta : DTE) : DTE := fun ρ Q => ta ρ fun d => ∃ C f n b, d = .way C f n ∧ IsiOk K C ∧ PySem.W.kitOne K (.ref C) (.ref D) = some b ∧ Q (.bl b)
theorem de_isiO {a : Expr} {t : DTE} {y : Str} {p' : Pos} {D : Addr} (hm : X.mg "isinstance" = none) (hmc : X.mg y = some (.ref D)) (ha : DE X a t)
    (hg : Gl X "isinstance" := by rfl) (hgc : Gl X y := by rfl) (hdy : (y == ("__debug__" : Str)) = false := by decide)
    (hs : starEach [a, .Name y p'] X.env = (false, eval a X.env) :: starEach [.Name y p'] X.env := by rfl) (hs2 : starEach [.Name y p'] X.env = (false, eval (.Name y p') X.env) :: starEach [] X.env := by rfl)
    (hpl : (backTo pos (starEach [.Name y p'] X.env)).any (·.1) = false := by rfl) :
    DE X (.Call (.Name "isinstance" p0) [a, .Name y p'] [] pos) (dIsiO X.K D t) := by
  obtain ⟨te, p1, l1⟩ := ha
  have pc : PE X (.Name y p') (tC (.ref D)) := pe_glob hgc hmc rfl hdy
  refine ⟨_, pe_callB call_isiO hg hm boot_isinstance (pa_cons p1 (pa_cons pc pa_nil hs2) hs) (by decide) (by decide) hs hpl, fun ρ σ H Q r h R k => l1 ρ σ H _ r h _ fun d v H1 s1 i1 ⟨C, f, n, b, ed, ok, e, q⟩ => ?_⟩
  subst ed
  obtain ⟨p, dx, rfl, hp⟩ := is_way.mp i1
  exact ⟨_, D, _, b, rfl, .ins (H1.sub _ _ hp) ok.cl ok.ha ok.hn ok.htk ok.hm, e, k _ _ H1 s1 (is_bl.mpr rfl) q⟩
def dAugI (i : Nat) (g : Int → Int → Int) (te : DTE) : DTS := fun D ρ => ∃ d, ρ[i]? = some (.some d) ∧ te ρ fun e => ∃ m n, d = .int m ∧ e = .int n ∧ D.nx (ρ.set i (.some (.int (g m n))))
theorem ds_augI {i : Nat} {x : Str} {e : Expr} {te : DTE} {op : Operator} {g : Int → Int → Int} {pos' : Pos} (ho : PIp X op (ipI g)) (hN : X.N.Nodup) (hi : X.N[i]? = some x) (hx : Loc X.env.scope x) (h : DE X e te)
    (hf : X.fn x = true ∨ X.env.scope.names.lookup x = some .local := by first | exact .inl rfl | exact .inr rfl | assumption) : DSt X fr (.AugAssign (.Name x pos') op e pos) (dAugI i g te) := by
  obtain ⟨tt, p, l⟩ := h
  refine ⟨_, ps_aug hN hi hx p ho hf, fun W0 G ρ σ W D D' a s h => ?_⟩
  obtain ⟨d, ed, h⟩ := h
  obtain ⟨v, ev, iv⟩ := a.rl.at_ i d ed
  refine ⟨v, ev, l ρ σ W _ a.rl h _ fun z u W1 s1 i1 ⟨m, n, em, en, q⟩ => ?_⟩
  subst em
  subst en
  exact ⟨m, n, is_int.mp iv, is_int.mp i1, s.nx _ _ W1 ((a.step s1).set i (is_int.mpr rfl)) q⟩
end
end OD

namespace OD
variable {Z : Hp}
open PySem PySem.Spec PyProof.Rows L2
def Itd (lo : Int) (n : Nat) : It := ⟨fun i _ => i < n, fun i H x H' => H' = H ∧ x = .int (lo - i), fun i _ => n ≤ i⟩
theorem turn_down {P : Program} {w : World} {K : PySem.W.Frag} {tg : Expr} (it : Addr) (lo : Int) (n : Nat) : Turn P w K tg (Itd lo n) [it] it (fun i h => IsRangeIter h it (lo + (i : Nat) * (-1)) ((n : Int) - (i : Nat)) (-1)) where
  mem := by simp
  obj := fun i h st b hb => by
    have e : b = it := by simpa using hb
    subst e
    exact ⟨_, st, fun v z => by
      have z' : Data.fields _ = Data.cell v := z
      cases z'⟩
  keep := fun i h h' st k => k it (by simp) _ st
  item := by
    intro X hP hw hK hc i pins s σ H E I hf st hg
    subst hP hw hK
    obtain ⟨f0, f1, f2, f3, f4, f5⟩ := hf it (by simp)
    have W := Walks.range (prog := X.prog) (w := X.w) (I.ok.hd hc) it lo (-1) n
    refine W.item i s _ _ hg st fun v h' tk hv st' kk => ?_
    obtain ⟨t, rfl⟩ := hv
    have I1 : Inv X pins σ H { s with heap := h', toks := tk } := I.turned (fun b o hb e => kk b o (by simpa using hb) e) f0 f1 f3 f4 f5
    refine ⟨_, rfl, go_of (s := { s with heap := h', toks := tk }) (n := "range_iterator") st' rfl rfl (by decide) ⟨.int (lo - i), H, I1, ⟨t, ?_⟩, ⟨rfl, rfl⟩, st', fun b hb => (hf b hb).1⟩⟩
    rw [show lo + (i : Int) * (-1) = lo - i by omega]
  done := by
    intro X hP hw hK hc i pins s σ H E I hf st hg
    subst hP hw hK
    obtain ⟨f0, f1, f2, f3, f4, f5⟩ := hf it (by simp)
    exact wpAny_pyNext_range_end (I.ok.hd hc) st (by have : n ≤ i := hg; omega) fun h' eb => ⟨rfl, I.turned (t' := s.toks) (fun b o hb e => eb b o hb e) f0 f1 f3 f4 f5⟩
  self := fun _ _ _ _ _ st h => wpAny_pyIter_rangeiter st h
theorem rangeSize_down (a b : Int) : Builtin.Range.rangeSize a b (-1) = if b < a then a - b else 0 := by
  unfold Builtin.Range.rangeSize
  rw [if_neg (by decide)]
  split
  · rename_i h
    have : (a - b - 1) / (- -1) = a - b - 1 := by rw [show (- -1 : Int) = 1 by decide, Int.ediv_one]
    omega
  · rfl
theorem small_down {a b : Int} (ha : -(2 ^ 62) ≤ a) (ha' : a < 2 ^ 62) (hb : -(2 ^ 62) ≤ b) (hb' : b < 2 ^ 62) : Builtin.Range.small a b (-1) = true := by
  unfold Builtin.Range.small
  rw [rangeSize_down]
  simp only [Builtin.Range.rangeFitsLong, Bool.and_eq_true, Bool.or_eq_true, decide_eq_true_eq, beq_iff_eq, show ¬ (-1 : Int) > 0 by decide, if_false]
  split <;> omega
section
variable {X : Cx} {tg : Expr}
def iDown (ta : TA) : TI := fun σ H R => ta σ H fun vs H1 => ∃ i j : Int, vs = [.int i, .int j, .int (-1)] ∧ (-(2 ^ 30) ≤ i ∧ i < 2 ^ 30 ∧ -(2 ^ 30) ≤ j ∧ j < 2 ^ 30) ∧ R (Itd i (i - j).toNat) H1
theorem pi_down {a b c : Expr} {ta : TA} {p pos : Pos} (hg : Gl X "range") (hm : X.mg "range" = none) (ha : PA X [a, b, c] ta) (hs : starEach [a, b, c] X.env = (false, eval a X.env) :: starEach [b, c] X.env := by rfl)
    (hpl : (backTo pos (starEach [b, c] X.env)).any (·.1) = false := by rfl) : PI X tg (.Call (.Name "range" p) [a, b, c] [] pos) (iDown ta) := by
  intro pins s σ H R I h
  refine Call_ (ld_blt I hg hm boot_range (PyProof.Rows.callWith_type1 (thn (ha pos pins s σ H _ I h) fun us s1 ⟨vs, H1, I1, r1, q1⟩ => ?_) hs hpl))
  obtain ⟨i, j, e, ⟨q1, q2, q3, q4⟩, q⟩ := q1
  subst e
  cases r1 with
  | cons r rr =>
  cases rr with
  | cons r' rr =>
  cases rr with
  | cons r'' rr =>
    cases rr
    obtain ⟨t, rfl⟩ := r
    obtain ⟨t', rfl⟩ := r'
    obtain ⟨t'', rfl⟩ := r''
    refine call_range_3 (by decide) ?_ (Or.inl (PyProof.noPylong_small (by omega)))
    refine wpAny_pyIter_range (IsRange.new ..) (small_down (by omega) (by omega) (by omega) (by omega)) ?_
    have I2 : Inv X pins σ H1 { s1 with heap := s1.heap.push { cls := .type "range", data := .fields #[.int i t, .int j t', .int (-1) t''] }, toks := s1.toks } := I1.kept fun b o e => Heap.get?_push_of_some _ e
    refine ⟨(s1.heap.push { cls := .type "range", data := .fields #[.int i t, .int j t', .int (-1) t''] }).objs.size, [(s1.heap.push { cls := .type "range", data := .fields #[.int i t, .int j t', .int (-1) t''] }).objs.size], _, _, H1, rfl,
      I2.kept (t' := s1.toks) fun b o e => Heap.get?_push_of_some _ e, turn_down _ i (i - j).toNat, ?_, fun b hb => ?_, q⟩
    · have e1 : i + ((0 : Nat) : Int) * (-1) = i := by simp
      have e2 : (((i - j).toNat : Nat) : Int) - ((0 : Nat) : Int) = Builtin.Range.rangeSize i j (-1) := by rw [rangeSize_down]; split <;> omega
      show IsRangeIter _ _ (i + ((0 : Nat) : Int) * (-1)) ((((i - j).toNat : Nat) : Int) - ((0 : Nat) : Int)) (-1)
      rw [e1, e2]
      exact Heap.get?_push_size _ rfl
    · have e : b = (s1.heap.push { cls := .type "range", data := .fields #[.int i t, .int j t', .int (-1) t''] }).objs.size := by simpa using hb
      subst e
      exact I2.fpOk (Nat.le_refl _) (I2.hok.fresh (Nat.le_refl _))
theorem for_down {lo : Int} {n : Nat} {g : TG} {tb : TS} {D : Ends} {σ : St} {H : Hp} (Pv : Nat → St → Hp → Prop) (h0 : Pv 0 σ H)
    (hs : ∀ i σ H, i < n → Pv i σ H → g (.int (lo - i)) σ H fun σ2 H2 => tb { D with nx := Pv (i + 1), ct := Pv (i + 1), bk := D.nx } σ2 H2) (hd : ∀ σ H, Pv n σ H → D.nx σ H) :
    ∃ W : Nat → Nat → St → Hp → Prop, (∃ m, W 0 m σ H) ∧ ∀ i m σ H, W i m σ H →
      ((Itd lo n).stop i H ∧ D.nx σ H) ∨ ((Itd lo n).go i H ∧ ∃ N : St → Hp → Prop, (∀ σ' H', N σ' H' → ∃ m', m' < m ∧ W (i + 1) m' σ' H') ∧ ∀ x H', (Itd lo n).yld i H x H' → g x σ H' fun σ2 H2 => tb { D with nx := N, ct := N, bk := D.nx } σ2 H2) := by
  refine ⟨fun i m σ H => m = n - i ∧ i ≤ n ∧ Pv i σ H, ⟨n, by simp, Nat.zero_le _, h0⟩, ?_⟩
  rintro i m σ H ⟨rfl, hi, p⟩
  by_cases hlt : i < n
  · refine .inr ⟨hlt, Pv (i + 1), fun σ' H' p' => ⟨n - (i + 1), by omega, rfl, hlt, p'⟩, fun x H' y => ?_⟩
    obtain ⟨e, y⟩ := y
    subst e y
    exact hs i σ _ hlt p
  · have e : i = n := by omega
    subst e
    exact .inl ⟨Nat.le_refl _, hd σ H p⟩
variable {fr : Fr} {ta : DTA} {tb : DTS} {te : DTE} {pos p0 p1 p2 : Pos}
def dForD (j : Nat) (ta : DTA) (tb : DTS) : DTS := fun D ρ => ta ρ fun ds => ∃ (m n : Int) (Pv : Nat → DS → Prop), ds = [.int m, .int n, .int (-1)] ∧ -(2 ^ 30) ≤ m ∧ m < 2 ^ 30 ∧ -(2 ^ 30) ≤ n ∧ n < 2 ^ 30 ∧ Pv 0 ρ ∧
  (∀ (i : Nat) ρ', i < (m - n).toNat → Pv i ρ' → tb { D with nx := Pv (i + 1), ct := Pv (i + 1), bk := D.nx } (ρ'.set j (.some (.int (m - i))))) ∧ ∀ ρ', Pv (m - n).toNat ρ' → D.nx ρ'
theorem AllIs.three {K : PySem.W.Frag} {H : Hp} {d e f : Dt} {xs : List V} (h : AllIs K H [d, e, f] xs) : ∃ v u w, xs = [v, u, w] ∧ Is K H d v ∧ Is K H e u ∧ Is K H f w := by
  obtain ⟨x, r, rfl, h1, h2⟩ := allIs_cons.mp h
  obtain ⟨u, w, rfl, h3, h4⟩ := h2.two
  exact ⟨x, u, w, rfl, h1, h3, h4⟩
theorem ds_forD {j : Nat} {x : Str} {a b c : Expr} {body : List Stmt} {px p0 pos1 : Pos} (hc : X.calm = true) (hN : X.N.Nodup) (hi : X.N[j]? = some x) (hx : Loc X.env.scope x) (hp : PassesOwn (model X.prog X.w) X.A X.env X.xe)
    (hg : Gl X "range") (hm : X.mg "range" = none) (h : DA X [a, b, c] ta) (hb : DSs X fr body tb) (hs : ∀ x, foldedSetIterable (.Call (.Name "range" p0) [a, b, c] [] pos1) X.env x = pure x := by intro _; rfl)
    (hst : starEach [a, b, c] X.env = (false, eval a X.env) :: starEach [b, c] X.env := by rfl) (hpl : (backTo pos1 (starEach [b, c] X.env)).any (·.1) = false := by rfl)
    (hf : X.fn x = true ∨ X.env.scope.names.lookup x = some .local := by first | exact .inl rfl | exact .inr rfl | assumption) : DSt X fr (.For (.Name x px) (.Call (.Name "range" p0) [a, b, c] [] pos1) body [] pos) (dForD j ta tb) := by
  obtain ⟨tt, p, l⟩ := h
  obtain ⟨tbs, p2, l2⟩ := hb
  refine ⟨_, ps_for hp hc (pi_down hg hm p hst hpl) (pg_name hN hi hx hf) p2 hs, fun W0 G ρ σ W D D' at_ s h => l ρ σ W _ at_.rl h _ fun ds vs W1 s1 i1 ⟨m, n, Pv, ed, m1, m2, n1, n2, h0, ht, hd⟩ => ?_⟩
  subst ed
  obtain ⟨v1, v2, v3, rfl, j1, j2, j3⟩ := i1.three
  have hg1 : Same G W1.g := at_.gs.trans s1.g
  refine ⟨m, n, by rw [is_int.mp j1, is_int.mp j2, is_int.mp j3], ⟨m1, m2, n1, n2⟩, for_down (lo := m) (n := (m - n).toNat) (fun i => InL X.K (Zx X) W0 W1 (Pv i)) ⟨ρ, W1, rfl, (at_.step s1).now, h0⟩ ?_ ?_⟩
  · rintro i σ' _ hi ⟨ρ', W2, rfl, a2, hp2⟩
    exact l2 W0 W1.g _ _ W2 { D with nx := Pv (i + 1), ct := Pv (i + 1), bk := D.nx } _ (a2.set j (is_int.mpr rfl)) (sim_loop s hg1) (ht i ρ' hi hp2)
  · rintro σ' _ ⟨ρ', W2, rfl, a2, hp2⟩
    exact s.nx ρ' σ' W2 (a2.weak hg1) (hd ρ' hp2)
def dMax (ta : DTA) : DTE := fun ρ Q => ta ρ fun ds => ∃ i j, ds = [.int i, .int j] ∧ Q (.int (if j > i then j else i))
theorem de_max {a b : Expr} (hc : X.calm = true) (hg : Gl X "max") (hm : X.mg "max" = none) (ha : DA X [a, b] ta) (hs : starEach [a, b] X.env = (false, eval a X.env) :: starEach [b] X.env := by rfl) (hpl : (backTo pos (starEach [b] X.env)).any (·.1) = false := by rfl) :
    DE X (.Call (.Name "max" p0) [a, b] [] pos) (dMax ta) := by
  obtain ⟨te, p1, l1⟩ := ha
  refine ⟨_, pe_callB (call_max2 hc) hg hm (by decide +kernel) p1 (by decide) (by decide) hs hpl, fun ρ σ H Q r h R k => l1 ρ σ H _ r h _ fun ds vs H1 s1 i1 ⟨i, j, ed, q⟩ => ?_⟩
  subst ed
  obtain ⟨v1, v2, rfl, j1, j2⟩ := i1.two
  exact ⟨i, j, by rw [is_int.mp j1, is_int.mp j2], k _ _ H1 s1 (is_int.mpr rfl) q⟩
def isNon : Dt → Bool
  | .non => true
  | _ => false
theorem isNon_iff {K : PySem.W.Frag} {H : Hp} {d : Dt} {v : V} (h : Is K H d v) : decide (v = .non) = isNon d := by
  cases d with
  | non => rw [is_non.mp h]; rfl
  | bl b => rw [is_bl.mp h]; rfl
  | int b => rw [is_int.mp h]; rfl
  | str b => rw [is_str.mp h]; rfl
  | tup b => obtain ⟨a, xs, rfl, _⟩ := is_tup.mp h; rfl
  | lst b => obtain ⟨a, xs, rfl, _⟩ := is_lst.mp h; rfl
  | scr b => obtain ⟨a, rfl, _⟩ := is_scr.mp h; rfl
  | way b _ _ => obtain ⟨a, xs, rfl, _⟩ := is_way.mp h; rfl
  | exc b => obtain ⟨a, rfl, _⟩ := is_exc.mp h; rfl
def dIsNo (ta : DTE) : DTE := fun ρ Q => ta ρ fun d => Q (.bl (isNon d))
theorem dt_isN {a : Expr} {j pos'} (ha : DE X a te) : DT X (.Compare a [.Is] [.Constant .none j pos'] pos) (dTest (dIsNo te)) := by
  obtain ⟨t1, p1, l1⟩ := ha
  refine ⟨_, pt_cmp (pc_isN p1), liTest (te := tIsN t1) (t := dIsNo te) fun ρ σ H Q r h R k => l1 ρ σ H _ r h _ fun d v H1 s1 i1 q => k (.bl (isNon d)) (.bl (decide (v = .non))) H1 s1 (is_bl.mpr (by rw [isNon_iff i1])) q⟩
end
end OD

namespace OD
variable {Z : Hp}
open PySem PySem.Spec PyProof.Rows L2
section
variable {X : Cx} {a : Expr} {te : TE} {tl th ts : TO} {lo hi : Option Expr} {st : Expr} {pos p2 : Pos} {ta : DTE} {dl dh dt : DTO}
variable {fr : Fr} {tA : DTA} {tb : DTS} {p0 p1 : Pos}
def CDivG (i j : Int) : Prop := j ≠ 0 ∧ Builtin.divisionGoesByPylong i j = false
theorem o_fdivG : DOp X (binaryOp .FloorDiv) (gIC CDivG fun i j => .int (i.fdiv j)) := dop_IC (C := CDivG) (opI fun _ _ _ _ _ _ _ hc q => floordiv_int hc.1 q (.inl hc.2))
theorem cdivG {c n : Int} (h0 : n ≠ 0) (h : n.natAbs < 2 ^ 9000) : CDivG c n := ⟨h0, PyProof.noPylong_of_log2 ((Nat.log2_lt (by omega)).mpr h)⟩
def dSeqJ (t u : DTS) : DTS := fun D ρ => ∃ P : DS → Prop, t { D with nx := P } ρ ∧ ∀ ρ', P ρ' → u D ρ'
theorem dss_join {sst : Stmt} {rest : List Stmt} {t u : DTS} (h1 : DSt X fr sst t) (h2 : DSs X fr rest u) : DSs X fr (sst :: rest) (dSeqJ t u) := by
  obtain ⟨ts, p1, l1⟩ := h1
  obtain ⟨us, p2, l2⟩ := h2
  refine ⟨_, pss_cons p1 p2, fun W0 G ρ σ W D D' a s h => ?_⟩
  obtain ⟨P, h, k⟩ := h
  exact l1 W0 G ρ σ W { D with nx := P } { D' with nx := us D' } a ⟨fun ρ' σ' W' a' q => l2 W0 G ρ' σ' W' D D' a' s (k ρ' q), s.tl, s.bk, s.ct⟩ h
end
end OD

namespace OD
open PySem PySem.Spec PyProof.Rows L2
section
variable {X : Cx} {ta : DTE} {pos p0 : Pos}
end
end OD

namespace OD
variable {Z : Hp}
open PySem PySem.Spec PyProof.Rows L2
section
variable {X : Cx} {K : PySem.W.Frag} {H : Hp}
def gS (f : Str → Str → Dt) : Dt → Dt → (Dt → Prop) → Prop := fun d e Q => ∃ x y, d = .str x ∧ e = .str y ∧ Q (f x y)
theorem dec_strV {x y : Str} : decide (V.str x = V.str y) = (x == y) := by
  rw [Bool.eq_iff_iff]
  simp
theorem o_eqS : DOp X (compareOp .Eq) (gS fun x y => .bl (x == y)) := by
  refine ⟨_, op_eq, fun H x y d e Q i1 i2 ⟨a, b, ed, ee, q⟩ R k => ?_⟩
  subst ed
  subst ee
  obtain rfl := is_str.mp i1
  obtain rfl := is_str.mp i2
  refine ⟨rfl, ?_⟩
  rw [dec_strV]
  exact k _ _ H (Le.refl H) (is_bl.mpr rfl) q
end
section
variable {X : Cx} {fr : Fr} {te : DTE} {tb : DTS} {pos p0 p1 p2 : Pos}
def dFor2 (i j : Nat) (te : DTE) (tb : DTS) : DTS := fun D ρ => te ρ fun d => ∃ (xs : List Dt) (Pv : Nat → DS → Prop), listOf d = some xs ∧ Pv 0 ρ ∧
  (∀ (n : Nat) x ρ', xs[n]? = some x → Pv n ρ' → ∃ a b, x = .tup [a, b] ∧ tb { D with nx := Pv (n + 1), ct := Pv (n + 1), bk := D.nx } ((ρ'.set i (.some a)).set j (.some b))) ∧ ∀ ρ', Pv xs.length ρ' → D.nx ρ'
theorem ds_for2 {i j : Nat} {x y : Str} {iter : Expr} {body : List Stmt} {px py pt : Pos} {kt : Nat} (hc : X.calm = true) (hN : X.N.Nodup) (hi : X.N[i]? = some x) (hj : X.N[j]? = some y) (hx : Loc X.env.scope x) (hy : Loc X.env.scope y) (hp : PassesOwn (model X.prog X.w) X.A X.env X.xe)
    (h : DE X iter te) (hb : DSs X fr body tb) (hs : ∀ z, foldedSetIterable iter X.env z = pure z := by intro _; rfl)
    (hf : X.fn x = true ∨ X.env.scope.names.lookup x = some .local := by first | exact .inl rfl | exact .inr rfl | assumption) (hf2 : X.fn y = true ∨ X.env.scope.names.lookup y = some .local := by first | exact .inl rfl | exact .inr rfl | assumption) :
    DSt X fr (.For (.Tuple [.Name x px, .Name y py] kt pt) iter body [] pos) (dFor2 i j te tb) := by
  obtain ⟨tt, p, l⟩ := h
  obtain ⟨tbs, p2, l2⟩ := hb
  refine ⟨_, ps_for hp hc (pi_list p) (pg_tup hc (pgs_cons (pg_name hN hi hx hf) (pgs_cons (pg_name hN hj hy hf2) pgs_nil))) p2 hs, fun W0 G ρ σ W D D' at_ s h => l ρ σ W _ at_.rl h _ fun d v W1 s1 i1 ⟨ds, Pv, el, h0, ht, hd⟩ => ?_⟩
  have hg : Same G W1.g := at_.gs.trans s1.g
  obtain ⟨a, xs, rfl, hq, ha⟩ := list_g i1 el
  refine ⟨a, rfl, ⟨xs, hq W1 (Same.refl _)⟩, for_list (K := X.K) (a := a) (xs := xs) (fun i => InL X.K (Zx X) W0 W1 (Pv i)) ⟨ρ, W1, rfl, (at_.step s1).now, h0⟩ (fun i σ' H' _ ⟨_, W2, e2, a2, _⟩ => e2 ▸ hq W2 a2.gs) ?_ ?_⟩
  · rintro n x σ' _ hi ⟨ρ', W2, rfl, a2, hp2⟩
    obtain ⟨e, he, ie⟩ := ha.get' hi
    obtain ⟨a1, b1, rfl, q⟩ := ht n e ρ' he hp2
    obtain ⟨T, us, rfl, hT, hu⟩ := is_tup.mp (Is.mono0 a2.gs ie)
    obtain ⟨v1, v2, rfl, k1, k2⟩ := hu.two
    refine ⟨T, _, rfl, .of (W2.sub _ _ hT), rfl, v1, [v2], rfl, v2, [], rfl, rfl, ?_⟩
    exact l2 W0 W1.g _ _ W2 { D with nx := Pv (n + 1), ct := Pv (n + 1), bk := D.nx } _ ((a2.set i k1).set j k2) (sim_loop s hg) q
  · rintro σ' _ ⟨ρ', W2, rfl, a2, hp2⟩
    exact s.nx ρ' σ' W2 (a2.weak hg) (hd ρ' (by rw [ha.length]; exact hp2))
end
end OD

namespace OD
variable {Z : Hp}
open PySem PySem.Spec PyProof.Rows L2
def capV (σ : St) (js : List Nat) : St := js.map fun j => (σ[j]?).getD none
section
variable {X : Cx} {pins : List (Addr × Obj)} {σ : St} {H : Hp} {s : Shared} {scope : Scope} {cl : List (Str × Addr)} {x : Str} {caps : List Str} {js : List Nat} {fp : List Addr}
end
def clOf (cells : List (Str × Addr)) (names : List (Str × NameKind)) : List (Str × Addr) := (names.filterMap fun y => if y.2 == .free then (cells.lookup y.1).map (y.1, ·) else none).reverse
theorem mem_lookup {α : Type} {y : Str} {c : α} : ∀ {l : List (Str × α)}, (y, c) ∈ l → ∃ c', l.lookup y = some c'
  | [], h => nomatch h
  | (z, d) :: r, h => by
    rw [List.lookup_cons]
    cases q : y == z with
    | true => exact ⟨d, rfl⟩
    | false =>
      rcases List.mem_cons.mp h with e | e
      · cases e
        rw [beq_self_eq_true] at q
        cases q
      · exact mem_lookup e
theorem mem_clOf {cells : List (Str × Addr)} {names : List (Str × NameKind)} {y : Str} {c : Addr} : (y, c) ∈ clOf cells names ↔ (y, NameKind.free) ∈ names ∧ cells.lookup y = some c := by
  unfold clOf
  rw [List.mem_reverse, List.mem_filterMap]
  constructor
  · rintro ⟨⟨z, k⟩, hz, e⟩
    split at e
    · rename_i hk
      obtain rfl := eq_of_beq hk
      obtain ⟨d, hd, e⟩ := Option.map_eq_some_iff.mp e
      cases e
      exact ⟨hz, hd⟩
    · cases e
  · rintro ⟨h1, h2⟩
    exact ⟨(y, .free), h1, by show Option.map _ (List.lookup y cells) = _; rw [h2]; rfl⟩
theorem clos_of {scope : Scope} {env : Env} (h : ∀ y, (y, NameKind.free) ∈ scope.names → ∃ c, env.cells.lookup y = some c) : closureFor scope env = pure (clOf env.cells scope.names) := by
  have key : ∀ (names : List (Str × NameKind)) (acc : List (Str × Addr)), (∀ y, (y, NameKind.free) ∈ names → ∃ c, env.cells.lookup y = some c) →
      (forIn names acc fun x r => (if x.2 == NameKind.free then do let c ← cellOf env x.1; pure (ForInStep.yield ((x.1, c) :: r)) else pure (ForInStep.yield r) : Sem (ForInStep (List (Str × Addr))))) = (pure (clOf env.cells names ++ acc) : Sem (List (Str × Addr))) := by
    intro names
    induction names with
    | nil => intro acc _; rfl
    | cons a r ih =>
      intro acc ha
      obtain ⟨n, k⟩ := a
      rw [List.forIn_cons]
      cases hk : k == NameKind.free with
      | true =>
        obtain rfl := eq_of_beq hk
        obtain ⟨c, hc⟩ := ha n List.mem_cons_self
        have e1 : cellOf env n = pure c := by unfold cellOf; rw [hc]
        have e2 : clOf env.cells ((n, NameKind.free) :: r) = clOf env.cells r ++ [(n, c)] := by
          unfold clOf
          rw [List.filterMap_cons_some (b := (n, c)) (by show Option.map _ (List.lookup n env.cells) = _; rw [hc]; rfl), List.reverse_cons]
        show (do let c ← cellOf env n; pure (ForInStep.yield ((n, c) :: acc)) : Sem _) >>= _ = _
        rw [e1, pure_bind, pure_bind, e2, List.append_assoc]
        exact ih ((n, c) :: acc) fun y hy => ha y (List.mem_cons_of_mem _ hy)
      | false =>
        have e2 : clOf env.cells ((n, k) :: r) = clOf env.cells r := by
          unfold clOf
          rw [List.filterMap_cons_none (by show (if (k == NameKind.free) = true then _ else none) = none; rw [hk]; rfl)]
        show (pure (ForInStep.yield acc) : Sem _) >>= _ = _
        rw [pure_bind, e2]
        exact ih acc fun y hy => ha y (List.mem_cons_of_mem _ hy)
  have := key scope.names [] h
  rw [List.append_nil] at this
  unfold closureFor
  rw [← this]
  exact (bind_pure _).trans rfl
theorem lookup_relabel_free {env : Env} (hk : env.scope.kind = .function) : ∀ {names : List (Str × NameKind)} {x : Str}, names.lookup x = some .free → env.scope.names.lookup x = some .cell →
    (names.map fun (n, k) => if (k == NameKind.free && env.scope.kind == .function && env.kindOf n == some .cell) then (n, NameKind.cell) else (n, k)).lookup x = some .cell
  | [], _, h, _ => by simp at h
  | (n, k) :: r, x, h, he => by
    have ih := @lookup_relabel_free env hk r x
    show List.lookup x ((if (k == NameKind.free && env.scope.kind == .function && env.kindOf n == some .cell) = true then (n, NameKind.cell) else (n, k)) :: _) = _
    cases hx : x == n with
    | true =>
      obtain rfl := eq_of_beq hx
      simp only [List.lookup_cons, hx] at h
      cases h
      have e : env.kindOf x = some .cell := he
      rw [hk, e]
      simp [List.lookup_cons]
    | false =>
      simp only [List.lookup_cons, hx] at h
      by_cases hc : (k == NameKind.free && env.scope.kind == .function && env.kindOf n == some .cell) = true
      · rw [if_pos hc]; simp only [List.lookup_cons, hx]; exact ih h he
      · rw [if_neg hc]; simp only [List.lookup_cons, hx]; exact ih h he
def capS (ρ : DS) (js : List Nat) : DS := js.map fun j => match (ρ[j]? : Option Sl) with
  | Option.some (Sl.some d) => Sl.some d
  | _ => Sl.none
def dCompR (js : List Nat) (ta te : DTE) : DTE := fun ρ Q => ta ρ fun d => ∃ (m : Int) (Pv : Nat → List Dt → Prop), d = .int m ∧ -(2 ^ 62) ≤ m ∧ m ≤ 100000 ∧ Pv 0 [] ∧
  (∀ (i : Nat) es, i < m.toNat → Pv i es → te (.some (.int i) :: capS ρ js) fun y => Pv (i + 1) (es ++ [y])) ∧ ∀ es, Pv m.toNat es → Q (.lst es)
def iRngE (t : TE) : TI := fun σ H R => t σ H fun v H1 => ∃ j : Int, v = .int j ∧ -(2 ^ 62) ≤ j ∧ j < 2 ^ 62 ∧ R (Itr 0 j.toNat) H1
section
variable {X : Cx} {fr : Fr} {osc scope : Scope} {x : Str} {caps : List Str} {js : List Nat} {N0 : List Str} {L : Addr} {a elt : Expr} {ta te : DTE} {px p0 pos pos1 : Pos}
theorem pi_rangeE {t : TE} {tg : Expr} (hg : Gl X "range") (hm : X.mg "range" = none) (p : PE X a t) (hst : starEach [a] X.env = [(false, eval a X.env)]) (hst2 : starEach [a] X.env = (false, eval a X.env) :: starEach [] X.env) : PI X tg (.Call (.Name "range" p0) [a] [] pos1) (iRngE t) := by
  intro pins s σ H R I h
  refine pi_range1 hg hm (pa_cons p pa_nil hst2) hst pins s σ H R I ?_
  refine (?_ : t σ H fun v H1 => ∃ j : Int, [v] = [V.int j] ∧ -(2 ^ 62) ≤ j ∧ j < 2 ^ 62 ∧ R (Itr 0 j.toNat) H1)
  have e : (fun (v : V) (H1 : Hp) => ∃ j : Int, v = V.int j ∧ -(2 ^ 62) ≤ j ∧ j < 2 ^ 62 ∧ R (Itr 0 j.toNat) H1) = fun v H1 => ∃ j : Int, [v] = [V.int j] ∧ -(2 ^ 62) ≤ j ∧ j < 2 ^ 62 ∧ R (Itr 0 j.toNat) H1 := by
    funext v H1
    refine propext ⟨fun ⟨j, q, z⟩ => ⟨j, by rw [q], z⟩, fun ⟨j, q, z⟩ => ⟨j, (List.cons.inj q).1, z⟩⟩
  rw [← e]
  exact h
end
section
variable {X : Cx} {a : Expr} {p0 pos : Pos}
end
end OD

namespace OD
variable {Z : Hp}
open PySem PySem.Spec PyProof.Rows L2
def dCompLC (js : List Nat) (ta te : DTE) : DTE := fun ρ Q => ta ρ fun d => ∃ (ds : List Dt) (Pv : Nat → List Dt → Prop), listOf d = some ds ∧ ds.length ≤ 100000 ∧ Pv 0 [] ∧
  (∀ (i : Nat) e es, ds[i]? = some e → Pv i es → te (.some e :: capS ρ js) fun y => Pv (i + 1) (es ++ [y])) ∧ ∀ es, Pv ds.length es → Q (.lst es)
section
variable {X : Cx} {fr : Fr} {osc scope : Scope} {x : Str} {caps : List Str} {js : List Nat} {N0 : List Str} {L : Addr} {iter elt : Expr} {ta te : DTE} {px pos : Pos}
end
end OD

namespace L2
open PySem PySem.Spec PyProof.Rows
section
variable {P : Program} {w : World} {H H' : Hp} {h B : Heap}
theorem HOk.part (x : HOk P w H h) (k : ∀ b u, H b ≠ none → h.get? b = some u → B.get? b = some u) : HOk P w H B := fun a o e =>
  (x a o e).stay (fun b u hb q => k b u (fun z => by rcases hb with rfl | y; (rw [e] at z; cases z); (rw [y] at z; cases z)) q) (fun _ q => q) fun _ _ q => q
theorem ObjOk.there {a : Addr} {o : HO} (x : ObjOk P w H h a o) : ∃ u, h.get? a = some u := by
  cases o with
  | lst xs => obtain ⟨_, _, _, _, e⟩ := x; exact ⟨_, e⟩
  | tup xs => obtain ⟨_, _, _, o, e, _⟩ := x; exact ⟨_, e⟩
  | dK kvs => obtain ⟨_, _, _, _, o, _, _, e, _⟩ := x; exact ⟨_, e⟩
  | dT kvs => obtain ⟨_, _, _, _, o, _, _, e, _⟩ := x; exact ⟨_, e⟩
  | set S n => obtain ⟨o, _, _, _, e, _⟩ := x; exact ⟨_, e⟩
  | ins C dx fs => obtain ⟨_, _, _, e, _⟩ := x; exact ⟨_, e⟩
  | own y => exact x
  | xd fs => obtain ⟨_, ⟨_, _, _, e, _⟩, _⟩ := x; exact ⟨_, e⟩
  | rng lo hi => obtain ⟨_, _, _, e⟩ := x; exact ⟨_, e⟩
  | frz ob u => obtain ⟨e, _⟩ := x; exact ⟨_, e⟩
  | tbl ps => exact ⟨_, (show h.get? a = some _ from x)⟩
  | met f y => exact ⟨_, (show h.get? a = some _ from x)⟩
  | ext φ => obtain ⟨_, e, _⟩ := x; exact e
end
structure Flies (P : Program) (w : World) (stack : List Env) (H : Hp) (h0 : Heap) (H' : Hp) (e : Addr) (cls : Value) (h : Heap) : Prop where
  ex : ∃ B a0, Heap.FlyingW B stack e cls a0 h ∧ (∀ b o, h0.get? b = some o → H b = none → b ∉ frs stack → B.get? b = some o) ∧ (∀ b o, h0.get? b = some o → b ∉ frs stack → ∃ o', B.get? b = some o') ∧ HOk P w H' B
  slot : ∀ b o, h0.get? b = some o → b ∈ frs stack → ∃ sl, h.get? b = some { o with slots := sl }
  free : ∀ b o, h0.get? b = some o → H b = none → H' b = none
  tups : ∀ b xs, H b = some (.tup xs) → H' b = some (.tup xs)
  frzs : ∀ b o u, H b = some (.frz o u) → H' b = some (.frz o u)
  tbls : ∀ b ps, H b = some (.tbl ps) → ∃ more, H' b = some (.tbl (ps ++ more))
  new : h0.get? e = none
section
variable {P : Program} {w : World} {stack : List Env} {H H' : Hp} {h0 h : Heap} {e : Addr} {cls : Value}
theorem Flies.un (f : Flies P w stack H h0 H' e cls h) : Un (frs stack) [] H H' h0 h := by
  obtain ⟨B, a0, ⟨st, _, _, _⟩, k1, k2, _⟩ := f.ex
  refine ⟨fun b o q n hb _ => st b o (k1 b o q n hb), fun b o q _ hb _ => f.slot b o q hb, fun b o q n _ => f.free b o q n, fun b o q _ => ?_, f.tups, f.frzs, f.tbls⟩
  by_cases hb : b ∈ frs stack
  · obtain ⟨sl, z⟩ := f.slot b o q hb
    exact ⟨_, z⟩
  · obtain ⟨o', z⟩ := k2 b o q hb
    exact ⟨o', st b o' z⟩
theorem Flies.hok (f : Flies P w stack H h0 H' e cls h) : HOk P w H' h := by
  obtain ⟨B, a0, ⟨st, _, _, _⟩, _, _, k3⟩ := f.ex
  exact k3.kept st
theorem Flies.out (f : Flies P w stack H h0 H' e cls h) : H' e = none := by
  obtain ⟨B, a0, ⟨st, n, _, _⟩, _, _, k3⟩ := f.ex
  cases q : H' e with
  | none => rfl
  | some o =>
    obtain ⟨u, z⟩ := (k3 e o q).there
    rw [n] at z; cases z
theorem Flies.go (f : Flies P w stack H h0 H' e cls h) : ∃ B a0, Heap.FlyingW B stack e cls a0 h ∧ ∀ h', Heap.FlyingW B stack e cls a0 h' → h.UpToSlots h' → Flies P w stack H h0 H' e cls h' := by
  obtain ⟨B, a0, fl, k1, k2, k3⟩ := f.ex
  refine ⟨B, a0, fl, fun h' fl' up => ⟨⟨B, a0, fl', k1, k2, k3⟩, fun b o q hb => ?_, f.free, f.tups, f.frzs, f.tbls, f.new⟩⟩
  obtain ⟨sl, z⟩ := f.slot b o q hb
  obtain ⟨_, ob, ho, hd⟩ := fl.2.2.1.mem hb
  rw [z] at ho
  cases ho
  obtain ⟨sl', z'⟩ := up b _ z hd
  exact ⟨sl', z'⟩
end
section
variable {X : Cx} {pins : List (Addr × Obj)} {σ : St} {H H' : Hp} {s s' : Shared} {M : Model} {E : Value → Shared → Prop} {e : Addr} {cls : Value}
theorem Inv.neL (I : Inv X pins σ H s) {b : Addr} {o : Obj} (q : X.s₀.heap.get? b = some o) : b ≠ X.env.locals := Nat.ne_of_lt (Nat.lt_of_lt_of_le (Heap.lt_size q) I.ok.above)
theorem fly_made {vs : List Value} {h1 : Heap} {Q : Unit → Shared → Prop} (I : Inv X pins σ H s) (hstk : X.stack = X.env :: X.outer) (hf : X.env.frame = some X.env.locals) (hex : X.ex = []) (hx : Heap.MadeExcOf s.heap h1 e cls vs)
    (hQ : ∀ h', Flies X.prog X.w X.outer X.H₀ X.s₀.heap H e cls h' → Q () { s with heap := h' }) : wpAny M X.A (leaving X.env (.ref e)) Q E { s with heap := h1 } := by
  have hfr : X.A.frames = some (X.env :: X.outer) := by rw [← hstk]; exact I.ok.frames
  have hfs : frs X.stack = X.env.locals :: frs X.outer := by rw [hstk]; unfold frs; rw [List.filterMap_cons, hf]
  have hl : s.heap.FunFrames (PySem.W.hideAll s.heap (frs X.stack)) (X.env :: X.outer) := by
    have z := I.stack
    rw [hstk] at z
    refine PySem.W.funFrames_hide z fun env he a ha => ?_
    rw [hstk]
    exact List.mem_filterMap.mpr ⟨env, he, ha⟩
  have nx : ∀ b, b ∉ X.ex := fun b z => by rw [hex] at z; cases z
  have nst : ∀ b o, X.s₀.heap.get? b = some o → b ∉ frs X.outer → b ∉ frs X.stack := fun b o q nb z => by
    rw [hfs] at z
    rcases List.mem_cons.mp z with z | z
    · exact I.neL q z
    · exact nb z
  refine PySem.wpAny_leaves_madeW (s := { s with heap := h1 }) (h := s.heap) (base := PySem.W.hideAll s.heap (frs X.stack)) hfr hf (fun b o q => PySem.W.of_hideAll _ q) hl hx fun h' t x1 x2 x3 x4 => hQ h' ⟨⟨_, _, x1, fun b o q n nb => ?_, fun b o q nb => ?_, ?_⟩, fun b o q hb => ?_, fun b o q n => I.base.free b o q n (nx b), I.base.tups, I.base.frzs, I.base.tbls, ?_⟩
  · exact PySem.W.hideAll_get _ (I.base.keep b o q n nb (nx b)) (nst b o q nb)
  · obtain ⟨o', z⟩ := I.base.there b o q (nx b)
    exact ⟨o', PySem.W.hideAll_get _ z (nst b o q nb)⟩
  · exact I.hok.part fun b u hb q => PySem.W.hideAll_get _ q fun z => hb (I.stkFree b z)
  · obtain ⟨sl, z⟩ := I.base.slot b o q (I.ok.frf b hb) hb (nx b)
    obtain ⟨_, ob, ho, hd⟩ := I.funs.mem hb
    rw [z] at ho
    cases ho
    obtain ⟨sl', z'⟩ := x4 b _ (hx.keeps b _ z) hd
    exact ⟨sl', z'⟩
  · cases q : X.s₀.heap.get? e with
    | none => rfl
    | some o =>
      obtain ⟨o', z⟩ := I.base.there e o q (nx e)
      rw [hx.new] at z; cases z
theorem fly_on {Q : Unit → Shared → Prop} (I : Inv X pins σ H s) (hstk : X.stack = X.env :: X.outer) (hf : X.env.frame = some X.env.locals) (hex : X.ex = []) (f : Flies X.prog X.w X.stack H s.heap H' e cls s'.heap)
    (hQ : ∀ h', Flies X.prog X.w X.outer X.H₀ X.s₀.heap H' e cls h' → Q () { s' with heap := h' }) : wpAny M X.A (leaving X.env (.ref e)) Q E s' := by
  have hfr : X.A.frames = some (X.env :: X.outer) := by rw [← hstk]; exact I.ok.frames
  have hfs : frs X.stack = X.env.locals :: frs X.outer := by rw [hstk]; unfold frs; rw [List.filterMap_cons, hf]
  have nx : ∀ b, b ∉ X.ex := fun b z => by rw [hex] at z; cases z
  have nst : ∀ b o, X.s₀.heap.get? b = some o → b ∉ frs X.outer → b ∉ frs X.stack := fun b o q nb z => by
    rw [hfs] at z
    rcases List.mem_cons.mp z with z | z
    · exact I.neL q z
    · exact nb z
  obtain ⟨B, a0, fl, k1, k2, k3⟩ := f.ex
  have fl' := fl
  rw [hstk] at fl'
  refine PySem.wpAny_leaves_onW hfr hf fl' fun h' x1 x2 => hQ h' ⟨⟨B, a0, x1, fun b o q n nb => ?_, fun b o q nb => ?_, k3⟩, fun b o q hb => ?_, fun b o q n => ?_, fun b xs q => f.tups b xs (I.base.tups b xs q), fun b o u q => f.frzs b o u (I.base.frzs b o u q), fun b ps q => ?_, ?_⟩
  · exact k1 b o (I.base.keep b o q n nb (nx b)) (I.base.free b o q n (nx b)) (nst b o q nb)
  · obtain ⟨o', z⟩ := I.base.there b o q (nx b)
    exact k2 b o' z (nst b o q nb)
  · obtain ⟨sl, z⟩ := I.base.slot b o q (I.ok.frf b hb) hb (nx b)
    have hb' : b ∈ frs X.stack := by rw [hfs]; exact List.mem_cons_of_mem _ hb
    obtain ⟨sl', z'⟩ := f.slot b _ z hb'
    obtain ⟨_, ob, ho, hd⟩ := fl.2.2.1.mem hb'
    rw [z'] at ho
    cases ho
    obtain ⟨sl2, z2⟩ := x2 b _ z' hd
    exact ⟨sl2, z2⟩
  · obtain ⟨o', z⟩ := I.base.there b o q (nx b)
    exact f.free b o' z (I.base.free b o q n (nx b))
  · obtain ⟨m1, e1⟩ := I.base.tbls b ps q
    obtain ⟨m2, e2⟩ := f.tbls b _ e1
    exact ⟨m1 ++ m2, by rw [e2, Array.append_assoc]⟩
  · cases q : X.s₀.heap.get? e with
    | none => rfl
    | some o =>
      obtain ⟨o', z⟩ := I.base.there e o q (nx e)
      rw [f.new] at z; cases z
end
def ExcK (K : PySem.W.Frag) (C : Addr) : Prop := PySem.W.excIn K C [.type "ValueError", .type "Exception", .type "BaseException", .type "object"] "ValueError.__new__" = true
theorem exc_obj {K : PySem.W.Frag} {h : Heap} {C : Addr} (X : K.In h) (q : ExcK K C) : ∃ bm N nm qn bs hdct sn sub ab col dd k0 k1 k2 k3 k5 mN, h.get? C = some (excClassObj nm qn C N bs bm hdct sn sub ab col dd k0 k1 k2 k3 k5 "ValueError.__new__") ∧ h.Ns N mN ∧ mN "__init__" = none ∧ OwnTail h [.type "ValueError", .type "Exception", .type "BaseException", .type "object"] bm := by
  unfold ExcK PySem.W.excIn at q
  split at q
  · rename_i d1 cl s1 look
    split at q
    · rename_i C1 tl w0 w1 w2 w3 nid w5 em es
      simp only [Bool.and_eq_true, Bool.not_eq_true', beq_iff_eq] at q
      obtain ⟨⟨⟨⟨⟨rfl, rfl⟩, q1⟩, q2⟩, q3⟩, q4⟩ := q
      obtain ⟨a1, a2, a3, a4, a5, a6, a7, a8, a9, b1, b2⟩ := cl
      dsimp only at em q1 q3 q4
      subst em q1
      obtain rfl : s1 = #[w0, w1, w2, w3, some (.builtin "ValueError.__new__"), w5] := by
        obtain ⟨l⟩ := s1
        simp only at es; rw [es]
      exact ⟨tl, a4, a1, a5, a2, a6, a7, a8, a9, b1, d1, w0, w1, w2, w3, w5, _, X _ _ look, .of_isNs (PySem.W.isNs_of_in X q3), PySem.W.nsMap_none_of_in X q3 q4, PySem.W.tail_of_in X q2⟩
    · cases q
  · cases q
def XOk (X : Cx) (C : Addr) (H : Hp) : Prop := ∀ (pins : List (Addr × Obj)) (σ : St) (s : Shared) (h1 : Heap) (e : Addr) (vs : List Value), Inv X pins σ H s → Heap.MadeExcOf s.heap h1 e (.ref C) vs → X.xe (.ref e) { s with heap := h1 }
def sRaise (X : Cx) (C : Addr) (te : TE) : TS := fun _ σ H => te σ H fun _ H1 => XOk X C H1
theorem ps_raise {X : Cx} {C : Addr} {x : Str} {a : Expr} {te : TE} {np cpos pos : Pos} (hc : X.calm = true) (hg : Gl X x) (hm : X.mg x = some (.ref C)) (hC : ExcK X.K C) (ha : PE X a te)
    (hdb : (x == ("__debug__" : Str)) = false := by decide) (he : starEach [a] X.env = (false, eval a X.env) :: starEach [] X.env := by rfl) : PS X (.Raise (some (.Call (.Name x np) [a] [] cpos)) none pos) (sRaise X C te) := by
  intro pins s σ H D I h
  obtain ⟨bm, N, nm, qn, bs, hdct, sn, sub, ab, col, dd, k0, k1, k2, k3, k5, mN, hO, hN, hni, T⟩ := exc_obj I.ok.mod.kin hC
  refine PySem.wpAny_Raise_call_subU (C := C) (nm := nm) (q := qn) (N := N) (bs := bs) (bm := bm) (hdct := hdct) (sn := sn) (sub := sub) (ab := ab) (col := col) (dd := dd) (k0 := k0) (k1 := k1) (k2 := k2) (k3 := k3) (k5 := k5)
    PySem.F.excBase_ValueError (by decide) PySem.F.excBase_ValueError (mN := mN) (T.hasType PySem.F.excBase_ValueError.hasBase) (I.ok.hd hc) (by rw [he]; rfl) hni (ld_glob I hg hm ⟨rfl, ?_⟩ hdb)
  have z := pa_cons ha pa_nil he cpos pins s σ H (fun us H1 => us.length = 1 ∧ XOk X C H1) I (show te σ H (fun x H1 => [x].length = 1 ∧ XOk X C H1) from by
    have h : te σ H (fun _ H1 => XOk X C H1) := h
    simpa using h)
  rw [he] at z ⊢
  refine Calls.evalArgs_plain (thn z fun vs s1 ⟨us, H1, I1, r, hl, q⟩ => ⟨rfl, ?_, I1.bk _ _ hO, hN.keeps I1.bk, T.keeps I1.bk, fun h' e hx => q pins σ s1 h' e vs I1 hx⟩)
  show vs.length ≤ _
  rw [← r.length, hl]
  decide
def CX1 (P : Program) (w : World) : CXT := fun outer H s E e s' => ∃ a C H', e = .ref a ∧ s'.os = s.os ∧ AllBare s'.gens ∧ Flies P w outer H s.heap H' a (.ref C) s'.heap ∧ E (.ref C) none H'
section
variable {P : Program} {w : World} {K : PySem.W.Frag} {mg : Str → Option Value} {base : Heap} {N : List Str} {qual : Str} {scope : Scope} {f C : Addr} {cd : Value} {A : Around} {outer : List Env} {s : Shared} {H H1 : Hp} {E : XK}
theorem xok_of (h : E (.ref C) none H1) : XOk (cxOf (CX1 P w) P w K mg base N qual scope f cd A outer s H E) C H1 := fun pins σ s' h1 e vs I hx =>
  fly_made (X := cxOf (CX1 P w) P w K mg base N qual scope f cd A outer s H E) I rfl rfl rfl hx fun h' fl => ⟨e, C, H1, rfl, I.os, I.bare, fl, h⟩
theorem own1 : PassesOwn (model P w) (A.deeper (envOfC qual scope s.heap.objs.size f cd)) (envOfC qual scope s.heap.objs.size f cd) (cxOf (CX1 P w) P w K mg base N qual scope f cd A outer s H E).xe := PassesOwn.leaving
end
section
variable {X : Cx} {CX : CXT} {k : Nat} {f C : Addr} {fd : FuncData} {ps : List Str} {sp : Sp} {dvs : List V} {ds : List Value} {x y : Str} {p pos : Pos} {e : Expr} {es : List Expr} {t : TA}
end
abbrev TB := (St → Hp → Prop) → XK → St → Hp → Prop
section
variable {X : Cx} {pins : List (Addr × Obj)} {σ : St} {H : Hp} {s : Shared} {a : Addr}
end
section
variable {X : Cx} {t : TB} {th : TS} {y : Str} {c : Value} {py hpos pos : Pos} {body : List Stmt} {b₀ : Stmt} {suite : List Stmt}
end
section
variable {X : Cx} {pins : List (Addr × Obj)} {σ : St} {H : Hp} {s : Shared}
end
section
variable {X : Cx} {t : TB} {th : TS} {y n : Str} {j : Nat} {c : Value} {py hpos pos : Pos} {body : List Stmt} {b₀ : Stmt} {suite : List Stmt}
end
end L2
namespace L2
open PySem PySem.Spec PyProof.Rows PySem.W PySem.Builtin PySem.Builtin.ObjectAttr PySem.Builtin.Getset_descriptor
structure IsxOk (K : PySem.W.Frag) (C : Addr) : Prop where
  ga : PySem.W.findIn K (.ref C) "__getattribute__" = some (some (.builtin "BaseException.__getattribute__"))
  gn : PySem.W.findIn K (.ref C) "__getattr__" = some none
  ha : PySem.W.findIn K (.ref C) "__class__" = some (some (.builtin "object.__class__"))
  hn : PySem.W.specialIn K (.builtin "object.__class__") "__get__" = some (some (.builtin "getset_descriptor.__get__"))
  htk : PySem.W.takesIn K (.builtin "object.__class__") = some true
  hm : PySem.W.mroIn K C (.type "object") = some true
  hb : PySem.W.mroIn K C (.type "BaseException") = some true
section
variable {prog : Program} {w : World} {A : Around} {E : Value → Shared → Prop} {s : Shared} {K : PySem.W.Frag} {a C : Addr} {oa : Obj}
end
end L2
namespace OD
open PySem PySem.Spec PyProof.Rows L2
variable {Z : Hp}
def XOn (X : Cx) (C : Addr) (H' : Hp) : Prop := ∀ (pins : List (Addr × Obj)) (σ : L2.St) (H : Hp) (s : Shared) (a : Addr) (s' : Shared), Inv X pins σ H s → s'.os = s.os → AllBare s'.gens → Flies X.prog X.w X.stack H s.heap H' a (.ref C) s'.heap → X.xe (.ref a) s'
def Ecan (X : Cx) : XK := fun cls _ H' => ∃ C, cls = .ref C ∧ XOn X C H'
theorem pass_can {X : Cx} : Passes (CX1 X.prog X.w) X (Ecan X) := fun pins σ H s e s' I ⟨a, C, H', ee, os, bare, fl, C', ec, h⟩ => by
  cases ec
  subst ee
  exact h pins σ H s a s' I os bare fl
def Rz (X : Cx) (C : Addr) : Prop := ∀ H', Same (Zx X) H' → XOk X C H' ∧ XOn X C H'
section
variable {P : Program} {w : World} {K : PySem.W.Frag} {mg : Str → Option Value} {base : Heap} {N : List Str} {qual : Str} {scope : Scope} {f C : Addr} {cd : Value} {A : Around} {outer : List Env} {s : Shared} {H H1 : Hp} {E : XK}
theorem rz_of (h : ∀ H', Same H H' → E (.ref C) none H') : Rz (cxOf (CX1 P w) P w K mg base N qual scope f cd A outer s H E) C := fun H' z => by
  rw [zx_def] at z
  refine ⟨xok_of (h H' z), fun pins σ H2 s2 a s' I os bare fl => ?_⟩
  exact fly_on (X := cxOf (CX1 P w) P w K mg base N qual scope f cd A outer s H E) I rfl rfl rfl fl fun h' fl' => ⟨a, C, H', rfl, os.trans I.os, bare, fl', h H' z⟩
end
abbrev DSpX := List Dt → (Dt → Prop) → (Addr → Prop) → Prop
def PureSpX (K : PySem.W.Frag) (S : DSpX) : Sp := fun vs H Q E => ∃ (W : Vw) (ds : List Dt) (Qd : Dt → Prop) (Ed : Addr → Prop), W.h = H ∧ AllIs K W.g ds vs ∧ S ds Qd Ed ∧ (∀ d v W', Le W W' → Is K W'.g d v → Qd d → Q v W'.h) ∧ ∀ C H', Same W.h H' → Ed C → E (.ref C) none H'
def FreshSpX (K : PySem.W.Frag) (S : DSpX) : Sp := fun vs H Q E => ∃ (W : Vw) (ds : List Dt) (Qd : Dt → Prop) (Ed : Addr → Prop), W.h = H ∧ AllIs K W.g ds vs ∧ S ds Qd Ed ∧
  (∀ es p xs W', Le W W' → W.h p = none → W'.h p = some (.lst xs) → W'.g p = none → AllIs K W'.g es xs → Qd (.lst es) → Q (.ref p) W'.h) ∧ ∀ C H', Same W.h H' → Ed C → E (.ref C) none H'
structure DOkX (P : Program) (w : World) (K : PySem.W.Frag) (mg : Str → Option Value) (base : Heap) (n : Nat) (x : Str) (S : DSpX) : Prop where
  ex : ∃ f fd ps, mg x = some (.ref f) ∧ PySem.W.keepIn K (.ref f) = true ∧ Binds K fd ps [] ∧ FnOk P w K mg base (CX1 P w) n f fd ps (PureSpX K S)
structure FOkX (P : Program) (w : World) (K : PySem.W.Frag) (mg : Str → Option Value) (base : Heap) (n : Nat) (x : Str) (S : DSpX) : Prop where
  ex : ∃ f fd ps, mg x = some (.ref f) ∧ PySem.W.keepIn K (.ref f) = true ∧ Binds K fd ps [] ∧ FnOk P w K mg base (CX1 P w) n f fd ps (FreshSpX K S)
section
variable {P : Program} {w : World} {K : PySem.W.Frag} {mg : Str → Option Value} {base : Heap}
theorem Fun.okX {CX : CXT} {x qual : Str} {st : Stmt} {f : Addr} {fd : FuncData} {N ps : List Str} {k : Nat} {sp : Sp} (F : Fun K x qual st f fd) (S : FnScope N ps (defScope st)) (len : ∀ vs H Q E, sp vs H Q E → vs.length = ps.length)
    (hbody : ∀ (cdv : Value) (A : Around) (outer : List Env) (s : Shared) (H : Hp) (vs : List V) (Q : VK) (E : XK), Room k (A.deeper (envOfC qual (defScope st) s.heap.objs.size f cdv)) → sp vs H Q E →
      ∃ t, PSs (cxOf CX P w K mg base N qual (defScope st) f cdv A outer s H E) (defBody st) t ∧ t { nx := fun _ H' => Q .non H', rt := Q } (start N vs) H) : FnOk P w K mg base CX (k + 1) f fd ps sp := by
  obtain ⟨oc, od, kV, doc, pm, an, cdv, ct, osl, rfl, lk, hcd⟩ := F.ex
  exact fn_of lk hcd S len fun A outer s H vs Q E hr h => hbody cdv A outer s H vs Q E hr h
theorem okDX {x qual : Str} {st : Stmt} {f : Addr} {fd : FuncData} {N ps : List Str} {k : Nat} {S : DSpX} (F : Fun K x qual st f fd) (sc : FnScope N ps (defScope st)) (len : ∀ ds Q R, S ds Q R → ds.length = ps.length)
    (hbody : ∀ (cdv : Value) (A : Around) (outer : List Env) (s : Shared) (H : Hp) (E : XK), Room k (A.deeper (envOfC qual (defScope st) s.heap.objs.size f cdv)) → ∀ (ds : List Dt) (Q : Dt → Prop) (R : Addr → Prop), S ds Q R →
      (∀ C, R C → Rz (cxOf (CX1 P w) P w K mg base N qual (defScope st) f cdv A outer s H E) C) →
      ∃ t, DSs (cxOf (CX1 P w) P w K mg base N qual (defScope st) f cdv A outer s H E) .d (defBody st) t ∧ t { nx := fun _ => Q .non, rt := Q } (dstart N.length ds)) : FnOk P w K mg base (CX1 P w) (k + 1) f fd ps (PureSpX K S) := by
  refine Fun.okX F sc (fun vs H Q E h => ?_) (fun cdv A outer s H vs Q E hr h => ?_)
  · obtain ⟨W, ds, Qd, Ed, _, ia, hS, _⟩ := h
    rw [← ia.length]
    exact len ds Qd Ed hS
  obtain ⟨W, ds, Qd, Ed, rfl, ia, hS, kk, ke⟩ := h
  obtain ⟨t, ⟨ts, p, l⟩, ht⟩ := hbody cdv A outer s W.h E hr ds Qd Ed hS fun C hC => rz_of fun H' z => ke C H' z hC
  refine ⟨ts, p, l W W.g (dstart N.length ds) (start N vs) W { nx := fun _ => Qd .non, rt := Qd } _ (at_start ia (zx_stk (Nat.succ_ne_self _))) ⟨fun ρ σ W' a q => kk .non .non W' a.le (is_non.mpr rfl) q, fun d v W' s' i' q => kk d v W' s' i' q, fun _ _ _ _ q => q.elim, fun _ _ _ _ q => q.elim⟩ ht⟩
theorem okFX {x qual : Str} {st : Stmt} {f : Addr} {fd : FuncData} {N ps : List Str} {k : Nat} {S : DSpX} (F : Fun K x qual st f fd) (sc : FnScope N ps (defScope st)) (len : ∀ ds Q R, S ds Q R → ds.length = ps.length)
    (hbody : ∀ (cdv : Value) (A : Around) (outer : List Env) (s : Shared) (H : Hp) (E : XK), Room k (A.deeper (envOfC qual (defScope st) s.heap.objs.size f cdv)) → ∀ (ds : List Dt) (Q : Dt → Prop) (R : Addr → Prop), S ds Q R →
      (∀ C, R C → Rz (cxOf (CX1 P w) P w K mg base N qual (defScope st) f cdv A outer s H E) C) →
      ∃ t, DSs (cxOf (CX1 P w) P w K mg base N qual (defScope st) f cdv A outer s H E) .l (defBody st) t ∧ t { nx := fun _ => False, rt := Q } (dstart N.length ds)) : FnOk P w K mg base (CX1 P w) (k + 1) f fd ps (FreshSpX K S) := by
  refine Fun.okX F sc (fun vs H Q E h => ?_) (fun cdv A outer s H vs Q E hr h => ?_)
  · obtain ⟨W, ds, Qd, Ed, _, ia, hS, _⟩ := h
    rw [← ia.length]
    exact len ds Qd Ed hS
  obtain ⟨W, ds, Qd, Ed, rfl, ia, hS, kk, ke⟩ := h
  obtain ⟨t, ⟨ts, p, l⟩, ht⟩ := hbody cdv A outer s W.h E hr ds Qd Ed hS fun C hC => rz_of fun H' z => ke C H' z hC
  exact ⟨ts, p, l W W.g (dstart N.length ds) (start N vs) W { nx := fun _ => False, rt := Qd } _ (at_start ia (zx_stk (Nat.succ_ne_self _))) ⟨fun ρ σ W' a q => q.elim, fun d v W' s' ⟨es, p, xs, e1, e2, e3, e4, e5, e6⟩ q => by subst e1; subst e2; exact kk es p xs W' s' e3 e4 e5 e6 q, fun _ _ _ _ q => q.elim, fun _ _ _ _ q => q.elim⟩ ht⟩
theorem DOkX.mk' {x qual : Str} {st : Stmt} {f : Addr} {fd : FuncData} {ps : List Str} {n : Nat} {S : DSpX} (F : Fun K x qual st f fd) (hm : mg x = some (.ref f)) (hb : Binds K fd ps []) (h : FnOk P w K mg base (CX1 P w) n f fd ps (PureSpX K S)) : DOkX P w K mg base n x S :=
  ⟨f, fd, ps, hm, F.kp, hb, h⟩
theorem FOkX.mk' {x qual : Str} {st : Stmt} {f : Addr} {fd : FuncData} {ps : List Str} {n : Nat} {S : DSpX} (F : Fun K x qual st f fd) (hm : mg x = some (.ref f)) (hb : Binds K fd ps []) (h : FnOk P w K mg base (CX1 P w) n f fd ps (FreshSpX K S)) : FOkX P w K mg base n x S :=
  ⟨f, fd, ps, hm, F.kp, hb, h⟩
theorem DOkX.mono {x : Str} {m n : Nat} {S : DSpX} (h : DOkX P w K mg base m x S) (hl : m ≤ n) : DOkX P w K mg base n x S :=
  let ⟨f, fd, ps, h1, h2, h3, h4⟩ := h.ex; ⟨f, fd, ps, h1, h2, h3, h4.mono hl⟩
theorem FOkX.mono {x : Str} {m n : Nat} {S : DSpX} (h : FOkX P w K mg base m x S) (hl : m ≤ n) : FOkX P w K mg base n x S :=
  let ⟨f, fd, ps, h1, h2, h3, h4⟩ := h.ex; ⟨f, fd, ps, h1, h2, h3, h4.mono hl⟩
end
section
variable {X : Cx} {e a : Expr} {es : List Expr} {t : DTA} {ta : DTE} {n : Nat} {x y : Str} {S : DSpX} {p pos np cpos : Pos} {fr : Fr} {C : Addr}
theorem rl_zx {F : Hp} {W : Vw} {ρ : DS} {σ : L2.St} {K : PySem.W.Frag} (r : Rl K Z F W ρ σ) : Same Z W.h := r.z.trans r.fr
def dCallX (X : Cx) (S : DSpX) (t : DTA) : DTE := fun ρ Q => t ρ fun ds => S ds Q (Rz X)
theorem de_callX (G : DOkX X.prog X.w X.K X.mg X.base n x S) (hr : Room n X.A) (hg : Gl X x) (ha : DA X (e :: es) t) (hdb : (x == ("__debug__" : Str)) = false := by decide)
    (he : starEach (e :: es) X.env = (false, eval e X.env) :: starEach es X.env := by rfl) (hpl : (backTo pos (starEach es X.env)).any (·.1) = false := by rfl) : DE X (.Call (.Name x p) (e :: es) [] pos) (dCallX X S t) := by
  obtain ⟨f, fd, ps, hm, hk, hb, F⟩ := G.ex
  obtain ⟨te, p1, l1⟩ := ha
  refine ⟨_, pe_call F hr hg hm hk hb .nil pass_can p1 hdb he hpl, fun ρ σ H Q r h R k => l1 ρ σ H _ r h _ fun ds vs H1 s1 i1 q1 => ?_⟩
  rw [List.append_nil]
  exact ⟨H1, ds, Q, Rz X, rfl, i1, q1, fun d v H2 s2 i2 q2 => k d v H2 (s1.trans s2) i2 q2, fun C H' s' hC => ⟨C, rfl, (hC H' (((rl_zx r).trans s1.h).trans s')).2⟩⟩
theorem df_callX (G : FOkX X.prog X.w X.K X.mg X.base n x S) (hr : Room n X.A) (hg : Gl X x) (ha : DA X (e :: es) t) (hdb : (x == ("__debug__" : Str)) = false := by decide)
    (he : starEach (e :: es) X.env = (false, eval e X.env) :: starEach es X.env := by rfl) (hpl : (backTo pos (starEach es X.env)).any (·.1) = false := by rfl) : DF X (.Call (.Name x p) (e :: es) [] pos) (dCallX X S t) := by
  obtain ⟨f, fd, ps, hm, hk, hb, F⟩ := G.ex
  obtain ⟨te, p1, l1⟩ := ha
  refine ⟨_, pe_call F hr hg hm hk hb .nil pass_can p1 hdb he hpl, fun ρ σ H Q r h R k => l1 ρ σ H _ r h _ fun ds vs H1 s1 i1 q1 => ?_⟩
  rw [List.append_nil]
  exact ⟨H1, ds, Q, Rz X, rfl, i1, q1, fun es p xs H2 s2 h0 h1 h2 i2 q2 => k es p xs H2 (s1.trans s2) (s1.h.free h0) h1 h2 i2 q2, fun C H' s' hC => ⟨C, rfl, (hC H' (((rl_zx r).trans s1.h).trans s')).2⟩⟩
def dRaise (X : Cx) (C : Addr) (ta : DTE) : DTS := fun _ ρ => ta ρ fun _ => Rz X C
theorem ds_raise (hc : X.calm = true) (hg : Gl X x) (hm : X.mg x = some (.ref C)) (hC : ExcK X.K C) (ha : DE X a ta) (hdb : (x == ("__debug__" : Str)) = false := by decide)
    (he : starEach [a] X.env = (false, eval a X.env) :: starEach [] X.env := by rfl) : DSt X fr (.Raise (some (.Call (.Name x np) [a] [] cpos)) none pos) (dRaise X C ta) := by
  obtain ⟨te, p1, l1⟩ := ha
  exact ⟨_, ps_raise hc hg hm hC p1 hdb he, fun W0 G ρ σ W D D' at_ s h => l1 ρ σ W _ at_.rl h _ fun d v W1 s1 i1 q1 => (q1 W1.h ((rl_zx at_.rl).trans s1.h)).1⟩
def liftS (K : PySem.W.Frag) (Z : Hp) (fr : Fr) (t : DTS) : TS := fun D' σ H => ∃ (W0 : Vw) (G : Hp) (ρ : DS) (W : Vw) (D : DEnds), W.h = H ∧ At K Z W0 G W ρ σ ∧ Sim K Z fr W0 G D D' ∧ t D ρ
theorem DSs.up {sts : List Stmt} {t : DTS} (h : DSs X fr sts t) : PSs X sts (liftS X.K (Zx X) fr t) := by
  obtain ⟨ts, p, l⟩ := h
  intro pins s σ H D' I q
  obtain ⟨W0, G, ρ, W, D, rfl, a, sm, ht⟩ := q
  exact p pins s σ W.h D' I (l W0 G ρ σ W D D' a sm ht)
def Vw.at (W : Vw) (H' : Hp) (s : Same W.h H') : Vw := ⟨W.g, H', W.sub.trans s⟩
variable {b₀ : Stmt} {suite : List Stmt} {th : DTS} {c : Value} {py hpos epos tpos : Pos}
end
section
variable {X : Cx} {e : Expr} {es : List Expr} {t : DTA} {n : Nat} {x y m : Str} {i j : Nat} {S : DSpX} {p pos py hpos epos tpos : Pos} {fr : Fr} {b₀ : Stmt} {suite : List Stmt} {th : DTS} {c : Value}
end
end OD

namespace OD
variable {Z : Hp}
open PySem PySem.Spec PyProof.Rows L2
def cxCompG (X : Cx) (scope : Scope) (cl : List (Str × Addr)) (bs caps : List Str) (C : Addr) (s : Shared) (H : Hp) (fp : List Addr) (pins : List (Addr × Obj)) : Cx where
  prog := X.prog
  w := X.w
  K := X.K
  mg := X.mg
  base := X.base
  A := X.A
  N := bs ++ caps
  s₀ := s
  H₀ := H
  env := compEnvC scope cl C X.env
  outer := X.stack
  stack := X.stack
  ex := fp
  fn := fun y => bs.contains y
  calm := X.calm
  pn := X.pn ++ pins
  xe := fun _ _ => False
structure CompScG (X : Cx) (scope : Scope) (cl : List (Str × Addr)) (bs caps : List Str) (js : List Nat) : Prop where
  clos : closureFor scope X.env = pure cl
  sub : ∀ y c, cl.lookup y = some c → X.env.cells.lookup y = some c
  has : ∀ y, ((relabel scope X.env).names.lookup y = some .cell ∨ (relabel scope X.env).names.lookup y = some .free) → ∃ c, cl.lookup y = some c
  nox : ∀ x ∈ bs, cl.lookup x = none
  cell : ∀ y ∈ scope.names, y.2 ≠ .cell
  kind : scope.kind = .function
  names : ∀ y ∈ scope.names, y.2 = .local → scope.names.lookup y.1 = some .local
  loc : ∀ x ∈ bs, scope.names.lookup x = some .local
  nd : (bs ++ caps).Nodup
  len : js.length = caps.length
  at_ : ∀ (k : Nat) y, caps[k]? = some y → ∃ j, js[k]? = some j ∧ X.N[j]? = some y
  cap : ∀ y ∈ caps, (relabel scope X.env).names.lookup y = some .cell ∧ X.env.scope.names.lookup y = some .cell
theorem codeAny_compLoop_any {prog : Program} {w : World} {A : Around} {s : Shared} {elt target iter : Expr} {ifs : List Expr} {scope : Scope} {pos : Pos} {it acc : Value} {env : Env} {R : Result → Shared → Prop} (I : Nat → Shared → Prop)
    (turn : ∀ n s, I n s → wpAny (model prog w) A (pyNext it) (fun r s₁ => match r with
      | none => R (.ok .next) s₁
      | some v => wpAny (model prog w) A (letOwnedTupleGo target it v) (fun _ s₁' => wpAny (model prog w) A (assign target env v) (fun _ s₂ =>
          wpAny (model prog w) A (forIn ifs true fun c r => if r = true then do let ok ← isTrue c env (eval c env); pure (ForInStep.yield ok) else pure (ForInStep.yield r)) (fun ok s₃ =>
            if ok = true then wpAny (model prog w) A (eval elt env) (fun x s₄ =>
              wpAny (model prog w) A (call (.builtin "list.append") [acc, x]) (fun _ s₅ => ∃ m, m < n ∧ I m s₅) (notedBy (model prog w) A env fun e s' => R (.error e) s') s₄) (notedBy (model prog w) A env fun e s' => R (.error e) s') s₃
            else ∃ m, m < n ∧ I m s₃) (notedBy (model prog w) A env fun e s' => R (.error e) s') s₂)
          (notedBy (model prog w) A env fun e s' => R (.error e) s') s₁') (notedBy (model prog w) A env fun e s' => R (.error e) s') s₁) (notedBy (model prog w) A env fun e s' => R (.error e) s') s)
    (n : Nat) (h : I n s) : codeAny (model prog w) A (.compLoop (.ListComp elt [⟨target, iter, ifs, 0⟩] scope pos) 0 it acc env) R s := by
  refine codeAny_loop rfl I (fun n s hI => ?_) n h
  show wpAny _ A ((compTurn (.ListComp elt [⟨target, iter, ifs, 0⟩] scope pos) 0 it acc env).onRaise (fun x => do noteFrame x env; theTreesLotGoes x)) _ _ s
  refine wpAny_noted ?_
  rw [compTurn_list]
  refine wpAny_bind (wpAny_standAt (wpAny_bind (wpAny_mono (turn n s hI) (fun r s₁ h₁ => ?_) fun _ _ h' => h')))
  cases r with
  | none => exact wpAny_pure h₁
  | some v =>
    refine wpAny_bind (wpAny_mono h₁ (fun _ s₁' h₁' => ?_) fun _ _ h' => h')
    refine wpAny_bind (wpAny_mono h₁' (fun _ s₂ h₂ => wpAny_bind (wpAny_mono h₂ (fun ok s₃ h₃ => ?_) fun _ _ h' => h')) fun _ _ h' => h')
    cases ok with
    | false => exact wpAny_pure ⟨rfl, h₃⟩
    | true =>
      exact wpAny_bind (wpAny_bind (wpAny_mono h₃ (fun x s₄ h₄ => wpAny_bind (wpAny_mono h₄ (fun _ s₅ h₅ => wpAny_pure (wpAny_pure ⟨rfl, h₅⟩)) fun _ _ h' => h')) fun _ _ h' => h'))
def PC (X : Cx) (ifs : List Expr) (t : TT) : Prop :=
  ∀ (pins : List (Addr × Obj)) (s : Shared) (σ : St) (H : Hp) (Q : Bool → Hp → Prop) (E : Value → Shared → Prop), (∀ v s, X.xe v s → E v s) → Inv X pins σ H s → t σ H Q →
    wpAny (model X.prog X.w) X.A (forIn ifs true fun c r => if r = true then do let ok ← isTrue c X.env (eval c X.env); pure (ForInStep.yield ok) else pure (ForInStep.yield r)) (TP X pins σ Q) E s
theorem pc_nil {X : Cx} : PC X [] (fun _ H Q => Q true H) := fun _ _ _ H _ _ _ I h => wpAny_tests_nil ⟨H, I, h⟩
section
variable {X : Cx} {pins : List (Addr × Obj)} {σ : St} {H : Hp} {s : Shared} {scope : Scope} {cl : List (Str × Addr)} {bs caps : List Str} {js : List Nat} {fp : List Addr}
theorem inv_compG {h₁ : Heap} {t : Nat} {m : Str → Option Value} (I : Inv X pins σ H s) (S : CompScG X scope cl bs caps js) (hfp : ∀ b ∈ fp, FpOk X pins H b) (hob : ∀ b ∈ fp, ∃ o, s.heap.get? b = some o)
    (hn : h₁.Ns s.heap.objs.size m) (hk : ∀ b o, s.heap.get? b = some o → h₁.get? b = some o) : Inv (cxCompG X scope cl bs caps s.heap.objs.size s H fp pins) [] (bs.map (fun _ => none) ++ capV σ js) H { s with heap := h₁, toks := t } := by
  refine ⟨⟨I.ok.mod, S.kind, I.ok.glob, I.ok.blt, Nat.le_refl _, fun y z c h1 h2 => ?_, fun y hy => ?_, fun y c hf h => ?_, I.ok.hd, I.ok.frames, .inl rfl, fun b hb => ⟨?_, fun y c h => ?_⟩, I.bs, Nat.le_trans I.ok.bsz I.sz, fun b o e hb => ?_, fun b hb z => ?_, I.stack, I.stkFree⟩,
    rfl, I.bare, Un.kept hk, ⟨_, hn, fun i y v h1 h2 h3 => ?_⟩, fun y c h => ?_, I.hok.fresh (Nat.le_refl _), fun y c h => ?_, fun p hp => ?_, I.hok.kept hk, ?_⟩
  · exact I.ok.inj y z c (S.sub y c h1) (S.sub z c h2)
  · exact S.has y hy
  · have hf : y ∈ bs := List.contains_iff_mem.mp hf
    have h : cl.lookup y = some c := h
    rw [S.nox y hf] at h
    cases h
  · obtain ⟨o, e⟩ := hob b hb
    exact Nat.ne_of_lt (Heap.lt_size e)
  · exact (hfp b hb).2.2.2.2.1 y c (S.sub y c h)
  · obtain ⟨_, _, _, h4, _⟩ := hfp b hb
    rcases h4 with h4 | h4
    · exact I.ok.noex b o e h4
    · exact absurd (Nat.lt_of_lt_of_le (Heap.lt_size e) (Nat.le_trans I.ok.bsz h4)) (Nat.lt_irrefl _)
  · obtain ⟨_, h2, h3, _⟩ := hfp b hb
    rcases List.mem_cons.mp (I.stkSub b z) with q | q
    · exact h2 q
    · exact h3 q
  · by_cases hi : i < bs.length
    · rw [List.getElem?_append_left (by rw [List.length_map]; exact hi), List.getElem?_map] at h2
      obtain ⟨_, _, e⟩ := Option.map_eq_some_iff.mp h2
      cases e
    · have hi : bs.length ≤ i := Nat.le_of_not_lt hi
      have h1 : (bs ++ caps)[i]? = some y := h1
      rw [List.getElem?_append_right hi] at h1
      rw [List.getElem?_append_right (by rw [List.length_map]; exact hi), List.length_map] at h2
      obtain ⟨j, hj, hN⟩ := S.at_ _ y h1
      have hv : σ[j]? = some (some v) := by
        unfold capV at h2
        rw [List.getElem?_map, hj] at h2
        have h2 : (σ[j]?).getD none = some v := Option.some.inj h2
        cases q : σ[j]? with
        | none => rw [q] at h2; cases h2
        | some w => rw [q] at h2; exact congrArg some h2
      obtain ⟨c1, c2⟩ := S.cap y (List.mem_of_getElem? h1)
      obtain ⟨m0, _, hl⟩ := I.loc
      obtain ⟨u, ru, lk⟩ := hl j y v hN hv (.inr (.inl c2))
      refine ⟨u, ru, .inr ⟨.inl c1, ?_⟩⟩
      obtain ⟨c, hc⟩ := S.has y (.inl c1)
      rcases lk with ⟨lk, _⟩ | ⟨_, c', hc', hcell⟩
      · have lk : X.env.scope.names.lookup y = some .local := lk
        rw [c2] at lk
        cases lk
      · have e := S.sub y c hc
        rw [hc'] at e
        cases e
        obtain ⟨o, ho, hd⟩ := hcell
        exact ⟨_, hc, o, hk _ _ ho, hd⟩
  · obtain ⟨v, o, ho, hd⟩ := I.cell y c (S.sub y c h)
    exact ⟨v, o, hk _ _ ho, hd⟩
  · exact I.freeC y c (S.sub y c h)
  · have hp : p ∈ X.pn ++ pins := by
      rcases List.mem_append.mp hp with q | q
      · exact q
      · cases q
    obtain ⟨h1, h2, h3, h4, h5⟩ := I.pin p hp
    refine ⟨hk _ _ h1, h2, Nat.ne_of_lt (Heap.lt_size h1), fun z => ?_, h5⟩
    rcases List.mem_cons.mp (I.stkSub _ z) with q | q
    · exact h3 q
    · exact h4 q
  · show (bs.map (fun _ => none) ++ capV σ js).length = (bs ++ caps).length
    unfold capV
    rw [List.length_append, List.length_append, List.length_map, List.length_map, S.len]
theorem inv_backG {C : Addr} {σ' : St} {H' : Hp} {s' : Shared} (I : Inv X pins σ H s) (hfp : ∀ b ∈ fp, FpOk X pins H b) (I' : Inv (cxCompG X scope cl bs caps C s H fp pins) [] σ' H' s') : Inv X pins σ H' s' :=
  I.call' (ch := fp) I'.os I'.base I'.hok I'.bare fun b hb => by
    obtain ⟨_, h2, _, h4, h5, h6⟩ := hfp b hb
    exact ⟨h4, h2, h5, h6⟩
def rCompG (gt : TG) (tt : TT) (te : TE) (k : Nat) (τ : St) (Q : V → Hp → Prop) : It → Hp → Prop := fun J H1 => ∃ n : Nat, n < sizeLine ∧ ∀ D, H1 D = none → ∃ (Pv : Nat → List V → Hp → Prop) (Nx : Nat → V → List V → Hp → Prop),
  Pv 0 [] (upd H1 D (.lst [])) ∧ (∀ i ys H2, i ≤ n → Pv i ys H2 → H2 D = some (.lst ys) ∧ ys.length ≤ i) ∧
  (∀ i ys H2, i < n → Pv i ys H2 → J.go i H2 ∧ ∀ v H3, J.yld i H2 v H3 → Nx i v ys H3) ∧ (∀ ys H2, Pv n ys H2 → J.stop n H2) ∧
  (∀ i v ys H2 (σ0 : St), i < n → Nx i v ys H2 → σ0.length = k → gt v (σ0 ++ τ) H2 fun σ1 H3 => (∃ σ2 : St, σ1 = σ2 ++ τ ∧ σ2.length = k) ∧ tt σ1 H3 fun b H4 =>
    if b = true then te σ1 H4 fun y H5 => H5 D = some (.lst ys) ∧ Pv (i + 1) (ys ++ [y]) (upd H5 D (.lst (ys ++ [y]))) else Pv (i + 1) ys H4) ∧ ∀ ys H2, Pv n ys H2 → Q (.ref D) H2
def tCompG (wi : TI) (gt : TG) (tt : TT) (te : TE) (k : Nat) (js : List Nat) : TE := fun σ H Q => wi σ H (rCompG gt tt te k (capV σ js) Q)
theorem comp_blockG {elt tg iter : Expr} {ifs : List Expr} {pos : Pos} {it D : Addr} {n : Nat} {J : It} {Nx : Nat → V → List V → Hp → Prop} {τ : St} {tn : Nat → Heap → Prop} {gt : TG} {tt : TT} {te : TE} {R : Result → Shared → Prop} {s₄ : Shared} {Pv : Nat → List V → Hp → Prop} {C : Addr} (hc : X.calm = true)
    (hg : PG (cxCompG X scope cl bs caps C s H fp pins) tg gt) (ht' : PC (cxCompG X scope cl bs caps C s H fp pins) ifs tt)
    (he : PE (cxCompG X scope cl bs caps C s H fp pins) elt te) {σ0 : St} (hσ0 : σ0.length = bs.length) (I : Inv (cxCompG X scope cl bs caps C s H fp pins) [] (σ0 ++ τ) H s₄) (T : Turn X.prog X.w X.K tg J fp it tn) (t0 : tn 0 s₄.heap)
    (hfp : ∀ b ∈ fp, FpOk (cxCompG X scope cl bs caps C s H fp pins) [] H b) (hn : n < sizeLine)
    (h0 : Pv 0 [] H) (hl : ∀ i ys H2, i ≤ n → Pv i ys H2 → H2 D = some (.lst ys) ∧ ys.length ≤ i)
    (hgo : ∀ i ys H2, i < n → Pv i ys H2 → J.go i H2 ∧ ∀ v H3, J.yld i H2 v H3 → Nx i v ys H3) (hst : ∀ ys H2, Pv n ys H2 → J.stop n H2)
    (ht : ∀ i v ys H2 (σ0 : St), i < n → Nx i v ys H2 → σ0.length = bs.length → gt v (σ0 ++ τ) H2 fun σ1 H3 => (∃ σ2 : St, σ1 = σ2 ++ τ ∧ σ2.length = bs.length) ∧ tt σ1 H3 fun b H4 =>
      if b = true then te σ1 H4 fun y H5 => H5 D = some (.lst ys) ∧ Pv (i + 1) (ys ++ [y]) (upd H5 D (.lst (ys ++ [y]))) else Pv (i + 1) ys H4)
    (hR : ∀ σ' H' ys s', Inv (cxCompG X scope cl bs caps C s H fp pins) [] σ' H' s' → Pv n ys H' → R (.ok .next) s') :
    codeAny (model X.prog X.w) X.A (.compStart (.ListComp elt [⟨tg, iter, ifs, 0⟩] scope pos) 0 (.ref it) (.ref D) (compEnvC scope cl C X.env)) R s₄ := by
  have loop : codeAny (model X.prog X.w) X.A (.compLoop (.ListComp elt [⟨tg, iter, ifs, 0⟩] scope pos) 0 (.ref it) (.ref D) (compEnvC scope cl C X.env)) R s₄ := by
    refine codeAny_compLoop_any (fun k s' => ∃ i ys, ∃ σ1 : St, ∃ H', k = n + 1 - i ∧ i ≤ n ∧ σ1.length = bs.length ∧ Inv (cxCompG X scope cl bs caps C s H fp pins) [] (σ1 ++ τ) H' s' ∧ tn i s'.heap ∧ (∀ b ∈ fp, FpOk (cxCompG X scope cl bs caps C s H fp pins) [] H' b) ∧ Pv i ys H') ?_ (n + 1) ⟨0, [], σ0, H, rfl, Nat.zero_le _, hσ0, I, t0, hfp, h0⟩
    rintro k s' ⟨i, ys, σ1, H', rfl, hi, hσ1, I', tn', hfp', hp⟩
    obtain ⟨q2, q3⟩ := hl i ys H' hi hp
    by_cases hlt : i < n
    · obtain ⟨g, gy⟩ := hgo i ys H' hlt hp
      refine wpAny_mono (T.item (cxCompG X scope cl bs caps C s H fp pins) rfl rfl rfl hc i [] s' (σ1 ++ τ) H' (notedBy (model X.prog X.w) X.A (compEnvC scope cl C X.env) fun e s' => R (.error e) s') I' hfp' tn' g) (fun r s1 ⟨u, er, hq⟩ => ?_) fun _ _ z => z
      subst er
      refine wpAny_mono hq (fun _ s1' hq' => ?_) fun _ _ z => z
      obtain ⟨v, H1, I1, rv, yv, tn1, fn1⟩ := hq'
      have hv := gy v H1 yv
      have hfp1 : ∀ b ∈ fp, FpOk (cxCompG X scope cl bs caps C s H fp pins) [] H1 b := fun b hb => ⟨fn1 b hb, (hfp' b hb).2⟩
      have hpin : ∀ b ∈ fp, ∃ o, s1'.heap.get? b = some o ∧ ∀ v, o.data ≠ .cell v := T.obj (i + 1) s1'.heap tn1
      have IP : Inv (cxCompG X scope cl bs caps C s H fp pins) (pinsAt fp s1'.heap) (σ1 ++ τ) H1 s1' := by
        have := I1.pinned hfp1 hpin
        rw [List.nil_append] at this
        exact this
      refine wpAny_mono (hg (pinsAt fp s1'.heap) s1' (σ1 ++ τ) H1 v u _ IP rv (ht i v ys H1 σ1 hlt hv hσ1)) (fun _ s2 h2 => ?_) fun _ _ z => z.elim
      obtain ⟨σ2', H2, I2, ⟨σ2, e2, l2⟩, w2⟩ := h2
      subst e2
      refine wpAny_mono (ht' (pinsAt fp s1'.heap) s2 (σ2 ++ τ) H2 _ (fun _ _ => False) (fun _ _ z => z) I2 w2) (fun b s3 h3 => ?_) fun _ _ z => z.elim
      obtain ⟨H3, I3, w3⟩ := h3
      have pinned : ∀ {s4 : Shared} {H4 : Hp} {σ4 : St}, Inv (cxCompG X scope cl bs caps C s H fp pins) (pinsAt fp s1'.heap) σ4 H4 s4 → ∀ b ∈ fp, ∀ o, s1'.heap.get? b = some o → s4.heap.get? b = some o ∧ H4 b = none := fun I4 b hb o e =>
        have z := I4.pin (b, o) (List.mem_append_right _ (mem_pinsAt hb e))
        ⟨z.1, z.2.1⟩
      cases b with
      | false =>
        have w3 : Pv (i + 1) ys H3 := w3
        show ∃ m, m < n + 1 - i ∧ _
        refine ⟨n + 1 - (i + 1), by omega, i + 1, ys, σ2, H3, rfl, hlt, l2, I3.pins_of (fun p z => nomatch z), T.keep _ _ _ tn1 fun b hb o e => (pinned I3 b hb o e).1, fun b hb => ⟨?_, (hfp' b hb).2⟩, w3⟩
        obtain ⟨o, e, _⟩ := hpin b hb
        exact (pinned I3 b hb o e).2
      | true =>
        show wpAny _ _ _ _ _ _
        refine wpAny_mono (he (pinsAt fp s1'.heap) s3 (σ2 ++ τ) H3 _ I3 w3) (fun y s4 h4 => ?_) fun _ _ z => z.elim
        obtain ⟨y', H4, I4, ry, hD, hp4⟩ := h4
        refine wpAny_mono (mt_append (X := cxCompG X scope cl bs caps C s H fp pins) (pinsAt fp s1'.heap) s4 (σ2 ++ τ) H4 (.ref D) [y'] (.ref D) [y] (fun _ H5 => H5 = upd H4 D (.lst (ys ++ [y']))) I4 rfl (.cons ry .nil) ⟨D, ys, y', rfl, rfl, hD, by omega, rfl⟩) (fun _ s5 h5 => ?_) fun _ _ z => z.elim
        obtain ⟨_, H5, I5, _, e5⟩ := h5
        subst e5
        refine ⟨n + 1 - (i + 1), by omega, i + 1, ys ++ [y'], σ2, _, rfl, hlt, l2, I5.pins_of (fun p z => nomatch z), T.keep _ _ _ tn1 fun b hb o e => (pinned I5 b hb o e).1, fun b hb => ⟨?_, (hfp' b hb).2⟩, hp4⟩
        obtain ⟨o, e, _⟩ := hpin b hb
        exact (pinned I5 b hb o e).2
    · have e : i = n := by omega
      subst e
      refine wpAny_mono (T.done (cxCompG X scope cl bs caps C s H fp pins) rfl rfl rfl hc i [] s' (σ1 ++ τ) H' (fun _ _ => False) I' hfp' tn' (hst ys H' hp)) (fun r s1 ⟨er, I1⟩ => ?_) fun _ _ z => z.elim
      subst er
      exact hR _ H' ys s1 I1 hp
  exact codeAny_compStart_list loop (T.self X.A 0 s₄ _ _ t0 loop)
theorem comp_fromG {elt tg iter : Expr} {ifs : List Expr} {pos : Pos} {gt : TG} {tt : TT} {te : TE} {Q : V → Hp → Prop} {s2 : Shared} {it : Addr} {tn : Nat → Heap → Prop} {J : It} {H' : Hp} {RR : Value → Addr → Result → Shared → Prop} {E : Value → Shared → Prop} (hc : X.calm = true) (S : CompScG X scope cl bs caps js)
    (hg : ∀ C s H fp pins, PG (cxCompG X scope cl bs caps C s H fp pins) tg gt) (ht' : ∀ C s H fp pins, PC (cxCompG X scope cl bs caps C s H fp pins) ifs tt)
    (he : ∀ C s H fp pins, PE (cxCompG X scope cl bs caps C s H fp pins) elt te) (I2 : Inv X pins σ H' s2) (T : Turn X.prog X.w X.K tg J fp it tn) (t0 : tn 0 s2.heap) (hfp : ∀ b ∈ fp, FpOk X pins H' b) (hr : rCompG gt tt te bs.length (capV σ js) Q J H')
    (hRR : ∀ D C H3 s', Inv X pins σ H3 s' → (∃ m, s'.heap.Ns C m) → H3 C = none → C ≠ X.env.locals → X.s₀.heap.objs.size ≤ C → (∀ y c, X.env.cells.lookup y = some c → c ≠ C) → (∀ p ∈ X.pn ++ pins, p.1 ≠ C) → Q (.ref D) H3 →
      RR (.ref D) C (.ok .next) s') :
    wpAny (model X.prog X.w) X.A (newList []) (fun acc s₃ => wpAny (model X.prog X.w) X.A (newFunctionEnv scope X.env.globals cl [] X.env.qual none .none (some X.env)) (fun cenv s₄ =>
      codeAny (model X.prog X.w) X.A (.compStart (.ListComp elt [⟨tg, iter, ifs, 0⟩] scope pos) 0 (.ref it) acc { cenv with scope := relabel scope X.env }) (RR acc cenv.locals) s₄) E s₃) E s2 := by
  obtain ⟨n, hn, hD⟩ := hr
  obtain ⟨Pv, Nx, h0, hl, hgo, hst, ht, hd⟩ := hD s2.heap.objs.size I2.fresh
  refine wpAny_newObj_type (wpAny_newFunctionEnv S.cell (by intro y hy; simp at hy) (fun h₁ hns₁ hsb₁ => ?_) S.kind)
  dsimp only at hns₁ hsb₁ ⊢
  have I3 : Inv X pins σ (upd H' s2.heap.objs.size (.lst [])) { s2 with heap := s2.heap.push { cls := .type "list", data := .seq ([] : List Value).toArray } } := I2.lnew (its := []) (t' := s2.toks) .nil (by show 0 ≤ sizeLine; omega)
  have hob := T.obj 0 s2.heap t0
  have keep : ∀ b o, (s2.heap.push { cls := .type "list", data := .seq ([] : List Value).toArray }).get? b = some o → h₁.get? b = some o := fun b o e =>
    hsb₁.extBut b o (Nat.ne_of_lt (Heap.lt_size e)) (Heap.get?_push_of_some _ e)
  have fp3 : ∀ b ∈ fp, FpOk X pins (upd H' s2.heap.objs.size (.lst [])) b := fun b hb => by
    obtain ⟨o, e, _⟩ := hob b hb
    exact ⟨(upd_ne (Nat.ne_of_lt (Heap.lt_size e))).trans (hfp b hb).1, (hfp b hb).2⟩
  have IY := inv_compG (t := s2.toks + ([] : List (Str × Value)).length) I3 S fp3 (fun b hb => by
    obtain ⟨o, e, _⟩ := hob b hb
    exact ⟨o, Heap.get?_push_of_some _ e⟩) hns₁ keep
  refine comp_blockG (D := s2.heap.objs.size) (n := n) (Nx := Nx) (Pv := Pv) hc (hg _ _ _ _ _) (ht' _ _ _ _ _) (he _ _ _ _ _) (List.length_map _) IY T (T.keep _ _ _ t0 fun b hb o e => keep b o (Heap.get?_push_of_some _ e)) (fun b hb => ?_) hn h0 hl hgo hst ht (fun σ' H3 ys s' I' hp => ?_)
  · obtain ⟨f1, f2, f3, f4, f5, f6⟩ := fp3 b hb
    obtain ⟨o, e, _⟩ := hob b hb
    refine ⟨f1, Nat.ne_of_lt (Heap.lt_size (Heap.get?_push_of_some _ e)), fun z => ?_, .inl hb, fun y c h => f5 y c (S.sub y c h), fun p hp => ?_⟩
    · rcases List.mem_cons.mp (I3.stkSub b z) with q | q
      · exact f2 q
      · exact f3 q
    · rcases List.mem_append.mp hp with q | q
      · exact f6 p q
      · cases q
  · obtain ⟨m, hn, _⟩ := I'.loc
    refine hRR _ _ H3 s' (inv_backG I3 fp3 I') ⟨m, hn⟩ I'.free (Nat.ne_of_gt I3.lt) I3.sz (fun y c h z => ?_) (fun p hp z => ?_) (hd ys H3 hp)
    · obtain ⟨v, q⟩ := I3.cell y c h
      exact absurd q.lt (by rw [z]; exact Nat.lt_irrefl _)
    · exact absurd (Heap.lt_size (I3.pin p hp).1) (by rw [z]; exact Nat.lt_irrefl _)
theorem pe_compG {elt tg iter : Expr} {ifs : List Expr} {pos : Pos} {wi : TI} {gt : TG} {tt : TT} {te : TE} (hc : X.calm = true) (S : CompScG X scope cl bs caps js) (hl : PI X tg iter wi) (hg : ∀ C s H fp pins, PG (cxCompG X scope cl bs caps C s H fp pins) tg gt)
    (ht' : ∀ C s H fp pins, PC (cxCompG X scope cl bs caps C s H fp pins) ifs tt) (he : ∀ C s H fp pins, PE (cxCompG X scope cl bs caps C s H fp pins) elt te)
    (hs : ∀ y, foldedSetIterable iter X.env y = pure y := by intro _; rfl) : PE X (.ListComp elt [⟨tg, iter, ifs, 0⟩] scope pos) (tCompG wi gt tt te bs.length js) := by
  intro pins s σ H Q I h
  rw [eval_ListComp]
  refine wpAny_comprehension_free (use := none) rfl hs S.clos S.kind S.names (thn (hl pins s σ H (rCompG gt tt te bs.length (capV σ js) Q) I h) fun v s1 h1 => thn h1 fun itv s2 h2 => ?_)
  obtain ⟨it, fp, tn, J, H', rfl, I2, T, t0, hfp, hr⟩ := h2
  refine comp_fromG (RR := fun acc C => compPost (model X.prog X.w) X.A X.xe none (EP X pins σ Q) acc C) hc S hg ht' he I2 T t0 hfp hr ?_
  intro D C H3 s' I' ⟨m, hn⟩ hC h1 h2 h3 h4 q
  exact ⟨m, hn, fun h' hs' => ⟨.ref D, H3, I'.turned (it := C) (fun b o hb e => hs'.extBut b o hb e) hC h1 (.inr h2) h3 h4, rfl, q⟩⟩
end
end OD
namespace OD
variable {Z : Hp}
open PySem PySem.Spec PyProof.Rows L2
def compOkG (osc scope : Scope) (bs caps : List Str) (js : List Nat) (N : List Str) : Bool :=
  scope.names.all (fun y => y.2 != .cell && (y.2 != .local || scope.names.lookup y.1 == some .local) && (y.2 != .free || (osc.names.lookup y.1 == some .cell && !bs.contains y.1))) && (scope.kind == .function) && (osc.kind == .function) && bs.all (fun x => scope.names.lookup x == some .local) &&
  decide (bs ++ caps).Nodup && (js.map (fun j => N[j]?) == caps.map some) && caps.all (fun y => scope.names.lookup y == some .free && osc.names.lookup y == some .cell)
theorem compScG {X : Cx} {osc scope : Scope} {bs : List Str} {caps : List Str} {js : List Nat} {L : Addr} (h : compOkG osc scope bs caps js X.N = true) (he : X.env.scope = osc) (hc : X.env.cells = cellsFrom (L + 1) osc.names []) : CompScG X scope (clOf X.env.cells scope.names) bs caps js := by
  unfold compOkG at h
  simp only [Bool.and_eq_true] at h
  obtain ⟨⟨⟨⟨⟨⟨h1, h2⟩, h3⟩, h4⟩, h5⟩, h6⟩, h7⟩ := h
  rw [List.all_eq_true] at h1 h4 h7
  have hfree : ∀ y, (y, NameKind.free) ∈ scope.names → osc.names.lookup y = some .cell ∧ bs.contains y = false := fun y hy => by
    have q := h1 _ hy
    rw [Bool.and_eq_true, Bool.and_eq_true] at q
    have q : (osc.names.lookup y == some .cell && !bs.contains y) = true := q.2
    rw [Bool.and_eq_true] at q
    exact ⟨eq_of_beq q.1, by cases z : bs.contains y with | false => rfl | true => rw [z] at q; cases q.2⟩
  have hcell : ∀ y, osc.names.lookup y = some .cell → ∃ c, X.env.cells.lookup y = some c := fun y hy => by rw [hc]; exact cell_has hy
  have hfc : ∀ y, (y, NameKind.free) ∈ scope.names → ∃ c, X.env.cells.lookup y = some c := fun y hy => hcell y (hfree y hy).1
  have hk : X.env.scope.kind = .function := by rw [he]; exact eq_of_beq h3
  have hj : js.map (fun j => X.N[j]?) = caps.map some := eq_of_beq h6
  refine ⟨clos_of hfc, fun y c q => (mem_clOf.mp (PySem.mem_of_lookup q)).2, fun y q => ?_, fun x hx => ?_, fun y hy e => ?_, eq_of_beq h2, fun y hy e => ?_, fun x hx => eq_of_beq (h4 x hx), of_decide_eq_true h5, ?_, fun k y q => ?_, fun y hy => ?_⟩
  · have : (y, NameKind.free) ∈ scope.names := by
      have mem : ∃ k, (y, k) ∈ (relabel scope X.env).names ∧ (k = .cell ∨ k = .free) := by
        rcases q with q | q
        · exact ⟨_, PySem.mem_of_lookup q, .inl rfl⟩
        · exact ⟨_, PySem.mem_of_lookup q, .inr rfl⟩
      obtain ⟨k, hm, hk'⟩ := mem
      obtain ⟨⟨n, k0⟩, hn, e⟩ := List.mem_map.mp hm
      have ncell : k0 ≠ .cell := fun z => by
        have q := h1 _ hn
        rw [Bool.and_eq_true, Bool.and_eq_true] at q
        exact absurd z (bne_iff_ne.mp q.1.1)
      dsimp only at e
      split at e
      · rename_i hz
        rw [Bool.and_eq_true, Bool.and_eq_true] at hz
        obtain rfl := eq_of_beq hz.1.1
        cases e
        exact hn
      · cases e
        rcases hk' with z | z
        · exact absurd z ncell
        · rw [z] at hn; exact hn
    obtain ⟨c, hc'⟩ := hfc y this
    exact mem_lookup (mem_clOf.mpr ⟨this, hc'⟩)
  · cases q : (clOf X.env.cells scope.names).lookup x with
    | none => rfl
    | some c =>
      have z := (hfree x (mem_clOf.mp (PySem.mem_of_lookup q)).1).2
      rw [List.contains_iff_mem.mpr hx] at z
      cases z
  · have q := h1 y hy
    rw [Bool.and_eq_true, Bool.and_eq_true] at q
    exact absurd e (bne_iff_ne.mp q.1.1)
  · have q := h1 y hy
    rw [Bool.and_eq_true, Bool.and_eq_true, e] at q
    exact eq_of_beq (show (scope.names.lookup y.1 == some .local) = true from q.1.2)
  · have := congrArg List.length hj
    rwa [List.length_map, List.length_map] at this
  · have e : (js.map fun j => X.N[j]?)[k]? = (caps.map some)[k]? := by rw [hj]
    rw [List.getElem?_map, List.getElem?_map, q] at e
    obtain ⟨j, hj1, hj2⟩ := Option.map_eq_some_iff.mp e
    exact ⟨j, hj1, hj2⟩
  · have q := h7 y hy
    rw [Bool.and_eq_true] at q
    have q2 : X.env.scope.names.lookup y = some .cell := by rw [he]; exact eq_of_beq q.2
    exact ⟨lookup_relabel_free hk (eq_of_beq q.1) q2, q2⟩
theorem rl_caps {K : PySem.W.Frag} {F : Hp} {W W2 : Vw} {ρ : DS} {σ : St} {js : List Nat} {ds : List Dt} {vs : List V} (r : Rl K Z F W ρ σ) (s2 : Same W.g W2.g) (i : AllIs K W2.g ds vs) : Rl K (fun _ => none) W2.h W2 (ds.map Sl.some ++ capS ρ js) (vs.map some ++ capV σ js) := by
  have no : ∀ (j : Nat) (es : List Dt), (ds.map Sl.some ++ capS ρ js)[j]? = some (.own es) → False := fun j es q => by
    have q := List.mem_of_getElem? q
    rcases List.mem_append.mp q with q | q
    · obtain ⟨_, _, e⟩ := List.mem_map.mp q
      cases e
    · unfold capS at q
      obtain ⟨j, _, e⟩ := List.mem_map.mp q
      split at e <;> cases e
  have noA : ∀ (j : Nat) (a : Addr) (es : List Dt), (ds.map Sl.some ++ capS ρ js)[j]? = some (.arg a es) → False := fun j a es q => by
    have q := List.mem_of_getElem? q
    rcases List.mem_append.mp q with q | q
    · obtain ⟨_, _, e⟩ := List.mem_map.mp q
      cases e
    · unfold capS at q
      obtain ⟨j, _, e⟩ := List.mem_map.mp q
      split at e <;> cases e
  refine ⟨by unfold capS capV; rw [List.length_append, List.length_append, List.length_map, List.length_map, List.length_map, List.length_map, i.length], fun j e q => ?_, fun j ds q => (no j ds q).elim, fun j j' ds ds' _ q _ => (no j ds q).elim, Same.refl _, (fun _ _ q => nomatch q), fun j a ds q => (noA j a ds q).elim⟩
  by_cases hj : j < ds.length
  · rw [List.getElem?_append_left (by rw [List.length_map]; exact hj), List.getElem?_map] at q
    obtain ⟨d, hd, e1⟩ := Option.map_eq_some_iff.mp q
    cases e1
    obtain ⟨v, hv, iv⟩ := i.get hd
    exact ⟨v, by rw [List.getElem?_append_left (by rw [List.length_map, ← i.length]; exact hj), List.getElem?_map, hv]; rfl, iv⟩
  · have hj : ds.length ≤ j := Nat.le_of_not_lt hj
    rw [List.getElem?_append_right (by rw [List.length_map]; exact hj), List.length_map] at q
    rw [List.getElem?_append_right (by rw [List.length_map, ← i.length]; exact hj), List.length_map, ← i.length]
    unfold capS at q
    rw [List.getElem?_map] at q
    obtain ⟨k, hk, e2⟩ := Option.map_eq_some_iff.mp q
    split at e2
    · rename_i d' hd
      cases e2
      obtain ⟨u, hu, iu⟩ := r.at_ k e hd
      refine ⟨u, ?_, Is.mono0 s2 iu⟩
      unfold capV
      rw [List.getElem?_map, hk]
      show some ((σ[k]?).getD none) = _
      rw [hu]
      rfl
    · cases e2
abbrev DTI := DS → (Nat → (Nat → Dt → Prop) → Prop) → Prop
def LiI (K : PySem.W.Frag) (Z : Hp) (wi : TI) (di : DTI) : Prop := ∀ {F : Hp} (ρ : DS) (σ : St) (W : Vw) (Q : Nat → (Nat → Dt → Prop) → Prop), Rl K Z F W ρ σ → di ρ Q → ∀ R : It → Hp → Prop,
  (∀ (J : It) (n : Nat) (vals : Nat → Dt → Prop) (W1 : Vw), Le W W1 → n ≤ 100000 → (∀ W2 : Vw, Same W1.g W2.g → (∀ i, i < n → J.go i W2.h ∧ ∀ v H3, J.yld i W2.h v H3 → ∃ W3 : Vw, Le W2 W3 ∧ W3.h = H3 ∧ ∃ e, vals i e ∧ Is K W3.g e v) ∧ J.stop n W2.h) → Q n vals → R J W1.h) → wi σ W.h R
def DI (X : Cx) (tg iter : Expr) (di : DTI) : Prop := ∃ wi, PI X tg iter wi ∧ LiI X.K (Zx X) wi di
def LiG (K : PySem.W.Frag) (k : Nat) (gt : TG) (dg : Dt → List Dt → Prop) : Prop := ∀ (e : Dt) (v : V) (σ0 τ : St) (W : Vw) (as : List Dt), σ0.length = k → Is K W.g e v → dg e as → ∀ Q : St → Hp → Prop,
  (∀ vs, AllIs K W.g as vs → vs.length = k → Q (vs.map some ++ τ) W.h) → gt v (σ0 ++ τ) W.h Q
def dOne : Dt → List Dt → Prop := fun e as => as = [e]
theorem lig_one {K : PySem.W.Frag} : LiG K 1 (gName 0) dOne := by
  rintro e v σ0 τ W as hl i rfl Q q
  match σ0, hl with
  | [a], _ => exact q [v] (allIs_cons.mpr ⟨v, [], rfl, i, allIs_nil.mpr rfl⟩) rfl
def DC (X : Cx) (ifs : List Expr) (t : DTT) : Prop := ∃ tt, PC X ifs tt ∧ LiT X.K (Zx X) tt t
def dEach : DTT := fun _ Q => Q true
theorem dc_nil {X : Cx} : DC X [] dEach := ⟨_, pc_nil, fun _ _ W _ _ h _ k => k true W (Le.refl W) h⟩
def liftT (K : PySem.W.Frag) (t : DTT) : TT := fun σ H R => ∃ (F : Hp) (ρ : DS) (W : Vw) (Q : Bool → Prop), W.h = H ∧ Rl K (fun _ => none) F W ρ σ ∧ t ρ Q ∧ ∀ d W', Le W W' → Q d → R d W'.h
theorem DC.up {X : Cx} {ifs : List Expr} {t : DTT} (h : DC X ifs t) (hz : X.stack.length = X.outer.length := by rfl) : PC X ifs (liftT X.K t) := by
  obtain ⟨te, p, l⟩ := h
  intro pins s σ H R E hE I q
  obtain ⟨F, ρ, W, Q, rfl, r, h, k⟩ := q
  have r' : Rl X.K (Zx X) F W ρ σ := by unfold Zx; rw [if_pos (Or.inl hz)]; exact r
  exact p pins s σ W.h R E hE I (l ρ σ W Q r' h R k)
theorem li_liftT {K : PySem.W.Frag} {t : DTT} : LiT K (fun _ => none) (liftT K t) t := fun ρ σ H Q r h R k => ⟨_, ρ, H, Q, rfl, r, h, k⟩
def dCompG (js : List Nat) (di : DTI) (dg : Dt → List Dt → Prop) (tt : DTT) (te : DTE) : DTE := fun ρ Q => di ρ fun n vals => ∃ Pv : Nat → List Dt → Prop, Pv 0 [] ∧
  (∀ (i : Nat) e es, i < n → vals i e → Pv i es → ∃ as, dg e as ∧ tt (as.map Sl.some ++ capS ρ js) fun b => if b = true then te (as.map Sl.some ++ capS ρ js) fun y => Pv (i + 1) (es ++ [y]) else Pv (i + 1) es) ∧ ∀ es, Pv n es → Q (.lst es)
theorem li_compG {K : PySem.W.Frag} {wi : TI} {gt : TG} {tt : TT} {te : TE} {di : DTI} {dg : Dt → List Dt → Prop} {dt : DTT} {u : DTE} {k : Nat} {js : List Nat} (h1 : LiI K Z wi di) (hg : LiG K k gt dg) (ht' : LiT K (fun _ => none) tt dt) (h2 : LiE K (fun _ => none) te u) : LiF K Z (tCompG wi gt tt te k js) (dCompG js di dg dt u) := by
  intro F ρ σ H Q r h R kk
  refine h1 ρ σ H _ r h _ fun J n vals W1 s1 hn hJ ⟨Pv, h0, ht, hd⟩ => ?_
  have r1 := r.mono s1
  refine ⟨n, Nat.lt_of_le_of_lt hn (by decide), fun D hD => ?_⟩
  have gD : W1.g D = none := W1.sub.free hD
  have stp : ∀ {W2 W3 : Vw} {ys : List V} {es : List Dt}, Same W1.g W2.g ∧ Same W1.h (fun b => if b = D then none else W2.h b) ∧ (∀ b, W1.h b ≠ none → W1.g b = none → W2.g b = none) ∧ W2.h D = some (.lst ys) ∧ W2.g D = none ∧ AllIs K W2.g es ys → Le W2 W3 →
      Same W1.g W3.g ∧ Same W1.h (fun b => if b = D then none else W3.h b) ∧ (∀ b, W1.h b ≠ none → W1.g b = none → W3.g b = none) ∧ W3.h D = some (.lst ys) ∧ W3.g D = none ∧ AllIs K W3.g es ys := by
    rintro W2 W3 ys es ⟨s2, sh, sn, q1, q2, q3⟩ s3
    refine ⟨s2.trans s3.g, fun b o q => ?_, fun b z1 z2 => ?_, s3.h _ _ q1, s3.n D (by rw [q1]; intro z; cases z) q2, q3.mono s3⟩
    · have q' : (if b = D then none else W2.h b) = some o := sh b o q
      have hb : b ≠ D := fun e => by rw [e, hD] at q; cases q
      rw [if_neg hb] at q'
      show (if b = D then none else W3.h b) = some o
      rw [if_neg hb]
      exact s3.h _ _ q'
    · have hb : b ≠ D := fun e => z1 (e ▸ hD)
      have z3 := sn b z1 z2
      refine s3.n b ?_ z3
      cases q : W1.h b with
      | none => exact absurd q z1
      | some o =>
        have q' : (if b = D then none else W2.h b) = some o := sh b o q
        rw [if_neg hb] at q'
        rw [q']
        intro z; cases z
  refine ⟨fun i ys H2 => ∃ (W2 : Vw) (es : List Dt), W2.h = H2 ∧ (Same W1.g W2.g ∧ Same W1.h (fun b => if b = D then none else W2.h b) ∧ (∀ b, W1.h b ≠ none → W1.g b = none → W2.g b = none) ∧ W2.h D = some (.lst ys) ∧ W2.g D = none ∧ AllIs K W2.g es ys) ∧ ys.length ≤ i ∧ Pv i es, fun i v ys H2 => ∃ (W2 : Vw) (es : List Dt) (e : Dt), W2.h = H2 ∧ (Same W1.g W2.g ∧ Same W1.h (fun b => if b = D then none else W2.h b) ∧ (∀ b, W1.h b ≠ none → W1.g b = none → W2.g b = none) ∧ W2.h D = some (.lst ys) ∧ W2.g D = none ∧ AllIs K W2.g es ys) ∧ ys.length ≤ i ∧ Pv i es ∧ vals i e ∧ Is K W2.g e v, ?_, ?_, ?_, ?_, ?_, ?_⟩
  · refine ⟨W1.mine D (.lst []) gD, [], rfl, ⟨Same.refl _, fun b o q => ?_, fun b _ q => q, upd_same, gD, allIs_nil.mpr rfl⟩, Nat.le_refl _, h0⟩
    have hb : b ≠ D := fun e => by rw [e, hD] at q; cases q
    show (if b = D then none else upd W1.h D (.lst []) b) = some o
    rw [if_neg hb, upd_ne hb]
    exact q
  · rintro i ys _ _ ⟨W2, es, rfl, ⟨s2, _, _, q1, q2, _⟩, q4, _⟩
    exact ⟨q1, q4⟩
  · rintro i ys _ hi ⟨W2, es, rfl, hW2, q4, q5⟩
    obtain ⟨g1, g2⟩ := (hJ W2 hW2.1).1 i hi
    refine ⟨g1, fun v H3 y => ?_⟩
    obtain ⟨W3, s3, e3, e, he, ie⟩ := g2 v H3 y
    exact ⟨W3, es, e, e3, stp hW2 s3, q4, q5, he, ie⟩
  · rintro ys _ ⟨W2, es, rfl, ⟨s2, _⟩, _⟩
    exact (hJ W2 s2).2
  · rintro i v ys _ σ0 hi ⟨W2, es, e, rfl, hW2, q4, q5, he, ie⟩ hσ0
    obtain ⟨as, da, w⟩ := ht i e es hi he q5
    refine hg e v σ0 _ W2 as hσ0 ie da _ fun vs ivs lvs => ⟨⟨vs.map some, rfl, by rw [List.length_map]; exact lvs⟩, ?_⟩
    refine ht' (F := W2.h) (as.map Sl.some ++ capS ρ js) (vs.map some ++ capV σ js) W2 _ (rl_caps r1 hW2.1 ivs) w _ fun b W3 s3 w3 => ?_
    have hW3 := stp hW2 s3
    cases b with
    | false => exact ⟨W3, es, rfl, hW3, Nat.le_succ_of_le q4, w3⟩
    | true =>
      show te _ _ _
      refine h2 (F := W3.h) (as.map Sl.some ++ capS ρ js) (vs.map some ++ capV σ js) W3 _ (rl_caps r1 hW3.1 (ivs.mono s3)) w3 _ fun y w W4 s4 i4 q6 => ?_
      obtain ⟨a1, a2, a3, a4, a5, a6⟩ := stp hW3 s4
      refine ⟨a4, W4.mine D (.lst (ys ++ [w])) a5, es ++ [y], rfl, ⟨a1, fun b o q => ?_, a3, upd_same, a5, a6.append (allIs_cons.mpr ⟨w, [], rfl, i4, allIs_nil.mpr rfl⟩)⟩, by rw [List.length_append]; exact Nat.succ_le_succ q4, q6⟩
      have q' : (if b = D then none else W4.h b) = some o := a2 b o q
      have hb : b ≠ D := fun e => by rw [e, hD] at q; cases q
      rw [if_neg hb] at q'
      show (if b = D then none else upd W4.h D (.lst (ys ++ [w])) b) = some o
      rw [if_neg hb, upd_ne hb]
      exact q'
  · rintro ys _ ⟨W2, es, rfl, ⟨s2, sh, sn, q1, q2, q3⟩, _, q5⟩
    refine kk es D ys W2 (s1.trans ⟨s2, fun b o q => ?_, sn⟩) (s1.h.free hD) q1 q2 q3 (hd es q5)
    have q' : (if b = D then none else W2.h b) = some o := sh b o q
    have hb : b ≠ D := fun e => by rw [e, hD] at q; cases q
    rwa [if_neg hb] at q'
def dOver (ta : DTE) : DTI := fun ρ Q => ta ρ fun d => ∃ ds, listOf d = some ds ∧ ds.length ≤ 100000 ∧ Q ds.length fun i e => ds[i]? = some e
def dRng (ta : DTE) : DTI := fun ρ Q => ta ρ fun d => ∃ m : Int, d = .int m ∧ -(2 ^ 62) ≤ m ∧ m ≤ 100000 ∧ Q m.toNat fun i e => e = .int i
section
variable {X : Cx} {fr : Fr} {osc scope : Scope} {bs caps : List Str} {js : List Nat} {N0 : List Str} {L : Addr} {tg iter elt a : Expr} {ifs : List Expr} {ta te : DTE} {di : DTI} {tt : DTT} {dg : Dt → List Dt → Prop} {gt : TG} {px p0 pos pos1 : Pos}
theorem di_list (h : DE X iter ta) : DI X tg iter (dOver ta) := by
  obtain ⟨te, p, l⟩ := h
  refine ⟨_, pi_list p, fun ρ σ W Q r h R k => l ρ σ W _ r h _ fun d v W1 s1 i1 ⟨ds, el, hl, q⟩ => ?_⟩
  obtain ⟨a, xs, rfl, hq, ha⟩ := list_g i1 el
  refine ⟨a, rfl, ⟨xs, hq W1 (Same.refl _)⟩, k _ _ _ W1 s1 hl (fun W2 s2 => ⟨fun i hi => ?_, ?_⟩) q⟩
  · rw [ha.length] at hi
    have hv := List.getElem?_eq_getElem hi
    refine ⟨⟨xs, _, hq W2 s2, hv⟩, fun v' H3 ⟨e1, e2⟩ => ⟨W2, Le.refl _, e1.symm, ?_⟩⟩
    obtain ⟨e, he, ie⟩ := ha.get' (e2 xs (hq W2 s2))
    exact ⟨e, he, Is.mono0 s2 ie⟩
  · exact ⟨xs, hq W2 s2, by rw [ha.length]; exact Nat.le_refl _⟩
theorem di_range (hg : Gl X "range") (hm : X.mg "range" = none) (h : DE X a ta) (hst : starEach [a] X.env = [(false, eval a X.env)] := by rfl) (hst2 : starEach [a] X.env = (false, eval a X.env) :: starEach [] X.env := by rfl) : DI X tg (.Call (.Name "range" p0) [a] [] pos1) (dRng ta) := by
  obtain ⟨te, p, l⟩ := h
  refine ⟨_, pi_rangeE hg hm p hst hst2, fun ρ σ W Q r h R k => l ρ σ W _ r h _ fun d v W1 s1 i1 ⟨m, ed, m1, m2, q⟩ => ?_⟩
  subst ed
  refine ⟨m, is_int.mp i1, m1, by omega, k _ _ (fun i e => e = .int i) W1 s1 (by omega) (fun W2 s2 => ⟨fun i hi => ⟨hi, fun v H3 ⟨e1, e2⟩ => ⟨W2, Le.refl _, e1.symm, .int i, rfl, ?_⟩⟩, Nat.le_refl _⟩) q⟩
  rw [Int.zero_add] at e2
  exact is_int.mpr e2
theorem df_compG (hc : X.calm = true) (S : compOkG osc scope bs caps js N0 = true) (hN0 : X.N = N0) (he' : X.env.scope = osc) (hcs : X.env.cells = cellsFrom (L + 1) osc.names []) (hl : DI X tg iter di)
    (hg : ∀ C s H fp pins, PG (cxCompG X scope (clOf X.env.cells scope.names) bs caps C s H fp pins) tg gt) (lg : LiG X.K bs.length gt dg)
    (ht : ∀ C s H fp pins, DC (cxCompG X scope (clOf X.env.cells scope.names) bs caps C s H fp pins) ifs tt)
    (he : ∀ C s H fp pins, DE (cxCompG X scope (clOf X.env.cells scope.names) bs caps C s H fp pins) elt te) (hs : ∀ y, foldedSetIterable iter X.env y = pure y := by intro _; rfl) :
    DF X (.ListComp elt [⟨tg, iter, ifs, 0⟩] scope pos) (dCompG js di dg tt te) := by
  obtain ⟨wi, p, l⟩ := hl
  exact ⟨_, pe_compG hc (compScG (hN0 ▸ S) he' hcs) p hg (fun C s H fp pins => (ht C s H fp pins).up) (fun C s H fp pins => (he C s H fp pins).up) hs, li_compG l lg li_liftT li_lift⟩
end
end OD

namespace OD
variable {Z : Hp}
open PySem PySem.Spec PyProof.Rows L2
section
variable {K : PySem.W.Frag} {F : Hp} {W W' W0 : Vw}
theorem NewL.mono {d : Dt} {v : V} (h : NewL K F W d v) (s : Le W W') : NewL K F W' d v := by
  obtain ⟨es, p, xs, h1, h2, h3, h4, h5, h6⟩ := h
  exact ⟨es, p, xs, h1, h2, h3, s.h _ _ h4, s.n p (by rw [h4]; intro z; cases z) h5, h6.mono s⟩
theorem Prt.mono {b : Bool} {d : Dt} {v : V} (h : Prt K F W b d v) (s : Le W W') : Prt K F W' b d v := by
  cases b with
  | false => exact Is.mono h s
  | true =>
    rcases h with h | ⟨h1, h2⟩
    · exact .inl (h.mono s)
    · exact .inr ⟨h1, Is.mono h2 s⟩
theorem Prt.frz {b : Bool} {d : Dt} {u : V} (le : Le W0 W) (h : Prt K W0.h W b d u) : ∃ W1 : Vw, W1.h = W.h ∧ Same W.g W1.g ∧ Le W0 W1 ∧ Is K W1.g d u ∧
    ∀ b2 d2 u2, Prt K W0.h W b2 d2 u2 → (∀ es fs, b = true → b2 = true → d = .lst es → d2 = .lst fs → u ≠ u2) → Prt K W0.h W1 b2 d2 u2 := by
  cases b with
  | false => exact ⟨W, rfl, Same.refl _, le, h, fun _ _ _ k _ => k⟩
  | true =>
    rcases h with ⟨es, p, xs, rfl, rfl, h3, h4, h5, h6⟩ | ⟨_, h2⟩
    · refine ⟨W.frz p _ h4, rfl, same_new h5 _, le_frz le h3 h4 h5, is_lst.mpr ⟨p, xs, rfl, upd_same, AllIs.mono0 (same_new h5 _) h6⟩, fun b2 d2 u2 k ne => ?_⟩
      cases b2 with
      | false => exact Is.mono0 (same_new h5 _) k
      | true =>
        rcases k with ⟨fs, q, ys, rfl, rfl, k3, k4, k5, k6⟩ | ⟨k1, k2⟩
        · have hq : q ≠ p := fun z => ne es fs rfl rfl rfl rfl (by rw [z])
          exact .inl ⟨fs, q, ys, rfl, rfl, k3, k4, (upd_ne hq).trans k5, AllIs.mono0 (same_new h5 _) k6⟩
        · exact .inr ⟨k1, Is.mono0 (same_new h5 _) k2⟩
    · exact ⟨W, rfl, Same.refl _, le, h2, fun _ _ _ k _ => k⟩
theorem Tld.frz {fr : Fr} {d : Dt} {v : V} (le : Le W0 W) (h : Tld K W0.h W fr d v) : ∃ W1 : Vw, W1.h = W.h ∧ Le W0 W1 ∧ Is K W1.g d v := by
  match fr, h with
  | .d, h => exact ⟨W, rfl, le, h⟩
  | .l, ⟨es, p, xs, e1, e2, h3, h4, h5, h6⟩ =>
    subst e1; subst e2
    exact ⟨W.frz p _ h4, rfl, le_frz le h3 h4 h5, is_lst.mpr ⟨p, xs, rfl, upd_same, AllIs.mono0 (same_new h5 _) h6⟩⟩
  | .t a b, ⟨d1, d2, q, u1, u2, e1, e2, hq, p1, p2, ne⟩ =>
    subst e1; subst e2
    obtain ⟨W1, e1, s1, le1, i1, k1⟩ := p1.frz le
    obtain ⟨W2, e2, s2, le2, i2, _⟩ := (k1 b d2 u2 p2 ne).frz le1
    exact ⟨W2, e2.trans e1, le2, is_tup.mpr ⟨q, _, rfl, s2 _ _ (s1 _ _ hq), allIs_cons.mpr ⟨u1, _, rfl, Is.mono0 s2 i1, allIs_cons.mpr ⟨u2, _, rfl, i2, allIs_nil.mpr rfl⟩⟩⟩⟩
end
def TldSp (K : PySem.W.Frag) (fr : Fr) (S : DSp) : Sp := fun vs H Q _ => ∃ (W : Vw) (ds : List Dt) (Qd : Dt → Prop), W.h = H ∧ AllIs K W.g ds vs ∧ S ds Qd ∧ ∀ d v W', Le W W' → Tld K W.h W' fr d v → Qd d → Q v W'.h
def TldSpX (K : PySem.W.Frag) (fr : Fr) (S : DSpX) : Sp := fun vs H Q E => ∃ (W : Vw) (ds : List Dt) (Qd : Dt → Prop) (Ed : Addr → Prop), W.h = H ∧ AllIs K W.g ds vs ∧ S ds Qd Ed ∧
  (∀ d v W', Le W W' → Tld K W.h W' fr d v → Qd d → Q v W'.h) ∧ ∀ C H', Same W.h H' → Ed C → E (.ref C) none H'
structure TOk (P : Program) (w : World) (K : PySem.W.Frag) (mg : Str → Option Value) (base : Heap) (n : Nat) (x : Str) (fr : Fr) (S : DSp) : Prop where
  ex : ∃ f fd ps, mg x = some (.ref f) ∧ PySem.W.keepIn K (.ref f) = true ∧ Binds K fd ps [] ∧ FnOk P w K mg base CX0 n f fd ps (TldSp K fr S)
structure TOkX (P : Program) (w : World) (K : PySem.W.Frag) (mg : Str → Option Value) (base : Heap) (n : Nat) (x : Str) (fr : Fr) (S : DSpX) : Prop where
  ex : ∃ f fd ps, mg x = some (.ref f) ∧ PySem.W.keepIn K (.ref f) = true ∧ Binds K fd ps [] ∧ FnOk P w K mg base (CX1 P w) n f fd ps (TldSpX K fr S)
section
variable {P : Program} {w : World} {K : PySem.W.Frag} {mg : Str → Option Value} {base : Heap} {fr : Fr}
theorem TOk.dok {x : Str} {n : Nat} {S : DSp} (h : TOk P w K mg base n x fr S) : DOk P w K mg base n x S :=
  let ⟨f, fd, ps, h1, h2, h3, h4⟩ := h.ex; ⟨f, fd, ps, h1, h2, h3, h4.imp fun vs H Q E ⟨W, ds, Qd, a, b, c, k⟩ => ⟨W, ds, Qd, a, b, c, fun d v W' le t q => by
    obtain ⟨W1, e1, le1, i1⟩ := t.frz le
    rw [← e1]
    exact k d v W1 le1 i1 q⟩⟩
theorem TOkX.dok {x : Str} {n : Nat} {S : DSpX} (h : TOkX P w K mg base n x fr S) : DOkX P w K mg base n x S :=
  let ⟨f, fd, ps, h1, h2, h3, h4⟩ := h.ex; ⟨f, fd, ps, h1, h2, h3, h4.imp fun vs H Q E ⟨W, ds, Qd, Ed, a, b, c, k, ke⟩ => ⟨W, ds, Qd, Ed, a, b, c, fun d v W' le t q => by
    obtain ⟨W1, e1, le1, i1⟩ := t.frz le
    rw [← e1]
    exact k d v W1 le1 i1 q, ke⟩⟩
theorem okT {x qual : Str} {st : Stmt} {f : Addr} {fd : FuncData} {N ps : List Str} {k : Nat} {S : DSp} (F : Fun K x qual st f fd) (sc : FnScope N ps (defScope st)) (len : ∀ ds Q, S ds Q → ds.length = ps.length)
    (hbody : ∀ (cdv : Value) (A : Around) (outer : List Env) (s : Shared) (H : Hp) (E : XK), Room k (A.deeper (envOfC qual (defScope st) s.heap.objs.size f cdv)) → ∀ (ds : List Dt) (Q : Dt → Prop), S ds Q →
      ∃ t, DSs (cxOf CX0 P w K mg base N qual (defScope st) f cdv A outer s H E).nox fr (defBody st) t ∧ t { nx := fun _ => False, rt := Q } (dstart N.length ds)) : FnOk P w K mg base CX0 (k + 1) f fd ps (TldSp K fr S) := by
  refine F.ok sc (fun vs H Q E h => ?_) (fun cdv A outer s H vs Q E hr h => ?_)
  · obtain ⟨W, ds, Qd, _, ia, hS, _⟩ := h
    rw [← ia.length]
    exact len ds Qd hS
  obtain ⟨W, ds, Qd, rfl, ia, hS, kk⟩ := h
  obtain ⟨t, ⟨ts, p, l⟩, ht⟩ := hbody cdv A outer s W.h E hr ds Qd hS
  exact ⟨ts, p, l W W.g (dstart N.length ds) (start N vs) W { nx := fun _ => False, rt := Qd } _ (at_start ia (zx_stk (Nat.succ_ne_self _))) ⟨fun ρ σ W' a q => q.elim, kk, fun _ _ _ _ q => q.elim, fun _ _ _ _ q => q.elim⟩ ht⟩
theorem okTX {x qual : Str} {st : Stmt} {f : Addr} {fd : FuncData} {N ps : List Str} {k : Nat} {S : DSpX} (F : Fun K x qual st f fd) (sc : FnScope N ps (defScope st)) (len : ∀ ds Q R, S ds Q R → ds.length = ps.length)
    (hbody : ∀ (cdv : Value) (A : Around) (outer : List Env) (s : Shared) (H : Hp) (E : XK), Room k (A.deeper (envOfC qual (defScope st) s.heap.objs.size f cdv)) → ∀ (ds : List Dt) (Q : Dt → Prop) (R : Addr → Prop), S ds Q R →
      (∀ C, R C → Rz (cxOf (CX1 P w) P w K mg base N qual (defScope st) f cdv A outer s H E) C) →
      ∃ t, DSs (cxOf (CX1 P w) P w K mg base N qual (defScope st) f cdv A outer s H E) fr (defBody st) t ∧ t { nx := fun _ => False, rt := Q } (dstart N.length ds)) : FnOk P w K mg base (CX1 P w) (k + 1) f fd ps (TldSpX K fr S) := by
  refine Fun.okX F sc (fun vs H Q E h => ?_) (fun cdv A outer s H vs Q E hr h => ?_)
  · obtain ⟨W, ds, Qd, Ed, _, ia, hS, _⟩ := h
    rw [← ia.length]
    exact len ds Qd Ed hS
  obtain ⟨W, ds, Qd, Ed, rfl, ia, hS, kk, ke⟩ := h
  obtain ⟨t, ⟨ts, p, l⟩, ht⟩ := hbody cdv A outer s W.h E hr ds Qd Ed hS fun C hC => rz_of fun H' z => ke C H' z hC
  exact ⟨ts, p, l W W.g (dstart N.length ds) (start N vs) W { nx := fun _ => False, rt := Qd } _ (at_start ia (zx_stk (Nat.succ_ne_self _))) ⟨fun ρ σ W' a q => q.elim, kk, fun _ _ _ _ q => q.elim, fun _ _ _ _ q => q.elim⟩ ht⟩
theorem TOk.mk' {x qual : Str} {st : Stmt} {f : Addr} {fd : FuncData} {ps : List Str} {n : Nat} {S : DSp} (F : Fun K x qual st f fd) (hm : mg x = some (.ref f)) (hb : Binds K fd ps []) (h : FnOk P w K mg base CX0 n f fd ps (TldSp K fr S)) : TOk P w K mg base n x fr S :=
  ⟨f, fd, ps, hm, F.kp, hb, h⟩
theorem TOkX.mk' {x qual : Str} {st : Stmt} {f : Addr} {fd : FuncData} {ps : List Str} {n : Nat} {S : DSpX} (F : Fun K x qual st f fd) (hm : mg x = some (.ref f)) (hb : Binds K fd ps []) (h : FnOk P w K mg base (CX1 P w) n f fd ps (TldSpX K fr S)) : TOkX P w K mg base n x fr S :=
  ⟨f, fd, ps, hm, F.kp, hb, h⟩
end
def LiR (K : PySem.W.Frag) (Z : Hp) (fr : Fr) (te : TE) (t : DTE) : Prop :=
  ∀ {F : Hp} (ρ : DS) (σ : St) (H : Vw) (Q : Dt → Prop), Rl K Z F H ρ σ → t ρ Q → ∀ R : VK, (∀ d v H', Le H H' → Tld K H.h H' fr d v → Q d → R v H'.h) → te σ H.h R
def DR (X : Cx) (fr : Fr) (e : Expr) (t : DTE) : Prop := ∃ te, PE X e te ∧ LiR X.K (Zx X) fr te t
def LiP (K : PySem.W.Frag) (Z : Hp) (b : Bool) (te : TE) (t : DTE) : Prop :=
  ∀ {F : Hp} (ρ : DS) (σ : St) (H : Vw) (Q : Dt → Prop), Rl K Z F H ρ σ → t ρ Q → ∀ R : VK, (∀ d v H', Le H H' → Prt K F H' b d v → Q d → R v H'.h) → te σ H.h R
def DP (X : Cx) (b : Bool) (e : Expr) (t : DTE) : Prop := ∃ te, PE X e te ∧ LiP X.K (Zx X) b te t
theorem tld_up {K : PySem.W.Frag} {F G : Hp} {W : Vw} {fr : Fr} {d : Dt} {v : V} (z : ∀ p, F p = none → G p = none) (h : Tld K F W fr d v) : Tld K G W fr d v := by
  have pp : ∀ {b : Bool} {d : Dt} {v : V}, Prt K F W b d v → Prt K G W b d v := fun {b d v} h => by
    cases b with
    | false => exact h
    | true => exact h.imp (fun h => h.le z) id
  match fr, h with
  | .d, h => exact h
  | .l, h => exact NewL.le h z
  | .t a b, ⟨d1, d2, q, u1, u2, e1, e2, hq, p1, p2, ne⟩ => exact ⟨d1, d2, q, u1, u2, e1, e2, hq, pp p1, pp p2, ne⟩
section
variable {X : Cx} {fr : Fr} {a b : Bool} {e e1 e2 : Expr} {es : List Expr} {t t1 t2 : DTE} {ta : DTA} {n : Nat} {x y : Str} {S : DSp} {SX : DSpX} {p pos p0 p1 p2 : Pos} {i j : Nat}
theorem dr_callX (G : TOkX X.prog X.w X.K X.mg X.base n x fr SX) (hr : Room n X.A) (hg : Gl X x) (ha : DA X (e :: es) ta) (hdb : (x == ("__debug__" : Str)) = false := by decide)
    (he : starEach (e :: es) X.env = (false, eval e X.env) :: starEach es X.env := by rfl) (hpl : (backTo pos (starEach es X.env)).any (·.1) = false := by rfl) : DR X fr (.Call (.Name x p) (e :: es) [] pos) (dCallX X SX ta) := by
  obtain ⟨f, fd, ps, hm, hk, hb, F⟩ := G.ex
  obtain ⟨te, p1, l1⟩ := ha
  refine ⟨_, pe_call F hr hg hm hk hb .nil pass_can p1 hdb he hpl, fun ρ σ H Q r h R k => l1 ρ σ H _ r h _ fun ds vs H1 s1 i1 q1 => ?_⟩
  rw [List.append_nil]
  exact ⟨H1, ds, Q, Rz X, rfl, i1, q1, fun d v H2 s2 t2 q2 => k d v H2 (s1.trans s2) (tld_up (fun _ z => s1.h.free z) t2) q2, fun C H' s' hC => ⟨C, rfl, (hC H' (((rl_zx r).trans s1.h).trans s')).2⟩⟩
def dSnd (t : DTE) : DTE := fun ρ Q => t ρ fun d => ∃ d1 es, d = .tup [d1, .lst es] ∧ Q (.lst es)
theorem df_snd {jj} (h : DR X (.t a true) e t) (hs : PlainIx (.Constant (.int 1) jj p0)) : DF X (.Subscript e (.Constant (.int 1) jj p0) pos) (dSnd t) := by
  obtain ⟨te, p1, l1⟩ := h
  refine ⟨_, pe_ix ix_seq p1 pe_int hs, fun ρ σ H Q r h R k => l1 ρ σ H _ r h _ fun d v H1 s1 ⟨d1, d2, q, u1, u2, e1, e2, hq, pt1, pt2, ne⟩ ⟨d1', es, ed, qq⟩ => ?_⟩
  subst e2
  rw [ed] at e1
  cases e1
  rcases pt2 with ⟨fs, p, xs, e1, e2, h3, h4, h5, h6⟩ | ⟨z, _⟩
  · cases e1; subst e2
    exact .inr (.inl ⟨q, _, 1, _, rfl, rfl, .of (H1.sub _ _ hq), rfl, k es p xs H1 s1 h3 h4 h5 h6 qq⟩)
  · cases z
theorem dp_d (h : DE X e t) : DP X false e t := let ⟨te, p, l⟩ := h; ⟨te, p, fun ρ σ H Q r h R k => l ρ σ H Q r h R k⟩
theorem dp_f (h : DF X e t) : DP X true e t := let ⟨te, p, l⟩ := h; ⟨te, p, fun ρ σ H Q r h R k => l ρ σ H Q r h R fun es q xs H' s h0 h1 h2 i z => k (.lst es) (.ref q) H' s (.inl ⟨es, q, xs, rfl, rfl, r.fr.free h0, h1, h2, i⟩) z⟩
def dOwn (i : Nat) : DTE := fun ρ Q => ∃ ds, ρ[i]? = some (.own ds) ∧ Q (.lst ds)
def dRetT (t1 t2 : DTE) : DTS := fun D ρ => t1 ρ fun d1 => t2 ρ fun d2 => D.rt (.tup [d1, d2])
theorem ds_retT {x1} (h1 : DP X a e1 t1) (h2 : DP X b e2 t2) (hne : a = false ∨ b = false := by first | exact .inl rfl | exact .inr rfl)
    (hst : starEach [e1, e2] X.env = (false, eval e1 X.env) :: starEach [e2] X.env := by rfl) (hst2 : starEach [e2] X.env = (false, eval e2 X.env) :: starEach [] X.env := by rfl) :
    DSt X (.t a b) (.Return (some (.Tuple [e1, e2] x1 p0)) pos) (dRetT t1 t2) := by
  obtain ⟨te1, q1, l1⟩ := h1
  obtain ⟨te2, q2, l2⟩ := h2
  refine ⟨_, ps_ret (pe_tup (pa_cons q1 (pa_cons q2 pa_nil hst2) hst)), fun W0 G ρ σ W D D' at_ s h => ?_⟩
  refine l1 ρ σ W _ at_.rl h _ fun d1 u1 W1 s1 pt1 h => ?_
  refine l2 ρ σ W1 _ (at_.rl.mono s1) h _ fun d2 u2 W2 s2 pt2 q => ?_
  refine ⟨by show 2 ≤ _; decide, fun p hp => ?_⟩
  have s3 := le_new hp (.tup [u1, u2])
  refine s.tl (.tup [d1, d2]) (.ref p) (W2.new p (.tup [u1, u2])) ((at_.le.trans s1).trans (s2.trans s3)) ⟨d1, d2, p, u1, u2, rfl, rfl, upd_same, (pt1.mono s2).mono s3, pt2.mono s3, fun _ _ z1 z2 => ?_⟩ q
  rcases hne with z | z
  · rw [z1] at z; cases z
  · rw [z2] at z; cases z
theorem ds_retOF {x1} (i : Nat) (h2 : DF X e2 t2) (hN : X.N[i]? = some x := by rfl) (hv : Vis X.env.scope x := by first | exact Or.inl rfl | exact Or.inr (Or.inl rfl) | exact Or.inr (Or.inr rfl)) (hd : (x == ("__debug__" : Str)) = false := by decide)
    (hcd : (x == ("__classdict__" : Str)) = false := by decide)
    (hst : starEach [.Name x p1, e2] X.env = (false, eval (.Name x p1) X.env) :: starEach [e2] X.env := by rfl) (hst2 : starEach [e2] X.env = (false, eval e2 X.env) :: starEach [] X.env := by rfl) :
    DSt X (.t true true) (.Return (some (.Tuple [.Name x p1, e2] x1 p0)) pos) (dRetT (dOwn i) t2) := by
  obtain ⟨te2, q2, l2⟩ := h2
  refine ⟨_, ps_ret (pe_tup (pa_cons (pe_var hN hv hd hcd) (pa_cons q2 pa_nil hst2) hst)), fun W0 G ρ σ W D D' at_ s h => ?_⟩
  obtain ⟨ds, e, h⟩ := h
  obtain ⟨c, xs, e1, k2, k3, k4, k5⟩ := at_.rl.ow i ds e
  refine ⟨.ref c, e1, l2 ρ σ W _ at_.rl h _ fun es q ys W2 s2 h0 h1 h2 i2 qq => ?_⟩
  refine ⟨by show 2 ≤ _; decide, fun p hp => ?_⟩
  have s3 := le_new hp (.tup [.ref c, .ref q])
  have n1 : NewL X.K W0.h W (.lst ds) (.ref c) := ⟨ds, c, xs, rfl, rfl, k4, k2, k3, k5⟩
  have n2 : NewL X.K W0.h W2 (.lst es) (.ref q) := ⟨es, q, ys, rfl, rfl, at_.le.h.free h0, h1, h2, i2⟩
  refine s.tl _ (.ref p) (W2.new p (.tup [.ref c, .ref q])) (at_.le.trans (s2.trans s3)) ⟨_, _, p, _, _, rfl, rfl, upd_same, .inl ((n1.mono s2).mono s3), .inl (n2.mono s3), fun _ _ _ _ _ _ z => ?_⟩ qq
  cases z
  rw [h0] at k2
  cases k2
def slP : Bool → Dt → Sl
  | true, .lst es => .own es
  | _, d => .some d
theorem Rl.ownN {K : PySem.W.Frag} {F : Hp} {W : Vw} {ρ : DS} {σ : St} (r : Rl K Z F W ρ σ) {p : Addr} {xs : List V} {ds : List Dt} (i : Nat) (nep : ∀ (j : Nat) (es : List Dt), ρ[j]? = some (Sl.own es) → σ[j]? ≠ some (some (V.ref p))) (nea : ∀ (j : Nat) (a : Addr) (es : List Dt), ρ[j]? = some (Sl.arg a es) → a ≠ p)
    (hF : F p = none) (h1 : W.h p = some (.lst xs)) (h2 : W.g p = none) (h3 : AllIs K W.g ds xs) : Rl K Z F W (ρ.set i (.own ds)) (σ.set i (some (.ref p))) := by
  refine ⟨by rw [List.length_set, List.length_set]; exact r.len, fun j e q => ?_, fun j es q => ?_, fun j k es es' hjk q1 q2 => ?_, r.fr, r.z, fun j a fs q => ?_⟩
  · rcases set_get q with ⟨_, _, e1⟩ | ⟨hij, q⟩
    · cases e1
    · rw [List.getElem?_set_ne hij]
      exact r.at_ j e q
  · rcases set_get q with ⟨rfl, hl, e1⟩ | ⟨hij, q⟩
    · cases e1
      exact ⟨p, xs, by rw [List.getElem?_set_self (by rw [← r.len]; exact hl)], h1, h2, hF, h3⟩
    · rw [List.getElem?_set_ne hij]
      exact r.ow j es q
  · rcases set_get q1 with ⟨rfl, hl, e1⟩ | ⟨hij, q1⟩
    · rcases set_get q2 with ⟨rfl, _, _⟩ | ⟨hik, q2⟩
      · exact absurd rfl hjk
      · rw [List.getElem?_set_self (by rw [← r.len]; exact hl), List.getElem?_set_ne hik]
        exact fun z => nep k es' q2 z.symm
    · rcases set_get q2 with ⟨rfl, hl, _⟩ | ⟨hik, q2⟩
      · rw [List.getElem?_set_self (by rw [← r.len]; exact hl), List.getElem?_set_ne hij]
        exact nep j es q1
      · rw [List.getElem?_set_ne hij, List.getElem?_set_ne hik]
        exact r.ne j k es es' hjk q1 q2
  · rcases set_get q with ⟨_, _, e1⟩ | ⟨hij, q⟩
    · cases e1
    obtain ⟨⟨ys, g1, g2⟩, k1, k2⟩ := r.ar j a fs q
    refine ⟨⟨ys, by rw [List.getElem?_set_ne hij]; exact g1, g2⟩, fun k es q' => ?_, fun k c es q' => ?_⟩
    · rcases set_get q' with ⟨rfl, hl, e1⟩ | ⟨hik, q'⟩
      · rw [List.getElem?_set_self (by rw [← r.len]; exact hl)]
        intro z
        cases z
        exact nea j _ fs q rfl
      · rw [List.getElem?_set_ne hik]
        exact k1 k es q'
    · rcases set_get q' with ⟨_, _, e1⟩ | ⟨hik, q'⟩
      · cases e1
      exact k2 k c es q'
theorem Rl.part {K : PySem.W.Frag} {F F' : Hp} {W : Vw} {ρ : DS} {σ : St} (r : Rl K Z F W ρ σ) {b : Bool} {d : Dt} {v : V} (i : Nat) (h : Prt K F' W b d v) (hF : ∀ p, F' p = none → F p = none)
    (nep : ∀ (p : Addr) (j : Nat) (es fs : List Dt), b = true → d = .lst fs → v = .ref p → F' p = none → ρ[j]? = some (Sl.own es) → σ[j]? ≠ some (some (V.ref p))) (nea : ∀ (p : Addr) (j : Nat) (a : Addr) (es : List Dt), F' p = none → ρ[j]? = some (Sl.arg a es) → a ≠ p) :
    Rl K Z F W (ρ.set i (slP b d)) (σ.set i (some v)) := by
  cases b with
  | false => cases d <;> exact r.set i h
  | true =>
    rcases h with ⟨es, p, xs, rfl, rfl, h3, h4, h5, h6⟩ | ⟨z, h2⟩
    · exact r.ownN i (fun j fs e => nep p j fs es rfl rfl rfl h3 e) (fun j a fs e => nea p j a fs h3 e) (hF p h3) h4 h5 h6
    · cases d <;> first | exact r.set i h2 | cases z
end
end OD

namespace L2
open PySem PySem.Spec PyProof.Rows
def Cx.arg (X : Cx) : Cx := { X with fn := fun y => !(y == "") }
section
variable {X : Cx} {pins : List (Addr × Obj)} {σ : St} {H : Hp} {s : Shared}
theorem Inv.arg (I : Inv X pins σ H s) (hf : ∀ y, X.fn y = true) : Inv X.arg pins σ H s :=
  ⟨⟨I.ok.mod, I.ok.kind, I.ok.glob, I.ok.blt, I.ok.above, I.ok.inj, I.ok.has, fun x c _ => I.ok.cab x c (hf x), I.ok.hd, I.ok.frames, I.ok.stk, I.ok.exf, I.ok.bs, I.ok.bsz, I.ok.noex, I.ok.exfs, I.ok.funs, I.ok.frf⟩, I.os, I.bare, I.base, I.loc, I.cell, I.free, I.freeC, I.pin, I.hok, I.len⟩
theorem Inv.outA (ok : X.Ok) (I : Inv X.arg pins σ H s) : Inv X pins σ H s := ⟨ok, I.os, I.bare, I.base, I.loc, I.cell, I.free, I.freeC, I.pin, I.hok, I.len⟩
theorem SP.outA {D : Ends} {f : Flow} {s' : Shared} (ok : X.Ok) (h : SP X.arg pins D f s') : SP X pins D f s' := by
  cases f with
  | next => obtain ⟨σ', H', I, q⟩ := h; exact ⟨σ', H', I.outA ok, q⟩
  | brk => obtain ⟨σ', H', I, q⟩ := h; exact ⟨σ', H', I.outA ok, q⟩
  | cont => obtain ⟨σ', H', I, q⟩ := h; exact ⟨σ', H', I.outA ok, q⟩
  | ret u => obtain ⟨v, σ', H', I, r, q⟩ := h; exact ⟨v, σ', H', I.outA ok, r, q⟩
theorem PSs.outA {sts : List Stmt} {ts : TS} (h : PSs X.arg sts ts) (hf : ∀ y, X.fn y = true) : PSs X sts ts := fun pins s σ H D I q => thn (h pins s σ H D (I.arg hf) q) fun _ _ z => SP.outA I.ok z
theorem get_list : PGet X (fun o i H Q => ∃ p xs k v, o = .ref p ∧ i = .int k ∧ 0 ≤ k ∧ H p = some (.lst xs) ∧ xs[k.toNat]? = some v ∧ Q v H) := by
  intro pins s σ H o i ov iv Q I ro ri h
  obtain ⟨p, xs, k, v, rfl, rfl, h0, hp, hv, q⟩ := h
  cases ro
  obtain ⟨t, rfl⟩ := ri
  obtain ⟨its, r, pl, hz⟩ := I.list (.of hp)
  obtain ⟨w, ew, rw'⟩ := r.get hv
  have hl := r.length
  have hn := line63
  have hk : k.toNat < xs.length := by
    rcases Nat.lt_or_ge k.toNat xs.length with z | z
    · exact z
    · rw [List.getElem?_eq_none z] at hv; cases hv
  exact wpAny_getItem_list pl.isList h0 (by omega) (by simpa using ew) ⟨v, H, I, rw', q⟩
end
end L2
namespace OD
variable {Z : Hp}
open PySem PySem.Spec PyProof.Rows L2
theorem zx_arg {X : Cx} : Zx X.arg = fun _ => none := if_pos (.inr (by show (!(("" : Str) == "")) = false; decide))
def Vw.del (W : Vw) (a : Addr) (hg : W.g a = none) : Vw := ⟨W.g, fun b => if b = a then none else W.h b, fun b o q => by
  have : b ≠ a := fun e => by rw [e, hg] at q; cases q
  show (if b = a then none else W.h b) = some o
  rw [if_neg this]
  exact W.sub _ _ q⟩
theorem del_ne {W : Vw} {a b : Addr} {hg : W.g a = none} (h : b ≠ a) : (W.del a hg).h b = W.h b := if_neg h
theorem del_le (W : Vw) (a : Addr) (hg : W.g a = none) : Le (W.del a hg) W := ⟨Same.refl _, fun b o q => by
  by_cases e : b = a
  · subst e
    have q : (if b = b then none else W.h b) = some o := q
    rw [if_pos rfl] at q
    cases q
  · rw [← del_ne (hg := hg) e]; exact q, fun _ _ h => h⟩
theorem Le.undel {W0 W W' : Vw} {a : Addr} {hg : W.g a = none} (l0 : Le W0 W) (h0 : W0.h a = none) (l : Le (W.del a hg) W') : Le W0 W' :=
  ⟨l0.g.trans l.g, fun b o q => by
    have e : b ≠ a := fun e => by rw [e, h0] at q; cases q
    exact l.h b o ((del_ne e).trans (l0.h b o q)), fun b h1 h2 => by
    have e : b ≠ a := fun e => h1 (e ▸ h0)
    exact l.n b (by rw [del_ne e]; exact fun z => h1 (l0.h.free z)) (l0.n b h1 h2)⟩
theorem Rl.lent {K : PySem.W.Frag} {F : Hp} {W W' : Vw} {ρ : DS} {σ : St} (r : Rl K Z F W ρ σ) {i : Nat} {ds fs : List Dt} {a : Addr} {ys : List V} (hi : ρ[i]? = some (.own ds)) (ha : σ[i]? = some (some (.ref a))) (hg : W.g a = none) (hF : F a = none)
    (le : Le (W.del a hg) W') (h1 : W'.h a = some (.lst ys)) (h2 : W'.g a = none) (h3 : AllIs K W'.g fs ys) : Rl K Z F W' (ρ.set i (.own fs)) σ := by
  have other : ∀ j gs, j ≠ i → ρ[j]? = some (.own gs) → σ[j]? ≠ some (some (.ref a)) := fun j gs hj q z => r.ne j i gs ds hj q hi (z.trans ha.symm)
  have keep : ∀ b xs, b ≠ a → W.h b = some (.lst xs) → W.g b = none → W'.h b = some (.lst xs) ∧ W'.g b = none := fun b xs hb q1 q2 =>
    ⟨le.h b _ ((del_ne hb).trans q1), le.n b (by rw [del_ne hb, q1]; intro z; cases z) q2⟩
  refine ⟨by rw [List.length_set]; exact r.len, fun j e q => ?_, fun j gs q => ?_, fun j k gs gs' hjk q1 q2 => ?_, fun p o q => ?_, r.z, fun j c gs q => ?_⟩
  · rcases set_get q with ⟨_, _, e1⟩ | ⟨hij, q⟩
    · cases e1
    · obtain ⟨v, e1, e2⟩ := r.at_ j e q
      exact ⟨v, e1, Is.mono0 le.g e2⟩
  · rcases set_get q with ⟨rfl, _, e1⟩ | ⟨hij, q⟩
    · cases e1
      exact ⟨a, ys, ha, h1, h2, hF, h3⟩
    · obtain ⟨b, xs, e1, e2, e3, e4, e5⟩ := r.ow j gs q
      have hb : b ≠ a := fun z => other j gs (fun z => hij z.symm) q (z ▸ e1)
      obtain ⟨k1, k2⟩ := keep b xs hb e2 e3
      exact ⟨b, xs, e1, k1, k2, e4, AllIs.mono0 le.g e5⟩
  · have k1 : ∃ hs, ρ[j]? = some (.own hs) := by
      rcases set_get q1 with ⟨rfl, _, _⟩ | ⟨_, q⟩
      · exact ⟨_, hi⟩
      · exact ⟨_, q⟩
    have k2 : ∃ hs, ρ[k]? = some (.own hs) := by
      rcases set_get q2 with ⟨rfl, _, _⟩ | ⟨_, q⟩
      · exact ⟨_, hi⟩
      · exact ⟨_, q⟩
    obtain ⟨_, k1⟩ := k1
    obtain ⟨_, k2⟩ := k2
    exact r.ne j k _ _ hjk k1 k2
  · have e : p ≠ a := fun e => by rw [e, hF] at q; cases q
    exact le.h p o ((del_ne e).trans (r.fr p o q))
  · rcases set_get q with ⟨_, _, e1⟩ | ⟨hij, q⟩
    · cases e1
    obtain ⟨⟨xs, g1, g2, g3, g4, g5⟩, k1, k2⟩ := r.ar j c gs q
    have hc : c ≠ a := fun z => k1 i ds hi (by rw [z]; exact ha)
    obtain ⟨m1, m2⟩ := keep c xs hc g2 g3
    refine ⟨⟨xs, g1, m1, m2, g4, AllIs.mono0 le.g g5⟩, fun k es' q' => ?_, fun k c' es' q' => ?_⟩
    · rcases set_get q' with ⟨rfl, _, _⟩ | ⟨_, q'⟩
      · exact k1 i ds hi
      · exact k1 k es' q'
    · rcases set_get q' with ⟨_, _, e1⟩ | ⟨hik, q'⟩
      · cases e1
      exact k2 k c' es' q'
theorem Rl.putA {K : PySem.W.Frag} {F : Hp} {W : Vw} {ρ : DS} {σ : St} (r : Rl K Z F W ρ σ) {i : Nat} {ds es : List Dt} {a : Addr} {ys : List V} (hi : ρ[i]? = some (.arg a ds)) (hg : W.g a = none) (hF : F a = none) (h3 : AllIs K W.g es ys) :
    Rl K Z F (W.mine a (.lst ys) hg) (ρ.set i (.arg a es)) σ := by
  obtain ⟨⟨xs, ha, _⟩, no, on⟩ := r.ar i a ds hi
  refine ⟨by rw [List.length_set]; exact r.len, fun j e q => ?_, fun j fs q => ?_, fun j k fs fs' hjk q1 q2 => ?_, fun p o q => ?_, r.z, fun j c fs q => ?_⟩
  · rcases set_get q with ⟨_, _, e1⟩ | ⟨hij, q⟩
    · cases e1
    · exact r.at_ j e q
  · rcases set_get q with ⟨_, _, e1⟩ | ⟨hij, q⟩
    · cases e1
    · obtain ⟨b, xs, e1, e2, e3, e4, e5⟩ := r.ow j fs q
      have hb : b ≠ a := fun z => no j fs q (z ▸ e1)
      exact ⟨b, xs, e1, (upd_ne hb).trans e2, e3, e4, e5⟩
  · rcases set_get q1 with ⟨_, _, e1⟩ | ⟨_, q1⟩
    · cases e1
    rcases set_get q2 with ⟨_, _, e1⟩ | ⟨_, q2⟩
    · cases e1
    exact r.ne j k _ _ hjk q1 q2
  · have e : p ≠ a := fun e => by rw [e, hF] at q; cases q
    exact (upd_ne (H := W.h) (o := .lst ys) e).trans (r.fr p o q)
  · rcases set_get q with ⟨rfl, hl, e1⟩ | ⟨hij, q⟩
    · cases e1
      refine ⟨⟨ys, ha, upd_same, hg, hF, h3⟩, fun k es' q' => ?_, fun k c' es' q' => ?_⟩
      · rcases set_get q' with ⟨_, _, e1⟩ | ⟨_, q'⟩
        · cases e1
        · exact no k es' q'
      · rcases set_get q' with ⟨rfl, _, _⟩ | ⟨hik, q'⟩
        · rfl
        · exact on k c' es' q'
    · exact absurd (on j c fs q) (fun z => hij z.symm)
theorem At.putA {K : PySem.W.Frag} {W0 W : Vw} {G : Hp} {ρ : DS} {σ : St} (at_ : At K Z W0 G W ρ σ) {i : Nat} {ds es : List Dt} {a : Addr} {ys : List V} (hi : ρ[i]? = some (.arg a ds)) (hg : W.g a = none) (hF : W0.h a = none) (h3 : AllIs K W.g es ys) :
    At K Z W0 G (W.mine a (.lst ys) hg) (ρ.set i (.arg a es)) σ :=
  ⟨⟨at_.le.g, fun b o q => by
      have : b ≠ a := fun e => by rw [e, hF] at q; cases q
      show upd W.h a _ b = some o
      rw [upd_ne this]; exact at_.le.h _ _ q, at_.le.n⟩, at_.gs, at_.rl.putA hi hg hF h3⟩
abbrev ASp := Dt → List Dt → List Dt → (List Dt → Prop) → Prop
def ArgSp (K : PySem.W.Frag) (S : ASp) : Sp := fun vs H Q _ => ∃ (W : Vw) (d0 : Dt) (es0 ds : List Dt) (Qd : List Dt → Prop) (v0 : V) (a : Addr) (xs vs' : List V) (hg : W.g a = none), W.h = H ∧ vs = v0 :: .ref a :: vs' ∧ W.h a = some (.lst xs) ∧ Is K W.g d0 v0 ∧ AllIs K W.g es0 xs ∧ AllIs K W.g ds vs' ∧ S d0 es0 ds Qd ∧
  ∀ es ys W', Le (W.del a hg) W' → W'.h a = some (.lst ys) → W'.g a = none → AllIs K W'.g es ys → Qd es → Q .non W'.h
structure AOk (P : Program) (w : World) (K : PySem.W.Frag) (mg : Str → Option Value) (base : Heap) (n : Nat) (x : Str) (S : ASp) : Prop where
  ex : ∃ f fd ps, mg x = some (.ref f) ∧ PySem.W.keepIn K (.ref f) = true ∧ Binds K fd ps [] ∧ FnOk P w K mg base CX0 n f fd ps (ArgSp K S)
def astart (n : Nat) (d0 : Dt) (a : Addr) (es0 ds : List Dt) : DS := .some d0 :: .arg a es0 :: (ds.map Sl.some ++ List.replicate (n - (ds.length + 2)) Sl.none)
section
variable {P : Program} {w : World} {K : PySem.W.Frag} {mg : Str → Option Value} {base : Heap}
theorem rl_astart {W : Vw} {N : List Str} {d0 : Dt} {v0 : V} {a : Addr} {es0 ds : List Dt} {xs vs : List V} (hg : W.g a = none) (ha : W.h a = some (.lst xs)) (i0 : Is K W.g d0 v0) (i1 : AllIs K W.g es0 xs) (i2 : AllIs K W.g ds vs) :
    Rl K (fun _ => none) (W.del a hg).h W (astart N.length d0 a es0 ds) (L2.start N (v0 :: .ref a :: vs)) := by
  have hl := i2.length
  have cls : ∀ (i : Nat) (y : Sl), (ds.map Sl.some ++ List.replicate (N.length - (ds.length + 2)) Sl.none)[i]? = some y → (∃ d, ds[i]? = some d ∧ y = .some d) ∨ y = .none := fun i y e => by
    by_cases hi : i < ds.length
    · rw [List.getElem?_append_left (by rw [List.length_map]; exact hi), List.getElem?_map] at e
      obtain ⟨d', h1, h2⟩ := Option.map_eq_some_iff.mp e
      exact .inl ⟨d', h1, h2.symm⟩
    · rw [List.getElem?_append_right (by rw [List.length_map]; omega), List.getElem?_replicate] at e
      split at e
      · exact .inr (Option.some.inj e).symm
      · cases e
  have noOwn : ∀ (i : Nat) (es : List Dt), (astart N.length d0 a es0 ds)[i]? = some (.own es) → False := fun i es e => by
    match i, e with
    | 0, e => cases e
    | 1, e => cases e
    | i + 2, e =>
      rcases cls i _ e with ⟨_, _, e1⟩ | e1 <;> cases e1
  have dela : (W.del a hg).h a = none := if_pos rfl
  refine ⟨?_, fun i d e => ?_, fun i es e => (noOwn i es e).elim, fun i j es fs _ e _ => (noOwn i es e).elim, (del_le W a hg).h, (fun _ _ q => nomatch q), fun i c es e => ?_⟩
  · unfold L2.start astart
    rw [List.length_cons, List.length_cons, List.length_append, List.length_append, List.length_map, List.length_map, List.length_replicate, List.length_replicate, List.length_cons, List.length_cons, hl]
    omega
  · match i, e with
    | 0, e => cases e; exact ⟨v0, rfl, i0⟩
    | 1, e => cases e
    | i + 2, e =>
      rcases cls i _ e with ⟨d', q, e1⟩ | e1
      · cases e1
        obtain ⟨v, h1, h2⟩ := i2.get q
        refine ⟨v, ?_, h2⟩
        have hi : i < vs.length := by
          rcases Nat.lt_or_ge i vs.length with h | h
          · exact h
          · rw [List.getElem?_eq_none h] at h1; cases h1
        unfold L2.start
        show (vs.map some ++ _)[i]? = _
        rw [List.getElem?_append_left (by rw [List.length_map]; exact hi), List.getElem?_map, h1]
        rfl
      · cases e1
  · have hone : ∀ (j : Nat) (b : Addr) (es : List Dt), (astart N.length d0 a es0 ds)[j]? = some (.arg b es) → j = 1 ∧ b = a ∧ es = es0 := fun j b es e => by
      match j, e with
      | 0, e => cases e
      | 1, e => cases e; exact ⟨rfl, rfl, rfl⟩
      | j + 2, e => rcases cls j _ e with ⟨_, _, e1⟩ | e1 <;> cases e1
    obtain ⟨rfl, rfl, rfl⟩ := hone i c es e
    exact ⟨⟨xs, rfl, ha, hg, dela, i1⟩, fun j es e => (noOwn j es e).elim, fun j b es e => (hone j b es e).1⟩
theorem okA {x qual : Str} {st : Stmt} {f : Addr} {fd : FuncData} {N ps : List Str} {k : Nat} {S : ASp} (F : Fun K x qual st f fd) (sc : FnScope N ps (defScope st)) (len : ∀ d0 es0 ds Q, S d0 es0 ds Q → ds.length + 2 = ps.length)
    (hbody : ∀ (cdv : Value) (A : Around) (outer : List Env) (s : Shared) (H : Hp) (E : XK), Room k (A.deeper (envOfC qual (defScope st) s.heap.objs.size f cdv)) → ∀ (d0 : Dt) (es0 ds : List Dt) (Q : List Dt → Prop) (a : Addr), S d0 es0 ds Q →
      ∃ t, DSs (cxOf CX0 P w K mg base N qual (defScope st) f cdv A outer s H E).nox.arg .d (defBody st) t ∧ t { nx := fun ρ => ∃ es, ρ[1]? = some (.arg a es) ∧ Q es, rt := fun _ => False } (astart N.length d0 a es0 ds)) : FnOk P w K mg base CX0 (k + 1) f fd ps (ArgSp K S) := by
  refine F.ok sc (fun vs H Q E h => ?_) (fun cdv A outer s H vs Q E hr h => ?_)
  · obtain ⟨W, d0, es0, ds, Qd, v0, a, xs, vs', hg, rfl, rfl, h1, h2, h3, h4, hS, _⟩ := h
    rw [List.length_cons, List.length_cons, ← h4.length]
    exact len _ _ _ _ hS
  obtain ⟨W, d0, es0, ds, Qd, v0, a, xs, vs', hg, rfl, rfl, h1, h2, h3, h4, hS, kk⟩ := h
  obtain ⟨t, ⟨ts, p, l⟩, ht⟩ := hbody cdv A outer s W.h E hr d0 es0 ds Qd a hS
  rw [zx_arg] at l
  refine ⟨ts, p.outA (fun _ => rfl), l (W.del a hg) W.g _ (start N (v0 :: .ref a :: vs')) W { nx := fun ρ => ∃ es, ρ[1]? = some (.arg a es) ∧ Qd es, rt := fun _ => False } _ ⟨del_le W a hg, Same.refl _, rl_astart hg h1 h2 h3 h4⟩ ⟨fun ρ σ W' at_ ⟨es, e, q⟩ => ?_, fun _ _ _ _ _ q => q.elim, fun _ _ _ _ q => q.elim, fun _ _ _ _ q => q.elim⟩ ht⟩
  obtain ⟨⟨ys, _, g2, g3, _, g5⟩, _, _⟩ := at_.rl.ar 1 a es e
  exact kk es ys W' at_.le g2 g3 g5 q
theorem AOk.mk' {x qual : Str} {st : Stmt} {f : Addr} {fd : FuncData} {ps : List Str} {n : Nat} {S : ASp} (F : Fun K x qual st f fd) (hm : mg x = some (.ref f)) (hb : Binds K fd ps []) (h : FnOk P w K mg base CX0 n f fd ps (ArgSp K S)) : AOk P w K mg base n x S :=
  ⟨f, fd, ps, hm, F.kp, hb, h⟩
end
section
variable {X : Cx} {fr : Fr} {e e0 k : Expr} {es : List Expr} {t te tk : DTE} {ta : DTA} {n : Nat} {x y : Str} {S : ASp} {p pos p0 p1 p2 p3 : Pos} {i : Nat}
def dCallA (i : Nat) (S : ASp) (t : DTE) (ta : DTA) : DTS := fun D ρ => ∃ ds, ρ[i]? = some (.own ds) ∧ t ρ fun d0 => ta ρ fun fs => S d0 ds fs fun es => D.nx (ρ.set i (.own es))
theorem ds_callA (i : Nat) (G : AOk X.prog X.w X.K X.mg X.base n x S) (hr : Room n X.A) (hg : Gl X x) (h0 : DE X e0 t) (ha : DA X es ta) (hN : X.N[i]? = some y := by rfl) (hv : Vis X.env.scope y := by first | exact Or.inl rfl | exact Or.inr (Or.inl rfl) | exact Or.inr (Or.inr rfl)) (hd : (y == ("__debug__" : Str)) = false := by decide)
    (hcd : (y == ("__classdict__" : Str)) = false := by decide) (hdb : (x == ("__debug__" : Str)) = false := by decide)
    (he : starEach (e0 :: .Name y p1 :: es) X.env = (false, eval e0 X.env) :: starEach (.Name y p1 :: es) X.env := by rfl) (he2 : starEach (.Name y p1 :: es) X.env = (false, eval (.Name y p1) X.env) :: starEach es X.env := by rfl)
    (hpl : (backTo p2 (starEach (.Name y p1 :: es) X.env)).any (·.1) = false := by rfl) (hs : swapsWith (.Call (.Name x p) (e0 :: .Name y p1 :: es) [] p2) none pos.line X.env = pure false := by rfl) :
    DSt X fr (.Expr (.Call (.Name x p) (e0 :: .Name y p1 :: es) [] p2) pos) (dCallA i S t ta) := by
  obtain ⟨f, fd, ps, hm, hk, hb, F⟩ := G.ex
  obtain ⟨tt, q0, l0⟩ := h0
  obtain ⟨tts, q1, l1⟩ := ha
  refine ⟨_, ps_expr (pe_call F hr hg hm hk hb .nil pass0 (pa_cons q0 (pa_cons (pe_var hN hv hd hcd) q1 he2) he) hdb he hpl) hs, fun W0 G ρ σ W D D' at_ s h => ?_⟩
  obtain ⟨ds, ei, h⟩ := h
  obtain ⟨a, xs, k1, k2, k3, k4, k5⟩ := at_.rl.ow i ds ei
  refine l0 ρ σ W _ at_.rl h _ fun d0 v0 W1 s1 i0 h => ?_
  refine ⟨.ref a, k1, l1 ρ σ W1 _ (at_.rl.mono s1) h _ fun fs vs W2 s2 i2 h => ?_⟩
  have s12 := s1.trans s2
  have hg2 : W2.g a = none := s12.n a (by rw [k2]; intro z; cases z) k3
  show ArgSp X.K S ((v0 :: .ref a :: vs) ++ []) W2.h _ E0
  rw [List.append_nil]
  refine ⟨W2, d0, ds, fs, _, v0, a, xs, vs, hg2, rfl, rfl, s12.h _ _ k2, i0.mono s2, k5.mono s12, i2, h, fun es ys W' le m1 m2 m3 q => ?_⟩
  have a2 := at_.step s12
  exact s.nx _ _ W' ⟨a2.le.undel k4 le, a2.gs.trans le.g, a2.rl.lent ei k1 hg2 k4 le m1 m2 m3⟩ q
def dLenA (i : Nat) : DTE := fun ρ Q => ∃ a ds, ρ[i]? = some (.arg a ds) ∧ Q (.int ds.length)
theorem de_lenA (i : Nat) (hg : Gl X "len") (hm : X.mg "len" = none) (hN : X.N[i]? = some x := by rfl) (hv : Vis X.env.scope x := by first | exact Or.inl rfl | exact Or.inr (Or.inl rfl) | exact Or.inr (Or.inr rfl)) (hd : (x == ("__debug__" : Str)) = false := by decide)
    (hcd : (x == ("__classdict__" : Str)) = false := by decide) (hs : starEach [.Name x p1] X.env = (false, eval (.Name x p1) X.env) :: starEach [] X.env := by rfl) (hpl : (backTo pos (starEach [] X.env)).any (·.1) = false := by rfl) :
    DE X (.Call (.Name "len" p0) [.Name x p1] [] pos) (dLenA i) := by
  refine ⟨_, pe_callB call_len_seq hg hm PySem.boot_len (pa_cons (pe_var hN hv hd hcd) pa_nil hs) (by decide) (by decide) hs hpl, fun ρ σ H Q r h R k => ?_⟩
  obtain ⟨a, ds, e, q⟩ := h
  obtain ⟨⟨xs, e1, e2, e3, e4, e5⟩, _, _⟩ := r.ar i a ds e
  exact ⟨.ref a, e1, a, xs, rfl, .inl (.of e2), by rw [← e5.length]; exact k _ _ H (Le.refl H) (is_int.mpr rfl) q⟩
def dAppA (i : Nat) (te : DTE) : DTS := fun D ρ => ∃ a ds, ρ[i]? = some (.arg a ds) ∧ te ρ fun d => ds.length ≤ 100000 ∧ D.nx (ρ.set i (.arg a (ds ++ [d])))
theorem ds_appA (i : Nat) (h : DE X e te) (hN : X.N[i]? = some x := by rfl) (hv : Vis X.env.scope x := by first | exact Or.inl rfl | exact Or.inr (Or.inl rfl) | exact Or.inr (Or.inr rfl)) (hd : (x == ("__debug__" : Str)) = false := by decide)
    (hcd : (x == ("__classdict__" : Str)) = false := by decide) (hst : starEach [e] X.env = (false, eval e X.env) :: starEach [] X.env := by rfl) (hpl : (backTo p2 (starEach [] X.env)).any (·.1) = false := by rfl)
    (hfew : ((backTo p2 (starEach [e] X.env)).all (fun x => !x.1) && (backToKw p2 (keywordEach [] X.env)).all (fun x => x.1.isSome)
      && decide ([e].length + ([] : List Keyword).length + (if ([] : List Keyword).isEmpty then 0 else 1) < 30)) = true := by rfl)
    (hbase : attributeBase (.Name x p0) "append" X.env (eval (.Name x p0) X.env) = eval (.Name x p0) X.env := by rfl) (hline : (p1.endLine == p2.line) = true := by rfl)
    (hs : swapsWith (.Call (.Attribute (.Name x p0) "append" p1) [e] [] p2) none pos.line X.env = pure false := by rfl) :
    DSt X fr (.Expr (.Call (.Attribute (.Name x p0) "append" p1) [e] [] p2) pos) (dAppA i te) := by
  obtain ⟨tt, p, l⟩ := h
  refine ⟨_, ps_expr (pe_bm PySem.F.plainAttrs_list PySem.F.slot_list_append PySem.F.type_list_append mt_append (pe_var hN hv hd hcd) (pa_cons p pa_nil hst) hbase hfew hline hst hpl) hs, fun W0 G ρ σ W D D' at_ s h => ?_⟩
  obtain ⟨b, ds, ei, h⟩ := h
  obtain ⟨⟨xs, e1, e2, e3, e4, e5⟩, _, _⟩ := at_.rl.ar i b ds ei
  refine ⟨.ref b, e1, .inl ⟨rfl, xs, .of e2⟩, l ρ σ W _ at_.rl h _ fun d v W1 s1 i1 ⟨hl, q1⟩ => ?_⟩
  have a1 := at_.step s1
  have hg1 : W1.g b = none := s1.n b (by rw [e2]; intro z; cases z) e3
  refine ⟨b, xs, v, rfl, rfl, s1.h _ _ e2, by rw [← e5.length]; exact Nat.lt_of_le_of_lt hl (by decide), ?_⟩
  exact s.nx _ _ _ (a1.putA ei hg1 e4 ((e5.mono s1).append (allIs_cons.mpr ⟨v, [], rfl, i1, allIs_nil.mpr rfl⟩))) q1
def dAugA (i : Nat) (g : Int → Int → Int) (tk te : DTE) : DTS := fun D ρ => ∃ a ds, ρ[i]? = some (.arg a ds) ∧ tk ρ fun z => ∃ n m, z = .int n ∧ 0 ≤ n ∧ ds[n.toNat]? = some (.int m) ∧ te ρ fun d => ∃ y, d = .int y ∧ D.nx (ρ.set i (.arg a (ds.set n.toNat (.int (g m y)))))
theorem ixN_of {n : Int} {k : Nat} (h0 : 0 ≤ n) (h : n.toNat < k) : ixN k n = some n.toNat := by
  unfold ixN
  rw [if_pos h0, if_pos (by omega)]
theorem ds_augA (i : Nat) {op : Operator} {g : Int → Int → Int} (ho : PIp X op (ipI g)) (hk : DE X k tk) (h : DE X e te) (hN : X.N[i]? = some x := by rfl) (hv : Vis X.env.scope x := by first | exact Or.inl rfl | exact Or.inr (Or.inl rfl) | exact Or.inr (Or.inr rfl)) (hd : (x == ("__debug__" : Str)) = false := by decide)
    (hcd : (x == ("__classdict__" : Str)) = false := by decide)
    (ha : ∀ ov iv new, augStore k ov iv new = (do holding [new, ov, iv] (setItem ov iv new); release [new, ov, iv] []; pure .next) := by intros; rfl) :
    DSt X fr (.AugAssign (.Subscript (.Name x p0) k p1) op e pos) (dAugA i g tk te) := by
  obtain ⟨tt, p, l⟩ := h
  obtain ⟨tk', pk, lk⟩ := hk
  refine ⟨_, ps_augS (pe_var hN hv hd hcd) pk get_list p ho set_list ha, fun W0 G ρ σ W D D' at_ s h => ?_⟩
  obtain ⟨b, ds, ei, h⟩ := h
  obtain ⟨⟨xs, e1, e2, e3, e4, e5⟩, _, _⟩ := at_.rl.ar i b ds ei
  refine ⟨.ref b, e1, lk ρ σ W _ at_.rl h _ fun z v W1 s1 i1 ⟨n, m, ez, h0, hm, q1⟩ => ?_⟩
  subst ez
  obtain rfl := is_int.mp i1
  obtain ⟨u, hu, iu⟩ := e5.get hm
  obtain rfl := is_int.mp iu
  refine ⟨b, xs, n, .int m, rfl, rfl, h0, s1.h _ _ e2, hu, l ρ σ W1 _ (at_.rl.mono s1) q1 _ fun d v W2 s2 i2 ⟨y, ed, q2⟩ => ?_⟩
  subst ed
  have s12 := s1.trans s2
  have hg2 : W2.g b = none := s12.n b (by rw [e2]; intro z; cases z) e3
  have hl : n.toNat < xs.length := by
    rcases Nat.lt_or_ge n.toNat xs.length with z | z
    · exact z
    · rw [List.getElem?_eq_none z] at hu; cases hu
  refine ⟨m, y, rfl, is_int.mp i2, b, xs, n, n.toNat, rfl, rfl, s12.h _ _ e2, ixN_of h0 hl, ?_⟩
  exact s.nx _ _ _ ((at_.step s12).putA ei hg2 e4 ((e5.mono s12).set n.toNat (is_int.mpr rfl))) q2
def dExt (i : Nat) (te : DTE) : DTS := fun D ρ => ∃ ds, ρ[i]? = some (.own ds) ∧ te ρ fun d => ∃ es, d = .lst es ∧ ds.length + es.length ≤ 16000000 ∧ D.nx (ρ.set i (.own (ds ++ es)))
theorem ds_ext (i : Nat) (h : DE X e te) (hN : X.N[i]? = some x := by rfl) (hv : Vis X.env.scope x := by first | exact Or.inl rfl | exact Or.inr (Or.inl rfl) | exact Or.inr (Or.inr rfl)) (hd : (x == ("__debug__" : Str)) = false := by decide)
    (hcd : (x == ("__classdict__" : Str)) = false := by decide) (hst : starEach [e] X.env = (false, eval e X.env) :: starEach [] X.env := by rfl) (hpl : (backTo p2 (starEach [] X.env)).any (·.1) = false := by rfl)
    (hfew : ((backTo p2 (starEach [e] X.env)).all (fun x => !x.1) && (backToKw p2 (keywordEach [] X.env)).all (fun x => x.1.isSome)
      && decide ([e].length + ([] : List Keyword).length + (if ([] : List Keyword).isEmpty then 0 else 1) < 30)) = true := by rfl)
    (hbase : attributeBase (.Name x p0) "extend" X.env (eval (.Name x p0) X.env) = eval (.Name x p0) X.env := by rfl) (hline : (p1.endLine == p2.line) = true := by rfl)
    (hs : swapsWith (.Call (.Attribute (.Name x p0) "extend" p1) [e] [] p2) none pos.line X.env = pure false := by rfl) :
    DSt X fr (.Expr (.Call (.Attribute (.Name x p0) "extend" p1) [e] [] p2) pos) (dExt i te) := by
  obtain ⟨tt, p, l⟩ := h
  refine ⟨_, ps_expr (pe_bm PySem.F.plainAttrs_list PySem.F.slot_list_extend PySem.F.type_list_extend mt_extend (pe_var hN hv hd hcd) (pa_cons p pa_nil hst) hbase hfew hline hst hpl) hs, fun W0 G ρ σ W D D' at_ s h => ?_⟩
  obtain ⟨ds, ei, h⟩ := h
  obtain ⟨b, xs, e1, e2, e3, e4, e5⟩ := at_.rl.ow i ds ei
  refine ⟨.ref b, e1, .inl ⟨rfl, xs, .of e2⟩, l ρ σ W _ at_.rl h _ fun d v W1 s1 i1 ⟨es, ed, hl, q1⟩ => ?_⟩
  subst ed
  obtain ⟨c, zs, rfl, hc, ic⟩ := is_lst.mp i1
  have a1 := at_.step s1
  have hg1 : W1.g b = none := s1.n b (by rw [e2]; intro z; cases z) e3
  refine ⟨b, c, xs, zs, rfl, rfl, s1.h _ _ e2, W1.sub _ _ hc, by rw [← e5.length, ← ic.length]; exact Nat.le_trans hl (by decide), ?_⟩
  exact s.nx _ _ _ (a1.put ei e1 hg1 e4 ((e5.mono s1).append ic)) q1
def sc2D : Dt → Bool
  | .tup ds => ds.all scalD
  | d => scalD d
theorem scal_all {K : PySem.W.Frag} {G G' : Hp} : ∀ {ds : List Dt} {vs : List V}, ds.all scalD = true → AllIs K G ds vs → AllIs K G' ds vs
  | [], _, _, h => allIs_nil.mpr (allIs_nil.mp h)
  | d :: ds, _, z, h => by
    obtain ⟨x, r, rfl, h1, h2⟩ := allIs_cons.mp h
    rw [List.all_cons, Bool.and_eq_true] at z
    exact allIs_cons.mpr ⟨x, r, rfl, scal_is z.1 h1, scal_all z.2 h2⟩
def dBor2 (t : DTE) : DTE := fun ρ Q => t (ρ.map fz) fun d => sc2D d = true ∧ Q d
theorem de_bor2 (h : DE X e t) : DE X e (dBor2 t) := by
  obtain ⟨te, p, l⟩ := h
  refine ⟨te, p, fun ρ σ H Q r hq R k => ?_⟩
  obtain ⟨W', e, sg, r', gl⟩ := r.bor
  have := l (ρ.map fz) σ W' _ r' hq R fun d v H1 s1 i1 ⟨hs, q1⟩ => by
    obtain ⟨H2, e2, _, s2⟩ := bor_back e s1 sg
    cases d with
    | tup ds =>
      obtain ⟨p, xs, rfl, hp, ia⟩ := is_tup.mp i1
      have sub : Same (upd H.g p (.tup xs)) H1.h := fun b o q => by
        by_cases hb : b = p
        · subst hb; rw [upd_same] at q; rw [← Option.some.inj q]; exact H1.sub _ _ hp
        · rw [upd_ne hb] at q; exact H1.sub _ _ (s1.g _ _ (sg _ _ q))
      have le : Le H ⟨upd H.g p (.tup xs), H1.h, sub⟩ := ⟨fun b o q => by
          show upd H.g p (.tup xs) b = some o
          by_cases hb : b = p
          · subst hb
            rw [upd_same]
            have := s1.g _ _ (sg _ _ q)
            rw [hp] at this
            exact this
          · rw [upd_ne hb]; exact q, e ▸ s1.h, fun b z1 z2 => by
          show upd H.g p (.tup xs) b = none
          have hb : b ≠ p := fun hb => by
            subst hb
            cases hw : W'.g b with
            | none =>
              have := s1.n b (by rw [e]; exact z1) hw
              rw [hp] at this
              cases this
            | some o =>
              rcases gl b o hw with z | ⟨ys, rfl⟩
              · rw [z2] at z; cases z
              · have := s1.g _ _ hw
                rw [hp] at this
                cases this
          rw [upd_ne hb]; exact z2⟩
      exact k (.tup ds) (.ref p) ⟨upd H.g p (.tup xs), H1.h, sub⟩ le (is_tup.mpr ⟨p, xs, rfl, upd_same, scal_all hs ia⟩) q1
    | _ =>
      rw [← e2]
      first | (refine k _ v H2 s2 (scal_is ?_ i1) q1; exact hs) | cases hs
  rw [e] at this
  exact this
end
end OD

namespace OD
variable {Z : Hp}
open PySem PySem.Spec PyProof.Rows L2
section
variable {X : Cx} {tg : Expr}
variable {a b c : Expr} {ta : DTA} {p0 pos1 : Pos}
end
end OD

namespace L2
open PySem PySem.Spec PyProof.Rows
section
variable {X : Cx}
end
end L2
namespace OD
variable {Z : Hp}
open PySem PySem.Spec PyProof.Rows L2
abbrev DTB := Prop → (Addr → Prop) → DS → Prop
section
variable {X : Cx} {e : Expr} {es : List Expr} {t : DTA} {n : Nat} {x y m : Str} {j : Nat} {S : DSpX} {p pos py hpos epos tpos : Pos} {fr : Fr} {th : DTS} {c : Value} {b₀ : Stmt} {suite body : List Stmt} {d : DTB}
end
end OD

namespace OD
open PySem L2
variable {X : Cx} {e : Expr} {t : DTE}
end OD

namespace OD
open PySem L2 PyProof.Rows
section
variable {Z F : Hp} {K : PySem.W.Frag} {W W' W0 : Vw} {G : Hp} {ρ : DS} {σ : L2.St}
theorem snoc_get {α : Type} {l : List α} {x y : α} {i : Nat} (q : (l ++ [x])[i]? = some y) : l[i]? = some y ∨ (i = l.length ∧ x = y) := by
  rcases Nat.lt_trichotomy i l.length with h | h | h
  · rw [List.getElem?_append_left h] at q; exact .inl q
  · subst h
    rw [List.getElem?_append_right (Nat.le_refl _), Nat.sub_self] at q
    exact .inr ⟨rfl, Option.some.inj q⟩
  · rw [List.getElem?_eq_none (by rw [List.length_append]; show l.length + 1 ≤ i; omega)] at q
    cases q
theorem get_lt {α : Type} {l : List α} {y : α} {i : Nat} (q : l[i]? = some y) : i < l.length := by
  rcases Nat.lt_or_ge i l.length with h | h
  · exact h
  · rw [List.getElem?_eq_none h] at q; cases q
theorem snoc_lt {α : Type} {l : List α} {x y : α} {i : Nat} (q : l[i]? = some y) : (l ++ [x])[i]? = some y := by rw [List.getElem?_append_left (get_lt q)]; exact q
theorem snoc_ne {α : Type} {l : List α} {x : α} {i : Nat} (h : i < l.length) : (l ++ [x])[i]? = l[i]? := List.getElem?_append_left h
theorem Rl.push (r : Rl K Z F W ρ σ) : Rl K Z F W (ρ ++ [Sl.none]) (σ ++ [none]) := by
  have hs : ∀ i y, ρ[i]? = some y → (σ ++ [none])[i]? = σ[i]? := fun i y q => snoc_ne (by rw [← r.len]; exact get_lt q)
  have cl : ∀ i y, (ρ ++ [Sl.none])[i]? = some y → y ≠ Sl.none → ρ[i]? = some y := fun i y q hy => by
    rcases snoc_get q with q | ⟨_, e⟩
    · exact q
    · exact absurd e.symm hy
  refine ⟨by rw [List.length_append, List.length_append, r.len]; rfl, fun i d q => ?_, fun i ds q => ?_, fun i k ds es hik q1 q2 => ?_, r.fr, r.z, fun i c ds q => ?_⟩
  · have q := cl i _ q (fun z => nomatch z)
    rw [hs i _ q]; exact r.at_ i d q
  · have q := cl i _ q (fun z => nomatch z)
    rw [hs i _ q]; exact r.ow i ds q
  · have q1 := cl i _ q1 (fun z => nomatch z)
    have q2 := cl k _ q2 (fun z => nomatch z)
    rw [hs i _ q1, hs k _ q2]; exact r.ne i k ds es hik q1 q2
  · have q := cl i _ q (fun z => nomatch z)
    obtain ⟨⟨xs, h1, h2⟩, k1, k2⟩ := r.ar i c ds q
    refine ⟨⟨xs, by rw [hs i _ q]; exact h1, h2⟩, fun k es q' => ?_, fun k b es q' => k2 k b es (cl k _ q' (fun z => nomatch z))⟩
    have q' := cl k _ q' (fun z => nomatch z)
    rw [hs k _ q']; exact k1 k es q'
theorem Rl.snocOff {x : Sl} {o : Option V} (r : Rl K Z F W (ρ ++ [x]) (σ ++ [o])) : Rl K Z F W ρ σ := by
  have len : ρ.length = σ.length := by have := r.len; rw [List.length_append, List.length_append] at this; exact Nat.succ.inj this
  have hs : ∀ i y, ρ[i]? = some y → (σ ++ [o])[i]? = σ[i]? := fun i y q => snoc_ne (by rw [← len]; exact get_lt q)
  refine ⟨len, fun i d q => ?_, fun i ds q => ?_, fun i k ds es hik q1 q2 => ?_, r.fr, r.z, fun i c ds q => ?_⟩
  · rw [← hs i _ q]; exact r.at_ i d (snoc_lt q)
  · rw [← hs i _ q]; exact r.ow i ds (snoc_lt q)
  · rw [← hs i _ q1, ← hs k _ q2]; exact r.ne i k ds es hik (snoc_lt q1) (snoc_lt q2)
  · obtain ⟨⟨xs, h1, h2⟩, k1, k2⟩ := r.ar i c ds (snoc_lt q)
    exact ⟨⟨xs, by rw [← hs i _ q]; exact h1, h2⟩, fun k es q' => by rw [← hs k _ q']; exact k1 k es (snoc_lt q'), fun k b es q' => k2 k b es (snoc_lt q')⟩
theorem snoc_set {α : Type} {l : List α} {x y : α} {n : Nat} (h : n = l.length) : (l ++ [x]).set n y = l ++ [y] := by
  subst h
  rw [List.set_append_right _ _ (Nat.le_refl _), Nat.sub_self]; rfl
theorem snoc_at {α : Type} {l : List α} {x : α} {n : Nat} (h : n = l.length) : (l ++ [x])[n]? = some x := by
  subst h
  rw [List.getElem?_append_right (Nat.le_refl _), Nat.sub_self]; rfl
structure TAt (K : PySem.W.Frag) (Z : Hp) (W0 : Vw) (G : Hp) (W : Vw) (ρ : DS) (σ : L2.St) (i : Nat) (es : List Dt) (d : Dt) : Prop where
  ex : ∃ p q v, At K Z W0 G W (ρ ++ [.own es]) (σ ++ [some (.ref p)]) ∧ σ[i]? = some (some (.ref q)) ∧ W.g q = some (.tup [.ref p, v]) ∧ Is K W.g d v
variable {i : Nat} {es : List Dt} {d : Dt}
theorem TAt.step (t : TAt K Z W0 G W ρ σ i es d) (s : Le W W') : TAt K Z W0 G W' ρ σ i es d :=
  let ⟨p, q, v, a, h1, h2, h3⟩ := t.ex; ⟨p, q, v, a.step s, h1, s.g _ _ h2, h3.mono s⟩
theorem TAt.bor (t : TAt K Z W0 G W ρ σ i es d) : ∃ W' : Vw, W'.h = W.h ∧ Same W.g W'.g ∧ Rl K Z W0.h W' ((ρ.set i (.some (.tup [.lst es, d]))).map fz) σ := by
  obtain ⟨p, q, v, a, h1, h2, h3⟩ := t.ex
  have len : ρ.length = σ.length := by have := a.rl.len; rw [List.length_append, List.length_append] at this; exact Nat.succ.inj this
  obtain ⟨b, xs, e1, e2, e3, e4, e5⟩ := a.rl.ow ρ.length es (snoc_at rfl)
  rw [snoc_at len] at e1
  cases e1
  have r1 := a.rl.frz (snoc_at rfl) (snoc_at len) e2 e3 e5
  rw [snoc_set rfl] at r1
  have sg : Same W.g (W.frz p _ e2).g := same_new e3 _
  have r2 := r1.snocOff.set (d := .tup [.lst es, d]) (v := .ref q) i (is_tup.mpr ⟨q, _, rfl, sg _ _ h2, allIs_cons.mpr ⟨_, _, rfl, is_lst.mpr ⟨p, xs, rfl, upd_same, AllIs.mono0 sg e5⟩, allIs_cons.mpr ⟨v, _, rfl, Is.mono0 sg h3, allIs_nil.mpr rfl⟩⟩⟩)
  have es : σ.set i (some (.ref q)) = σ := by
    apply List.ext_getElem?
    intro j
    by_cases hj : i = j
    · subst hj; rw [List.getElem?_set_self (get_lt h1)]; exact h1.symm
    · rw [List.getElem?_set_ne hj]
  rw [es] at r2
  obtain ⟨W', f1, f2, f3, _⟩ := r2.bor
  exact ⟨W', f1, sg.trans f2, f3⟩
abbrev DTG := List Dt → Dt → DTS
end
section
variable {X : Cx} {fr : Fr} {st : Stmt} {rest : List Stmt} {t : DTE} {u : DTS} {ug : DTG} {e : Expr} {te : DTE} {pos p0 p1 p2 p3 pos' : Pos} {i j : Nat} {x y : Str}
end
end OD

namespace OD
open PySem L2
section
variable {js : List Nat} {ta te : DTE} {X : Cx} {e : Expr} {fr : Fr} {st : Stmt} {i : Nat}
theorem each_t {s : DS} {P R : Prop} : (dEach s fun b => if b = true then P else R) = P := by show (if true = true then P else R) = P; rw [if_pos rfl]
theorem one_t {e : Dt} {s : List Dt → DS} {P R : List Dt → Prop} (h : ∃ as, dOne e as ∧ dEach (s as) fun b => if b = true then P as else R as) : P [e] := by
  obtain ⟨as, z, h⟩ := h
  cases z
  exact each_t.mp h
theorem compR_eq : dCompR js ta te = dCompG js (dRng ta) dOne dEach te := funext fun ρ => funext fun Q => congrArg (ta ρ) (funext fun d => propext
  ⟨fun ⟨m, Pv, h1, h2, h3, h4, h5, h6⟩ => ⟨m, h1, h2, h3, Pv, h4, fun i e es hi he hp => ⟨_, rfl, each_t.mpr (he ▸ h5 i es hi hp)⟩, h6⟩,
   fun ⟨m, h1, h2, h3, Pv, h4, h5, h6⟩ => ⟨m, Pv, h1, h2, h3, h4, fun i es hi hp => one_t (h5 i _ es hi rfl hp), h6⟩⟩)
theorem compL_eq : dCompLC js ta te = dCompG js (dOver ta) dOne dEach te := funext fun ρ => funext fun Q => congrArg (ta ρ) (funext fun d => propext
  ⟨fun ⟨ds, Pv, h1, h3, h4, h5, h6⟩ => ⟨ds, h1, h3, Pv, h4, fun i e es _ he hp => ⟨_, rfl, each_t.mpr (h5 i e es he hp)⟩, h6⟩,
   fun ⟨ds, h1, h3, Pv, h4, h5, h6⟩ => ⟨ds, Pv, h1, h3, h4, fun i e es he hp => one_t (h5 i e es (get_lt he) he hp), h6⟩⟩)
theorem cgF_R (h : DF X e (dCompG js (dRng ta) dOne dEach te)) : DF X e (dCompR js ta te) := compR_eq ▸ h
theorem cgF_L (h : DF X e (dCompG js (dOver ta) dOne dEach te)) : DF X e (dCompLC js ta te) := compL_eq ▸ h
end
end OD

namespace L2
open PySem PySem.Spec PyProof.Rows
section
variable {X : Cx} {o e : Expr} {es : List Expr} {n : Nat} {m x : Str} {pos p apos py epos : Pos} {i : Nat}
end
end L2
namespace OD
variable {Z : Hp}
open PySem PySem.Spec PyProof.Rows L2
structure MOkX (P : Program) (w : World) (K : PySem.W.Frag) (mg : Str → Option Value) (base : Heap) (n : Nat) (C : Addr) (m : Str) (S : DSpX) : Prop where
  cl : Cls K C
  ex : ∃ f fd ps, Meth K C m f ∧ Binds K fd ps [] ∧ FnOk P w K mg base (CX1 P w) n f fd ps (PureSpX K S)
theorem MOkX.mono {P : Program} {w : World} {K : PySem.W.Frag} {mg : Str → Option Value} {base : Heap} {C : Addr} {x : Str} {m n : Nat} {S : DSpX} (h : MOkX P w K mg base m C x S) (hl : m ≤ n) : MOkX P w K mg base n C x S :=
  let ⟨f, fd, ps, a, b, c⟩ := h.ex; ⟨h.cl, f, fd, ps, a, b, c.mono hl⟩
abbrev DTC := (DS → Prop) → (Addr → Prop) → DS → Prop
section
variable {X : Cx} {o e : Expr} {es : List Expr} {t : DTA} {ta : DTE} {n : Nat} {x y m z : Str} {i j : Nat} {S : DSpX} {p pos py hpos epos tpos apos : Pos} {fr : Fr} {th : DTS} {c : Value} {b₀ : Stmt} {suite body : List Stmt} {d : DTC}
end
end OD

namespace OD
variable {Z : Hp}
open PySem PySem.Spec PyProof.Rows L2
section
variable {X : Cx} {a b : Expr} {ta : DTA} {te : DTE} {p0 pos pos1 tpos : Pos} {elts : List Expr} {x1 : Nat}
end
end OD

namespace OD
open PySem L2 PyProof.Rows
def MvSp (K : PySem.W.Frag) (S : DSp) : Sp := fun vs H Q _ => ∃ (W : Vw) (d0 : Dt) (es0 ds : List Dt) (Qd : Dt → Prop) (v0 : V) (a : Addr) (xs vs' : List V) (hg : W.g a = none), W.h = H ∧ vs = v0 :: .ref a :: vs' ∧ W.h a = some (.lst xs) ∧ Is K W.g d0 v0 ∧ AllIs K W.g es0 xs ∧ AllIs K W.g ds vs' ∧ S (d0 :: .lst es0 :: ds) Qd ∧
  ∀ es p ys W', Le (W.del a hg) W' → (W.del a hg).h p = none → W'.h p = some (.lst ys) → W'.g p = none → AllIs K W'.g es ys → Qd (.lst es) → Q (.ref p) W'.h
structure VOk (P : Program) (w : World) (K : PySem.W.Frag) (mg : Str → Option Value) (base : Heap) (n : Nat) (x : Str) (S : DSp) : Prop where
  ex : ∃ f fd ps, mg x = some (.ref f) ∧ PySem.W.keepIn K (.ref f) = true ∧ Binds K fd ps [] ∧ FnOk P w K mg base CX0 n f fd ps (MvSp K S)
section
variable {P : Program} {w : World} {K : PySem.W.Frag} {mg : Str → Option Value} {base : Heap}
theorem VOk.mk' {x qual : Str} {st : Stmt} {f : Addr} {fd : FuncData} {ps : List Str} {n : Nat} {S : DSp} (F : Fun K x qual st f fd) (hm : mg x = some (.ref f)) (hb : Binds K fd ps []) (h : FnOk P w K mg base CX0 n f fd ps (MvSp K S)) : VOk P w K mg base n x S :=
  ⟨f, fd, ps, hm, F.kp, hb, h⟩
end
section
variable {X : Cx} {e0 e1 : Expr} {es : List Expr} {t tf : DTE} {ta : DTA} {n : Nat} {x : Str} {S : DSp} {p pos : Pos}
end
end OD

namespace L2
open PySem PySem.Spec PyProof.Rows
section
variable {X : Cx} {a b : Expr} {ta tb : TE} {x1 x2 : Str} {p1 p2 p3 p4 pos : Pos}
end
end L2
namespace OD
open PySem PySem.Spec PyProof.Rows L2
section
variable {X : Cx} {a b : Expr} {ta tb : DTE} {x1 x2 : Str} {p1 p2 p3 p4 pos : Pos}
end
section
variable {X : Cx} {e : Expr} {es : List Expr} {t : DTA} {n : Nat} {x : Str} {p pos : Pos}
end
section
variable {P : Program} {w : World} {K : PySem.W.Frag} {mg : Str → Option Value} {base : Heap}
end
end OD

namespace OD
variable {Z : Hp}
open PySem PySem.Spec PyProof.Rows L2
def It3 (lo : Int) (n : Nat) : It := ⟨fun i _ => i < n, fun i H x H' => H' = H ∧ x = .int (lo + 3 * i), fun i _ => n ≤ i⟩
theorem turn_three {P : Program} {w : World} {K : PySem.W.Frag} {tg : Expr} (it : Addr) (lo : Int) (n : Nat) : Turn P w K tg (It3 lo n) [it] it (fun i h => IsRangeIter h it (lo + (i : Nat) * 3) ((n : Int) - (i : Nat)) 3) where
  mem := by simp
  obj := fun i h st b hb => by
    have e : b = it := by simpa using hb
    subst e
    exact ⟨_, st, fun v z => by
      have z' : Data.fields _ = Data.cell v := z
      cases z'⟩
  keep := fun i h h' st k => k it (by simp) _ st
  item := by
    intro X hP hw hK hc i pins s σ H E I hf st hg
    subst hP hw hK
    obtain ⟨f0, f1, f2, f3, f4, f5⟩ := hf it (by simp)
    have W := Walks.range (prog := X.prog) (w := X.w) (I.ok.hd hc) it lo 3 n
    refine W.item i s _ _ hg st fun v h' tk hv st' kk => ?_
    obtain ⟨t, rfl⟩ := hv
    have I1 : Inv X pins σ H { s with heap := h', toks := tk } := I.turned (fun b o hb e => kk b o (by simpa using hb) e) f0 f1 f3 f4 f5
    refine ⟨_, rfl, go_of (s := { s with heap := h', toks := tk }) (n := "range_iterator") st' rfl rfl (by decide) ⟨.int (lo + 3 * i), H, I1, ⟨t, ?_⟩, ⟨rfl, rfl⟩, st', fun b hb => (hf b hb).1⟩⟩
    rw [show lo + (i : Int) * 3 = lo + 3 * i by omega]
  done := by
    intro X hP hw hK hc i pins s σ H E I hf st hg
    subst hP hw hK
    obtain ⟨f0, f1, f2, f3, f4, f5⟩ := hf it (by simp)
    exact wpAny_pyNext_range_end (I.ok.hd hc) st (by have : n ≤ i := hg; omega) fun h' eb => ⟨rfl, I.turned (t' := s.toks) (fun b o hb e => eb b o hb e) f0 f1 f3 f4 f5⟩
  self := fun _ _ _ _ _ st h => wpAny_pyIter_rangeiter st h
theorem rangeSize_three (a b : Int) : Builtin.Range.rangeSize a b 3 = if a < b then (b - a - 1) / 3 + 1 else 0 := by
  unfold Builtin.Range.rangeSize
  rw [if_pos (by decide)]
theorem small_three {a b : Int} (ha : -(2 ^ 30) ≤ a) (ha' : a < 2 ^ 30) (hb : -(2 ^ 30) ≤ b) (hb' : b < 2 ^ 30) : Builtin.Range.small a b 3 = true := by
  unfold Builtin.Range.small
  rw [rangeSize_three]
  simp only [Builtin.Range.rangeFitsLong, Bool.and_eq_true, Bool.or_eq_true, decide_eq_true_eq, beq_iff_eq, show (3 : Int) > 0 by decide, if_true]
  split <;> omega
section
variable {X : Cx} {tg : Expr}
def iThree (ta : TA) : TI := fun σ H R => ta σ H fun vs H1 => ∃ i j : Int, vs = [.int i, .int j, .int 3] ∧ (-(2 ^ 30) ≤ i ∧ i < 2 ^ 30 ∧ -(2 ^ 30) ≤ j ∧ j < 2 ^ 30) ∧ R (It3 i ((j - i + 2) / 3).toNat) H1
theorem pi_three {a b c : Expr} {ta : TA} {p pos : Pos} (hg : Gl X "range") (hm : X.mg "range" = none) (ha : PA X [a, b, c] ta) (hs : starEach [a, b, c] X.env = (false, eval a X.env) :: starEach [b, c] X.env := by rfl)
    (hpl : (backTo pos (starEach [b, c] X.env)).any (·.1) = false := by rfl) : PI X tg (.Call (.Name "range" p) [a, b, c] [] pos) (iThree ta) := by
  intro pins s σ H R I h
  refine Call_ (ld_blt I hg hm boot_range (PyProof.Rows.callWith_type1 (thn (ha pos pins s σ H _ I h) fun us s1 ⟨vs, H1, I1, r1, q1⟩ => ?_) hs hpl))
  obtain ⟨i, j, e, ⟨q1, q2, q3, q4⟩, q⟩ := q1
  subst e
  cases r1 with
  | cons r rr =>
  cases rr with
  | cons r' rr =>
  cases rr with
  | cons r'' rr =>
    cases rr
    obtain ⟨t, rfl⟩ := r
    obtain ⟨t', rfl⟩ := r'
    obtain ⟨t'', rfl⟩ := r''
    refine call_range_3 (by decide) ?_ (Or.inl (PyProof.noPylong_small (by omega)))
    refine wpAny_pyIter_range (IsRange.new ..) (small_three (by omega) (by omega) (by omega) (by omega)) ?_
    have I2 : Inv X pins σ H1 { s1 with heap := s1.heap.push { cls := .type "range", data := .fields #[.int i t, .int j t', .int 3 t''] }, toks := s1.toks } := I1.kept fun b o e => Heap.get?_push_of_some _ e
    refine ⟨(s1.heap.push { cls := .type "range", data := .fields #[.int i t, .int j t', .int 3 t''] }).objs.size, [(s1.heap.push { cls := .type "range", data := .fields #[.int i t, .int j t', .int 3 t''] }).objs.size], _, _, H1, rfl,
      I2.kept (t' := s1.toks) fun b o e => Heap.get?_push_of_some _ e, turn_three _ i ((j - i + 2) / 3).toNat, ?_, fun b hb => ?_, q⟩
    · have e1 : i + ((0 : Nat) : Int) * 3 = i := by simp
      have e2 : ((((j - i + 2) / 3).toNat : Nat) : Int) - ((0 : Nat) : Int) = Builtin.Range.rangeSize i j 3 := by rw [rangeSize_three]; split <;> omega
      show IsRangeIter _ _ (i + ((0 : Nat) : Int) * 3) (((((j - i + 2) / 3).toNat : Nat) : Int) - ((0 : Nat) : Int)) 3
      rw [e1, e2]
      exact Heap.get?_push_size _ rfl
    · have e : b = (s1.heap.push { cls := .type "range", data := .fields #[.int i t, .int j t', .int 3 t''] }).objs.size := by simpa using hb
      subst e
      exact I2.fpOk (Nat.le_refl _) (I2.hok.fresh (Nat.le_refl _))
variable {a b c : Expr} {ta : DTA} {p0 pos1 : Pos}
def dRng3 (ta : DTA) : DTI := fun ρ Q => ta ρ fun ds => ∃ m n : Int, ds = [.int m, .int n, .int 3] ∧ -1000 ≤ m ∧ m ≤ 1000 ∧ -1000 ≤ n ∧ n ≤ 100000 ∧ Q ((n - m + 2) / 3).toNat fun i e => e = .int (m + 3 * i)
theorem di_range3 (hg : Gl X "range") (hm : X.mg "range" = none) (h : DA X [a, b, c] ta) (hst : starEach [a, b, c] X.env = (false, eval a X.env) :: starEach [b, c] X.env := by rfl) (hpl : (backTo pos1 (starEach [b, c] X.env)).any (·.1) = false := by rfl) : DI X tg (.Call (.Name "range" p0) [a, b, c] [] pos1) (dRng3 ta) := by
  obtain ⟨te, p, l⟩ := h
  refine ⟨_, pi_three hg hm p hst hpl, fun ρ σ W Q r h R k => l ρ σ W _ r h _ fun ds vs W1 s1 i1 ⟨m, n, ed, m1, m2, n1, n2, q⟩ => ?_⟩
  subst ed
  obtain ⟨v1, v2, v3, rfl, j1, j2, j3⟩ := i1.three
  refine ⟨m, n, by rw [is_int.mp j1, is_int.mp j2, is_int.mp j3], ⟨by omega, by omega, by omega, by omega⟩, k _ _ (fun i e => e = .int (m + 3 * i)) W1 s1 (by omega) (fun W2 s2 => ⟨fun i hi => ⟨hi, fun v H3 ⟨e1, e2⟩ => ⟨W2, Le.refl _, e1.symm, .int (m + 3 * i), rfl, is_int.mpr e2⟩⟩, Nat.le_refl _⟩) q⟩
end
end OD
namespace L2
open PySem PySem.Spec PyProof.Rows
section
variable {prog : Program} {w : World} {A : Around} {E : Value → Shared → Prop} {s : Shared}
theorem draw_lst {it l : Addr} {items : Array Value} (hne : l ≠ it) : ∀ (n i : Nat) (s : Shared) (Q : List Value → Shared → Prop), s.heap.IsListIter it l i → s.heap.IsList l items → i + n ≤ items.size →
    (∀ h', Heap.IsListIter h' it l (i + n) → Heap.SameBut it s.heap h' → Q ((items.toList.drop i).take n) { s with heap := h' }) → wpAny (model prog w) A (draw (.ref it) n) Q E s
  | 0, i, s, Q, hit, _, _, hQ => by
    show wpAny _ _ (pure []) Q E s
    exact wpAny_pure (by simpa using hQ s.heap hit (Heap.SameBut.refl ..))
  | n + 1, i, s, Q, hit, ht, hle, hQ => by
    have hlt : i < items.size := by omega
    show wpAny _ _ (pyNext (.ref it) >>= _) Q E s
    refine wpAny_bind (wpAny_pyNext_list_item hit ht (x := items[i]) (by simp [hlt]) fun h₁ hit₁ hs₁ => ?_)
    refine wpAny_bind (wpAny_holding (draw_lst hne n (i + 1) _ _ hit₁ (ht.extBut hs₁.extBut hne) (by omega) fun h₂ hit₂ hs₂ => wpAny_pure ?_))
    have hd : items.toList.drop i = items[i] :: items.toList.drop (i + 1) := by simp [List.drop_eq_getElem_cons, hlt]
    have := hQ h₂ (by rw [show i + (n + 1) = i + 1 + n by omega]; exact hit₂) (hs₁.trans hs₂)
    rw [hd, List.take_succ_cons] at this
    exact this
theorem unpack_lst {l : Addr} {items : Array Value} {targets : List (Bool × (Value → Sem Unit))} {Q : Unit → Shared → Prop} (hh : A.handled = none) (ht : s.heap.IsList l items)
    (hn : targets.length = items.size) (hstar : targets.findIdx? (·.1) = none)
    (h : ∀ h', Heap.ExtBut s.heap.objs.size s.heap h' → wpAny (model prog w) A (assignInOrder (targets.map (·.2)) items.toList) Q E { s with heap := h' }) :
    wpAny (model prog w) A (unpack (.ref l) targets) Q E s := by
  have hlt : l ≠ s.heap.objs.size := by obtain ⟨o, ho, _⟩ := ht; exact Nat.ne_of_lt (Heap.lt_size ho)
  unfold unpack
  rw [hn, hstar]
  refine wpAny_bind (wpAny_holding ?_)
  unfold unpackItems
  refine wpAny_bind ?_
  unfold notIterableAtAll
  refine wpAny_bind (wpAny_specialOf ht.typeIs PySem.slot_list_iter.lookup ?_)
  refine wpAny_pure ?_
  simp only [Bool.false_eq_true, if_false]
  refine wpAny_bind (wpAny_holding (wpAny_pyIter_list ht ?_))
  refine wpAny_bind (wpAny_holding (draw_lst hlt items.size 0 _ _ ⟨_, Heap.get?_push_size _ rfl, rfl, rfl⟩ (ht.push _) (by omega) fun h₁ hit₁ hs₁ => ?_))
  have hall : List.take items.size (List.drop 0 items.toList) = items.toList := by
    rw [List.drop_zero]; exact List.take_of_length_le (by simp)
  rw [hall]
  rw [if_neg (by simp)]
  have ht₁ : Heap.IsList h₁ l items := (ht.push _).extBut hs₁.extBut hlt
  refine wpAny_bind (wpAny_holding (wpAny_pyNext_list_end hh hit₁ ht₁ (by simp) fun h₂ he₂ => ?_))
  simp only [Option.isSome_none, Bool.false_eq_true, if_false]
  exact wpAny_pure (h h₂ fun b o hb e => he₂ b o hb (hs₁.extBut b o hb (Heap.get?_push_of_some _ e)))
end
section
variable {X : Cx} {pos : Pos}
def gLst (K : PySem.W.Frag) (n : Nat) (t : TGs) : TG := fun v σ H Q => ∃ a xs, v = .ref a ∧ SqL K H a xs ∧ xs.length = n ∧ t xs σ H Q
theorem pg_lst {es : List Expr} {k : Nat} {t : TGs} {n : Nat} (hc : X.calm = true) (h : PGs X es t)
    (hn : (assignEach es X.env).length = n := by rfl) (hst : (assignEach es X.env).findIdx? (·.1) = none := by rfl) : PG X (.Tuple es k pos) (gLst X.K n t) := by
  intro pins s σ H v u Q I r hw
  obtain ⟨a, xs, e1, hq, hl, hw⟩ := hw
  subst e1
  cases r
  obtain ⟨its, rv, pl, hz⟩ := I.list hq
  rw [assign_Tuple]
  refine wpAny_bind (wpAny_standAt (unpack_lst (I.ok.hd hc) pl.isList (by simp [hn, ← hl, rv.length]) hst fun h' hx => ?_))
  have I1 : Inv X pins σ H { s with heap := h' } := I.kept (t' := s.toks) fun b o e => hx b o (Nat.ne_of_lt (Heap.lt_size e)) e
  exact h pins _ σ H xs _ Q I1 (by simpa using rv) hw
end
end L2
namespace OD
open PySem PySem.Spec PyProof.Rows L2
section
variable {X : Cx} {fr : Fr} {e : Expr} {te : DTE} {pos : Pos}
def dUnp3 (i j m : Nat) (te : DTE) : DTS := fun D ρ => te ρ fun d => ∃ a b c, d = .lst [a, b, c] ∧ D.nx (((ρ.set i (.some a)).set j (.some b)).set m (.some c))
theorem ds_unp3 {i j m : Nat} {x y z : Str} {px py pz pt : Pos} {kt : Nat} (hc : X.calm = true) (hN : X.N.Nodup) (hi : X.N[i]? = some x) (hj : X.N[j]? = some y) (hm : X.N[m]? = some z) (hx : Loc X.env.scope x) (hy : Loc X.env.scope y) (hz : Loc X.env.scope z) (h : DE X e te)
    (hf : X.fn x = true ∨ X.env.scope.names.lookup x = some .local := by first | exact .inl rfl | exact .inr rfl | assumption) (hf2 : X.fn y = true ∨ X.env.scope.names.lookup y = some .local := by first | exact .inl rfl | exact .inr rfl | assumption) (hf3 : X.fn z = true ∨ X.env.scope.names.lookup z = some .local := by first | exact .inl rfl | exact .inr rfl | assumption)
    (hs : swapsWithSole [.Tuple [.Name x px, .Name y py, .Name z pz] kt pt] e pos.line X.env = pure false := by rfl) (hw : swappedStores [.Tuple [.Name x px, .Name y py, .Name z pz] kt pt] e X.env = pure none := by rfl) :
    DSt X fr (.Assign [.Tuple [.Name x px, .Name y py, .Name z pz] kt pt] e pos) (dUnp3 i j m te) := by
  obtain ⟨tt, p, l⟩ := h
  refine ⟨_, ps_asg p (pg_lst hc (pgs_cons (pg_name hN hi hx hf) (pgs_cons (pg_name hN hj hy hf2) (pgs_cons (pg_name hN hm hz hf3) pgs_nil)))) hs hw, fun W0 G ρ σ W D D' at_ s h => l ρ σ W _ at_.rl h _ fun d v W1 s1 i1 ⟨a, b, c, ed, q1⟩ => ?_⟩
  subst ed
  obtain ⟨q, xs, rfl, hq, ha⟩ := is_lst.mp i1
  obtain ⟨v1, v2, v3, rfl, h1, h2, h3⟩ := ha.three
  refine ⟨q, _, rfl, .of (W1.sub _ _ hq), rfl, v1, [v2, v3], rfl, v2, [v3], rfl, v3, [], rfl, rfl, ?_⟩
  exact s.nx _ _ W1 ((((at_.step s1).set i h1).set j h2).set m h3) q1
end
end OD

namespace My
open PySem L2 OD

local macro_rules | `(tactic| walk_at "sc") => `(tactic| exact ⟨rfl, rfl, rfl, by decide +kernel, rfl, by decide +kernel, by decide +kernel⟩)
local macro_rules | `(tactic| walk_at "ln") => `(tactic| (intros; rename_i h; repeat (first | (obtain ⟨e, _⟩ := h; subst e; rfl) | obtain ⟨_, h⟩ := h)))
local macro_rules | `(tactic| walk_at "rd1") => `(tactic| first | refine ⟨_, rfl, ?_⟩ | refine ⟨_, _, rfl, rfl, ?_⟩ | refine ⟨_, _, _, _, rfl, rfl, rfl, ?_⟩ | refine ⟨_, _, _, rfl, rfl, rfl, ?_⟩ | refine iteT ?_ | refine iteF ?_ | refine ⟨rfl, rfl, ?_⟩ | refine ⟨rfl, ?_⟩ | refine ⟨cdivN (by decide), ?_⟩ | refine ⟨cmodN (by decide), ?_⟩ | refine ⟨cpowN (by decide), ?_⟩ | refine ⟨mulR (by decide), ?_⟩ | refine ⟨mulL (by decide), ?_⟩ | refine ⟨_, _, rfl, ?_⟩)
local macro_rules | `(tactic| walk_at "rd") => `(tactic| repeat (walk_at "rd1"))
theorem ifT {b : Bool} {A B : Prop} (e : b = true) (h : A) : if b = true then A else B := by rw [if_pos e]; exact h
theorem ifF {b : Bool} {A B : Prop} (e : b = false) (h : B) : if b = true then A else B := by rw [if_neg (by rw [e]; exact Bool.false_ne_true)]; exact h
theorem ifB {b : Bool} {A B : Prop} (h1 : b = true → A) (h2 : b = false → B) : if b = true then A else B := by
  cases b with
  | true => exact ifT rfl (h1 rfl)
  | false => exact ifF rfl (h2 rfl)
theorem eqI {a b : Int} (h : a = b) : eqD (.int a) (.int b) = true := by rw [eqD_int]; exact beq_iff_eq.mpr h
theorem neI {a b : Int} (h : a ≠ b) : eqD (.int a) (.int b) = false := by rw [eqD_int]; exact beq_eq_false_iff_ne.mpr h
theorem of_eqI {a b : Int} (h : eqD (.int a) (.int b) = true) : a = b := by rw [eqD_int] at h; exact beq_iff_eq.mp h
theorem of_neI {a b : Int} (h : eqD (.int a) (.int b) = false) : a ≠ b := by rw [eqD_int] at h; exact beq_eq_false_iff_ne.mp h
theorem nT {b : Bool} (h : b = true) : (!b) = false := by rw [h]; rfl
def rowD (ns : List Int) : Dt := .lst (ns.map Dt.int)
def trim (ns : List Int) : List Int := (ns.reverse.dropWhile (· == 0)).reverse
def S_cell : DSp := fun ds Q => ∃ ns k, ds = [.scr ns, .int k] ∧ 0 ≤ k ∧ ∀ z : Int, Q (.int z)
def S_law : DSp := fun ds Q => ∃ ns : List Int, ds = [.scr ns] ∧ ns.length ≤ 63 ∧ Q (.bl true)
theorem atI_row {xs : List Int} {k : Int} (h0 : 0 ≤ k) (h : k < xs.length) : atI (xs.map Dt.int) k = some (.int (xs.getD k.toNat 0)) := by
  have e : ((k.toNat : Nat) : Int) = k := Int.toNat_of_nonneg h0
  have hl : k.toNat < xs.length := by omega
  have := atI_nat (j := k.toNat) (xs := xs.map Dt.int) (v := .int (xs.getD k.toNat 0)) (by
    rw [List.getElem?_map, List.getElem?_eq_getElem hl, List.getD_eq_getElem?_getD, List.getElem?_eq_getElem hl]
    rfl)
  rwa [e] at this
theorem row_at {ns : List Int} {i : Nat} (h : i < ns.length) : atI (ns.map Dt.int) (i : Int) = some (.int (ns.getD i 0)) := by
  refine atI_nat ?_
  rw [List.getElem?_map, List.getElem?_eq_getElem h, List.getD_eq_getElem?_getD, List.getElem?_eq_getElem h]
  rfl
theorem ixN_nat {n : Nat} {k : Int} (h0 : 0 ≤ k) (h : k < n) : ixN n k = some k.toNat := by
  unfold ixN
  rw [if_pos h0, if_pos h]
theorem ixN_neg1 {n : Nat} (h : 0 < n) : ixN n (-1) = some (n - 1) := by
  unfold ixN
  rw [if_neg (by decide), if_pos (by omega)]
  congr 1
  omega
theorem atI_last {xs : List Int} {z : Int} : atI ((xs ++ [z]).map Dt.int) (-1) = some (.int z) := by
  unfold atI
  rw [ixN_neg1 (by rw [List.length_map, List.length_append]; exact Nat.succ_pos _)]
  show ((xs ++ [z]).map Dt.int)[((xs ++ [z]).map Dt.int).length - 1]? = _
  rw [List.length_map, List.length_append, List.map_append, List.getElem?_append_right (by rw [List.length_map]; exact Nat.le_of_eq (Nat.add_sub_cancel ..).symm)]
  rw [List.length_map, show xs.length + [z].length - 1 - xs.length = 0 by simp]
  rfl
theorem all_ok {ns : List Int} {n : Nat} : (ns.map Dt.int).all (okE n) = true := by
  rw [List.all_eq_true]
  intro x hx
  obtain ⟨z, _, e⟩ := List.mem_map.mp hx
  subst e
  cases n <;> rfl
theorem okE_row (ns : List Int) : okE 40 (rowD ns) = true := all_ok (n := 39)
theorem okE_row9 (ns : List Int) : okE 39 (rowD ns) = true := all_ok (n := 38)
theorem eq_row (ns : List Int) : eqD (rowD ns) (rowD ns) = true := eqD_self 40 (okE_row ns)
theorem cut_ints (ms : List Int) (lo hi : Option Int) : ∃ ms' : List Int, cutD (ms.map Dt.int) lo hi = ms'.map Dt.int ∧ ms'.length ≤ ms.length ∧ ∀ z ∈ ms', z ∈ ms := by
  unfold cutD
  rw [← List.map_drop, ← List.map_take]
  refine ⟨_, rfl, ?_, fun t ht => List.mem_of_mem_drop (List.mem_of_mem_take ht)⟩
  rw [List.length_take, List.length_drop]
  omega
theorem get_ints {ns : List Int} {i : Nat} {x : Dt} (h : (ns.map Dt.int)[i]? = some x) : x = .int (ns.getD i 0) ∧ i < ns.length := by
  rw [List.getElem?_map] at h
  cases q : ns[i]? with
  | none => rw [q] at h; cases h
  | some z =>
    rw [q] at h
    have hl : i < ns.length := by
      rcases Nat.lt_or_ge i ns.length with h | h
      · exact h
      · rw [List.getElem?_eq_none h] at q; cases q
    rw [List.getD_eq_getElem?_getD, q]
    exact ⟨(Option.some.inj h).symm, hl⟩
theorem rep_ints (k : Nat) (z : Int) : (List.replicate k [Dt.int z]).flatten = (List.replicate k z).map Dt.int := by
  induction k with
  | zero => rfl
  | succ k ih => rw [List.replicate_succ, List.flatten_cons, ih]; rfl
theorem app_ints (xs : List Int) (z : Int) : xs.map Dt.int ++ [.int z] = (xs ++ [z]).map Dt.int := by rw [List.map_append]; rfl
theorem set_ints (xs : List Int) (j : Nat) (z : Int) : (xs.map Dt.int).set j (.int z) = (xs.set j z).map Dt.int := by rw [List.map_set]
theorem drop_ints (xs : List Int) : (xs.map Dt.int).dropLast = xs.dropLast.map Dt.int := by rw [List.map_dropLast]
theorem len_ints (xs : List Int) : (xs.map Dt.int).length = xs.length := List.length_map _
theorem trim_nil : trim [] = [] := rfl
theorem trim_zero (xs : List Int) : trim (xs ++ [0]) = trim xs := by
  unfold trim
  rw [List.reverse_append]
  rfl
theorem trim_ne {xs : List Int} {z : Int} (h : z ≠ 0) : trim (xs ++ [z]) = xs ++ [z] := by
  unfold trim
  rw [List.reverse_append]
  show (List.dropWhile _ (z :: xs.reverse)).reverse = _
  rw [List.dropWhile_cons, if_neg (by simpa using h), List.reverse_cons, List.reverse_reverse]
theorem snoc_cases (xs : List Int) : xs = [] ∨ ∃ l z, xs = l ++ [z] := by
  rcases List.eq_nil_or_concat xs with h | ⟨l, z, h⟩
  · exact .inl h
  · exact .inr ⟨l, z, by rw [h, List.concat_eq_append]⟩
theorem trim_len (xs : List Int) : (trim xs).length ≤ xs.length := by
  unfold trim
  rw [List.length_reverse]
  refine Nat.le_trans (List.dropWhile_sublist _).length_le ?_
  rw [List.length_reverse]
  exact Nat.le_refl _
theorem while_trim {i : Nat} {D : DEnds} {ρ : DS} {ms : List Int} (hi : ρ[i]? = some (.own (ms.map Dt.int))) (q : D.nx (ρ.set i (.own ((trim ms).map Dt.int)))) :
    dWhile (dAnd (dTest (dOp (gI fun i j => Dt.bl (decide (j < i))) (dLenO i) (dC (Dt.int 0)))) (dTest (dOp gEq (dIxO i (dNeg (dC (Dt.int 1)))) (dC (Dt.int 0))))) (dPop i) D ρ := by
  have hl : i < ρ.length := by
    rcases Nat.lt_or_ge i ρ.length with h | h
    · exact h
    · rw [List.getElem?_eq_none h] at hi; cases hi
  refine ⟨fun m ρ' => ∃ l : List Int, ρ' = ρ.set i (.own (l.map Dt.int)) ∧ l.length = m ∧ trim l = trim ms, ⟨_, ms, ?_, rfl, rfl⟩, ?_⟩
  · apply List.ext_getElem?
    intro j
    by_cases hj : i = j
    · subst hj; rw [List.getElem?_set_self hl]; exact hi
    · rw [List.getElem?_set_ne hj]
  · rintro m ρ' ⟨l, rfl, rfl, ht⟩
    have hg : (ρ.set i (.own (l.map Dt.int)))[i]? = some (.own (l.map Dt.int)) := List.getElem?_set_self hl
    refine ⟨_, hg, _, _, rfl, rfl, _, rfl, ?_⟩
    rcases snoc_cases l with rfl | ⟨l', z, rfl⟩
    · refine ifF rfl (ifF rfl ?_)
      rw [← ht, trim_nil] at q
      exact q
    · refine ifT (by rw [decide_eq_true_iff, List.length_map, List.length_append]; simp) ?_
      refine ⟨_, hg, _, rfl, _, _, rfl, atI_last, rfl, rfl, _, rfl, ?_⟩
      by_cases hz : z = 0
      · refine ifT (eqI hz) ?_
        subst hz
        refine ⟨_, hg, by simp, l'.length, by rw [List.length_append]; exact Nat.lt_succ_self _, l', ?_, rfl, ?_⟩
        · rw [drop_ints, List.dropLast_concat, List.set_set]
        · rw [← ht, trim_zero]
      · refine ifF (neI hz) ?_
        rw [← ht, trim_ne hz] at q
        exact q
theorem while_trim2 {i : Nat} {D : DEnds} {ρ : DS} {ms : List Int} (hi : ρ[i]? = some (.own (ms.map Dt.int))) (q : D.nx (ρ.set i (.own ((trim ms).map Dt.int)))) :
    dWhile (dAnd (dTruO i) (dTest (dOp gEq (dIxO i (dNeg (dC (Dt.int 1)))) (dC (Dt.int 0))))) (dPop i) D ρ := by
  have hl : i < ρ.length := by
    rcases Nat.lt_or_ge i ρ.length with h | h
    · exact h
    · rw [List.getElem?_eq_none h] at hi; cases hi
  refine ⟨fun m ρ' => ∃ l : List Int, ρ' = ρ.set i (.own (l.map Dt.int)) ∧ l.length = m ∧ trim l = trim ms, ⟨_, ms, ?_, rfl, rfl⟩, ?_⟩
  · apply List.ext_getElem?
    intro j
    by_cases hj : i = j
    · subst hj; rw [List.getElem?_set_self hl]; exact hi
    · rw [List.getElem?_set_ne hj]
  · rintro m ρ' ⟨l, rfl, rfl, ht⟩
    have hg : (ρ.set i (.own (l.map Dt.int)))[i]? = some (.own (l.map Dt.int)) := List.getElem?_set_self hl
    refine ⟨_, hg, ?_⟩
    rcases snoc_cases l with rfl | ⟨l', z, rfl⟩
    · refine ifF rfl (ifF rfl ?_)
      rw [← ht, trim_nil] at q
      exact q
    · refine ifT (by simp) ?_
      refine ⟨_, hg, _, rfl, _, _, rfl, atI_last, rfl, rfl, _, rfl, ?_⟩
      by_cases hz : z = 0
      · refine ifT (eqI hz) ?_
        subst hz
        refine ⟨_, hg, by simp, l'.length, by rw [List.length_append]; exact Nat.lt_succ_self _, l', ?_, rfl, ?_⟩
        · rw [drop_ints, List.dropLast_concat, List.set_set]
        · rw [← ht, trim_zero]
      · refine ifF (neI hz) ?_
        rw [← ht, trim_ne hz] at q
        exact q
inductive Kd where | plain | below | balanced | growing | falling | pairs
def Kd.num : Kd → Int
  | .plain => 0 | .below => 1 | .balanced => 2 | .growing => 3 | .falling => 4 | .pairs => 5
def Kd.fld : Kd → Str
  | .plain => "base" | .below => "base" | .balanced => "half" | .growing => "first" | .falling => "most" | .pairs => "most"
def Kd.lo : Kd → Int
  | .plain => 2 | .below => 2 | .balanced => 1 | .growing => 2 | .falling => 1 | .pairs => 1
def Kd.hi : Kd → Int
  | .plain => 60 | .below => 60 | .balanced => 30 | .growing => 60 | .falling => 9 | .pairs => 9
def Kd.ok (k : Kd) (n : Int) : Prop := k.lo ≤ n ∧ n ≤ k.hi
def whole : Dt → Option Bool
  | .int _ => some true
  | .bl _ => some false
  | .tup _ => some false
  | .lst _ => some false
  | _ => none
def S_whole : DSp := fun ds Q => ∃ d b, ds = [d] ∧ whole d = some b ∧ Q (.bl b)
def S_bounded : DSp := fun ds Q => ∃ n lo hi, ds = [.int n, .int lo, .int hi] ∧ lo ≤ n ∧ n ≤ hi ∧ Q (.int n)
inductive Nm where | i (n : Int) | p (a b : Int)
def Nm.dt : Nm → Dt
  | .i n => .int n
  | .p a b => .tup [.int a, .int b]
def Nm.re : Nm → Int
  | .i n => n
  | .p a _ => a
def Nm.im : Nm → Int
  | .i _ => 0
  | .p _ b => b
def numD : Dt → Option Nm
  | .int a => some (.i a)
  | .tup [.int a, .int b] => some (.p a b)
  | _ => none
def S_as_pair : DSp := fun ds Q => ∃ d m, ds = [d] ∧ numD d = some m ∧ Q (.tup [.int m.re, .int m.im])
theorem numD_dt {d : Dt} {m : Nm} (h : numD d = some m) : d = m.dt := by
  unfold numD at h
  split at h
  · cases h; rfl
  · cases h; rfl
  · cases h
theorem small {n : Int} (h0 : -1000000 ≤ n) (h1 : n ≤ 1000000) (c : Int) : IntMulOk c n := mulR (by rw [decide_eq_true_iff]; omega)
theorem small' {n : Int} (h0 : -1000000 ≤ n) (h1 : n ≤ 1000000) (c : Int) : IntMulOk n c := mulL (by rw [decide_eq_true_iff]; omega)
def Kd.five : Kd → Bool
  | .falling => false | _ => true
def Kd.low : Kd → Int → Int → Int
  | .balanced, n, _ => -n
  | _, _, _ => 0
def Kd.high : Kd → Int → Int → Int
  | .plain, n, _ => n - 1
  | .below, n, _ => n - 1
  | .balanced, n, _ => n
  | .growing, n, p => n + p - 1
  | .falling, n, _ => n
  | .pairs, n, _ => n * n
def Kd.zero : Kd → Nm
  | .pairs => .p 0 0
  | _ => .i 0
def wtF (n : Int) : Nat → Int × Int
  | 0 => (1, 1)
  | j + 1 => ((wtF n j).2, n * (wtF n j).2 + (wtF n j).1)
theorem ok_bd {k : Kd} {n : Int} (h : k.ok n) : 1 ≤ n ∧ n ≤ 60 := by
  obtain ⟨h1, h2⟩ := h
  cases k <;> simp only [Kd.lo, Kd.hi] at * <;> omega
theorem ibits {a : Int} {k : Nat} (h : a.natAbs < 2 ^ k) : Builtin.Int.intBits a ≤ k := by
  rw [intBits_le_iff]
  exact h
theorem mulBig {a b : Int} {i j : Nat} (h : a.natAbs < 2 ^ i) (h' : b.natAbs < 2 ^ j) (hij : i + j ≤ 134217728) : IntMulOk a b := IntMulOk.of_le (ibits h) (ibits h') hij
theorem row_get {ns : List Int} {i : Nat} {x : Dt} (h : (ns.map Dt.int)[i]? = some x) : x = .int (ns.getD i 0) ∧ i < ns.length := by
  rw [List.getElem?_map] at h
  cases q : ns[i]? with
  | none => rw [q] at h; cases h
  | some z =>
    rw [q] at h
    have hl : i < ns.length := by
      rcases Nat.lt_or_ge i ns.length with h | h
      · exact h
      · rw [List.getElem?_eq_none h] at q; cases q
    rw [List.getD_eq_getElem?_getD, q]
    exact ⟨(Option.some.inj h).symm, hl⟩
theorem wtF_bd {n : Int} (h1 : 1 ≤ n) (h2 : n ≤ 60) : ∀ j : Nat, (wtF n j).1.natAbs < 2 ^ (12 * j + 1) ∧ (wtF n j).2.natAbs < 2 ^ (12 * j + 1)
  | 0 => ⟨(by decide : (1 : Int).natAbs < 2 ^ 1), (by decide : (1 : Int).natAbs < 2 ^ 1)⟩
  | j + 1 => by
    obtain ⟨a, b⟩ := wtF_bd h1 h2 j
    have pw : 2 ^ (12 * (j + 1) + 1) = 2 ^ (12 * j + 1) * 4096 := by rw [show 12 * (j + 1) + 1 = (12 * j + 1) + 12 by omega, Nat.pow_add]
    rw [pw]
    unfold wtF
    dsimp only
    generalize 2 ^ (12 * j + 1) = B at *
    have hm : (n * (wtF n j).2).natAbs ≤ 60 * (wtF n j).2.natAbs := by
      rw [Int.natAbs_mul]
      exact Nat.mul_le_mul_right _ (by omega)
    have hs := Int.natAbs_add_le (n * (wtF n j).2) (wtF n j).1
    exact ⟨by omega, by omega⟩
def Kd.isF : Kd → Bool
  | .falling => true
  | _ => false
structure Legal (k : Kd) (n : Int) (r : List Int) : Prop where
  fig : ∀ p, p < r.length → k.low n p ≤ r.getD p 0 ∧ r.getD p 0 ≤ k.high n p
  fal : k.isF = true → ∀ p, p + 1 < r.length → r.getD (p + 1) 0 = n → r.getD p 0 = 0
  end_ : r = [] ∨ r.getD (r.length - 1) 0 ≠ 0
structure Lg (k : Kd) (n : Int) (r : List Int) : Prop where
  fig : ∀ p, p < r.length → k.low n p ≤ r.getD p 0 ∧ r.getD p 0 ≤ k.high n p
  fal : k.isF = true → ∀ p, p + 1 < r.length → r.getD (p + 1) 0 = n → r.getD p 0 = 0
theorem low_le {k : Kd} {n : Int} (h : k.ok n) (p : Nat) : k.low n p ≤ 0 ∧ 0 ≤ k.high n p := by
  obtain ⟨h1, h2⟩ := h
  cases k <;> simp only [Kd.lo, Kd.hi, Kd.low, Kd.high] at * <;> first | omega | exact ⟨Int.le_refl _, Int.mul_nonneg (by omega) (by omega)⟩
theorem getD_snoc_lt {r : List Int} {z : Int} {p : Nat} (h : p < r.length) : (r ++ [z]).getD p 0 = r.getD p 0 := by
  rw [List.getD_eq_getElem?_getD, List.getD_eq_getElem?_getD, List.getElem?_append_left h]
theorem getD_snoc_eq {r : List Int} {z : Int} : (r ++ [z]).getD r.length 0 = z := by
  rw [List.getD_eq_getElem?_getD, List.getElem?_append_right (Nat.le_refl _)]
  simp
theorem Lg.nil (k : Kd) (n : Int) : Lg k n [] := ⟨fun p h => absurd h (Nat.not_lt_zero _), fun _ p h => absurd h (Nat.not_lt_zero _)⟩
theorem Lg.pop {k : Kd} {n : Int} {r : List Int} {z : Int} (h : Lg k n (r ++ [z])) : Lg k n r := by
  refine ⟨fun p hp => ?_, fun hk p hp => ?_⟩
  · have := h.fig p (by rw [List.length_append]; omega)
    rwa [getD_snoc_lt hp] at this
  · have := h.fal hk p (by rw [List.length_append]; omega)
    rwa [getD_snoc_lt hp, getD_snoc_lt (by omega)] at this
theorem Lg.trim {k : Kd} {n : Int} : ∀ {r : List Int}, Lg k n r → Legal k n (trim r) := by
  intro r
  generalize hl : r.length = m
  induction m generalizing r with
  | zero =>
    intro h
    obtain rfl : r = [] := List.length_eq_zero_iff.mp hl
    exact ⟨h.fig, h.fal, .inl rfl⟩
  | succ m ih =>
    intro h
    rcases snoc_cases r with rfl | ⟨l, z, rfl⟩
    · cases hl
    · by_cases hz : z = 0
      · subst hz
        rw [trim_zero]
        exact ih (by rw [List.length_append] at hl; exact Nat.succ.inj hl) h.pop
      · rw [trim_ne hz]
        exact ⟨h.fig, h.fal, .inr (by rw [List.length_append]; exact fun e => hz (by rw [← e]; exact getD_snoc_eq.symm))⟩
theorem Lg.push {k : Kd} {n z : Int} {r : List Int} (h : Lg k n r) (hz : k.low n r.length ≤ z ∧ z ≤ k.high n r.length) (hf : k.isF = true → z = n → r = [] ∨ r.getD (r.length - 1) 0 = 0) : Lg k n (r ++ [z]) := by
  refine ⟨fun p hp => ?_, fun hk p hp e => ?_⟩
  · rw [List.length_append] at hp
    rcases (by simp at hp; omega : p < r.length ∨ p = r.length) with q | q
    · rw [getD_snoc_lt q]; exact h.fig p q
    · subst q; rw [getD_snoc_eq]; exact hz
  · rw [List.length_append] at hp
    rcases (by simp at hp; omega : p + 1 < r.length ∨ p + 1 = r.length) with q | q
    · rw [getD_snoc_lt q] at e
      rw [getD_snoc_lt (by omega)]
      exact h.fal hk p q e
    · rw [q, getD_snoc_eq] at e
      rw [getD_snoc_lt (by omega)]
      rcases hf hk e with z | z
      · rw [z] at q; cases q
      · rw [show r.length - 1 = p by omega] at z; exact z
theorem getD_set_ne {r : List Int} {i j : Nat} {z : Int} (h : i ≠ j) : (r.set i z).getD j 0 = r.getD j 0 := by
  rw [List.getD_eq_getElem?_getD, List.getD_eq_getElem?_getD, List.getElem?_set_ne h]
theorem getD_set_eq {r : List Int} {i : Nat} {z : Int} (h : i < r.length) : (r.set i z).getD i 0 = z := by
  rw [List.getD_eq_getElem?_getD, List.getElem?_set_self h]
  rfl
theorem Lg.zero {k : Kd} {n : Int} {r : List Int} (hn : k.ok n) (h : Lg k n r) : Lg k n (r.set (r.length - 1) 0) := by
  refine ⟨fun p hp => ?_, fun hk p hp e => ?_⟩
  · rw [List.length_set] at hp
    by_cases q : r.length - 1 = p
    · subst q; rw [getD_set_eq hp]; exact low_le hn _
    · rw [getD_set_ne q]; exact h.fig p hp
  · rw [List.length_set] at hp
    have n1 : n ≠ 0 := by have := hn.1; cases k <;> simp only [Kd.lo] at this <;> omega
    by_cases q : r.length - 1 = p + 1
    · rw [← q, getD_set_eq (by omega)] at e; exact absurd e.symm n1
    · rw [getD_set_ne q] at e
      rw [getD_set_ne (by omega)]
      exact h.fal hk p hp e
def wf (n : Int) (j : Nat) : Int := (wtF n j).2
theorem wf_0 (n : Int) : wf n 0 = 1 := rfl
theorem wf_1 (n : Int) : wf n 1 = n + 1 := by show n * 1 + 1 = _; rw [Int.mul_one]
theorem wf_2 (n : Int) (j : Nat) : wf n (j + 2) = n * wf n (j + 1) + wf n j := rfl
theorem wf_pos {n : Int} (h : 1 ≤ n) : ∀ j, 1 ≤ wf n j ∧ wf n j ≤ wf n (j + 1)
  | 0 => by rw [wf_0, wf_1]; omega
  | j + 1 => by
    obtain ⟨a, b⟩ := wf_pos h j
    have : wf n (j + 1) ≤ n * wf n (j + 1) := by
      have := Int.mul_le_mul_of_nonneg_right h (show 0 ≤ wf n (j + 1) by omega)
      omega
    rw [wf_2]
    omega
def S_trim : DSp := fun ds Q => ∃ r, ds = [rowD r] ∧ Q (rowD (trim r))
abbrev Stp := Bool × Nat
def hf (h : List Int) (p : Nat) : Int := h.getD p 0
def pt (a : Nat) (c : Int) (i : Nat) : Int := if i = a then c else 0
def chg (n : Int) : Stp → List (Nat × Int)
  | (true, p) => [(p + 1, 1), (p, -n), (p - 1, -1)]
  | (false, 0) => [(1, 1), (0, -n - 1)]
  | (false, 1) => [(2, 1), (1, -n - 1), (0, n)]
  | (false, p + 2) => [(p + 3, 1), (p + 2, -n - 1), (p + 1, n - 1), (p, 1)]
def csum : List (Nat × Int) → Nat → Int
  | [], _ => 0
  | x :: l, i => pt x.1 x.2 i + csum l i
def dlt (n : Int) (s : Stp) (i : Nat) : Int := csum (chg n s) i
def Can (n : Int) : Stp → (Nat → Int) → Prop
  | (true, p), f => 0 < p ∧ n ≤ f p ∧ 0 < f (p - 1)
  | (false, p), f => n < f p
def sm (w f : Nat → Int) : Nat → Int
  | 0 => 0
  | m + 1 => sm w f m + f m * w m
def ls (w : Nat → Int) : List (Nat × Int) → Int
  | [] => 0
  | x :: l => x.2 * w x.1 + ls w l
theorem sm_add (w f g : Nat → Int) : ∀ m, sm w (fun i => f i + g i) m = sm w f m + sm w g m
  | 0 => rfl
  | m + 1 => by
    show sm w (fun i => f i + g i) m + (f m + g m) * w m = (sm w f m + f m * w m) + (sm w g m + g m * w m)
    rw [sm_add w f g m, Int.add_mul]
    omega
theorem sm_mul (w f : Nat → Int) (c : Int) : ∀ m, sm w (fun i => c * f i) m = c * sm w f m
  | 0 => by show (0 : Int) = c * 0; rw [Int.mul_zero]
  | m + 1 => by
    show sm w (fun i => c * f i) m + (c * f m) * w m = c * (sm w f m + f m * w m)
    rw [sm_mul w f c m, Int.mul_add, Int.mul_assoc]
theorem sm_pt (w : Nat → Int) (a : Nat) (c : Int) : ∀ m, sm w (pt a c) m = if a < m then c * w a else 0
  | 0 => by rw [if_neg (Nat.not_lt_zero _)]; rfl
  | m + 1 => by
    show sm w (pt a c) m + pt a c m * w m = _
    rw [sm_pt w a c m]
    unfold pt
    by_cases h : m = a
    · subst h
      rw [if_neg (Nat.lt_irrefl _), if_pos rfl, if_pos (Nat.lt_succ_self _)]
      omega
    · rw [if_neg h, Int.zero_mul]
      by_cases h2 : a < m
      · rw [if_pos h2, if_pos (by omega)]; omega
      · rw [if_neg h2, if_neg (by omega)]; omega
theorem sm_csum (w : Nat → Int) (m : Nat) : ∀ l : List (Nat × Int), (∀ x ∈ l, x.1 < m) → sm w (csum l) m = ls w l
  | [], _ => by
    show sm w (fun _ => 0) m = 0
    induction m with
    | zero => rfl
    | succ m ih => show sm w (fun _ => 0) m + 0 * w m = 0; rw [ih (fun _ h => nomatch h)]; omega
  | x :: l, h => by
    show sm w (fun i => pt x.1 x.2 i + csum l i) m = x.2 * w x.1 + ls w l
    rw [sm_add, sm_csum w m l (fun y hy => h y (List.mem_cons_of_mem _ hy))]
    rw [show sm w (fun i => pt x.1 x.2 i) m = _ from sm_pt w x.1 x.2 m, if_pos (h x List.mem_cons_self)]
theorem chg_lt {n : Int} {s : Stp} {m : Nat} (h : s.2 + 2 ≤ m) : ∀ x ∈ chg n s, x.1 < m := by
  intro x hx
  match s, h, hx with
  | (true, p), h, hx =>
    have h : p + 2 ≤ m := h
    rcases List.mem_cons.mp hx with rfl | hx
    · show p + 1 < m; omega
    rcases List.mem_cons.mp hx with rfl | hx
    · show p < m; omega
    rw [List.mem_singleton.mp hx]
    show p - 1 < m; omega
  | (false, 0), h, hx =>
    have h : 0 + 2 ≤ m := h
    rcases List.mem_cons.mp hx with rfl | hx
    · show 1 < m; omega
    rw [List.mem_singleton.mp hx]
    show 0 < m; omega
  | (false, 1), h, hx =>
    have h : 1 + 2 ≤ m := h
    rcases List.mem_cons.mp hx with rfl | hx
    · show 2 < m; omega
    rcases List.mem_cons.mp hx with rfl | hx
    · show 1 < m; omega
    rw [List.mem_singleton.mp hx]
    show 0 < m; omega
  | (false, p + 2), h, hx =>
    have h : p + 2 + 2 ≤ m := h
    rcases List.mem_cons.mp hx with rfl | hx
    · show p + 3 < m; omega
    rcases List.mem_cons.mp hx with rfl | hx
    · show p + 2 < m; omega
    rcases List.mem_cons.mp hx with rfl | hx
    · show p + 1 < m; omega
    rw [List.mem_singleton.mp hx]
    show p < m; omega
theorem chg_w {n : Int} {s : Stp} (h : s.1 = true → 0 < s.2) : ls (wf n) (chg n s) = 0 := by
  match s, h with
  | (true, 0), h => exact absurd (h rfl) (Nat.lt_irrefl _)
  | (true, q + 1), _ =>
    show 1 * wf n (q + 2) + (-n * wf n (q + 1) + (-1 * wf n q + 0)) = 0
    rw [wf_2]
    grind
  | (false, 0), _ =>
    show 1 * wf n 1 + ((-n - 1) * wf n 0 + 0) = 0
    rw [wf_1, wf_0]
    omega
  | (false, 1), _ =>
    show 1 * wf n (0 + 2) + ((-n - 1) * wf n 1 + (n * wf n 0 + 0)) = 0
    rw [wf_2, wf_1, wf_0]
    grind
  | (false, q + 2), _ =>
    show 1 * wf n ((q + 1) + 2) + ((-n - 1) * wf n (q + 2) + ((n - 1) * wf n (q + 1) + (1 * wf n q + 0))) = 0
    rw [wf_2 n (q + 1), wf_2 n q]
    grind
def cst (n : Int) (i : Nat) : Int := if n = 1 then (if i = 0 then 7 else 4 * i + 8) else i + 1
theorem cst_pos (n : Int) (i : Nat) : 1 ≤ cst n i ∧ cst n i ≤ 4 * i + 8 := by
  unfold cst
  split
  · split <;> omega
  · omega
theorem cst1 (i : Nat) : cst 1 i = if i = 0 then (7 : Int) else 4 * (i : Int) + 8 := by unfold cst; rw [if_pos rfl]
theorem cst2 {n : Int} (h : n ≠ 1) (i : Nat) : cst n i = i + 1 := by unfold cst; rw [if_neg h]
theorem chg_c {n : Int} (hn : 1 ≤ n) {s : Stp} (h : s.1 = true → 0 < s.2) : ls (cst n) (chg n s) ≤ -1 := by
  by_cases h1 : n = 1
  · subst h1
    match s, h with
    | (true, 0), h => exact absurd (h rfl) (Nat.lt_irrefl _)
    | (true, q + 1), _ =>
      show 1 * cst 1 (q + 2) + (-1 * cst 1 (q + 1) + (-1 * cst 1 q + 0)) ≤ -1
      rw [cst1, cst1, cst1, if_neg (by omega), if_neg (by omega)]
      split <;> omega
    | (false, 0), _ =>
      show 1 * cst 1 1 + ((-1 - 1) * cst 1 0 + 0) ≤ -1
      rw [cst1, cst1]; decide
    | (false, 1), _ =>
      show 1 * cst 1 2 + ((-1 - 1) * cst 1 1 + (1 * cst 1 0 + 0)) ≤ -1
      rw [cst1, cst1, cst1]; decide
    | (false, q + 2), _ =>
      show 1 * cst 1 (q + 3) + ((-1 - 1) * cst 1 (q + 2) + ((1 - 1) * cst 1 (q + 1) + (1 * cst 1 q + 0))) ≤ -1
      rw [cst1, cst1, cst1, cst1, if_neg (by omega), if_neg (by omega), if_neg (by omega)]
      split <;> omega
  · match s, h with
    | (true, 0), h => exact absurd (h rfl) (Nat.lt_irrefl _)
    | (true, q + 1), _ =>
      show 1 * cst n (q + 2) + (-n * cst n (q + 1) + (-1 * cst n q + 0)) ≤ -1
      rw [cst2 h1, cst2 h1, cst2 h1]
      have hq : 0 ≤ n * (q : Int) := Int.mul_nonneg (by omega) (by omega)
      have e : 1 * (((q + 2 : Nat) : Int) + 1) + (-n * (((q + 1 : Nat) : Int) + 1) + (-1 * ((q : Int) + 1) + 0)) = 2 - n * q - 2 * n := by
        rw [show ((q + 2 : Nat) : Int) = (q : Int) + 2 by omega, show ((q + 1 : Nat) : Int) = (q : Int) + 1 by omega]
        grind
      rw [e]
      omega
    | (false, 0), _ =>
      show 1 * cst n 1 + ((-n - 1) * cst n 0 + 0) ≤ -1
      rw [cst2 h1, cst2 h1]
      omega
    | (false, 1), _ =>
      show 1 * cst n 2 + ((-n - 1) * cst n 1 + (n * cst n 0 + 0)) ≤ -1
      rw [cst2 h1, cst2 h1, cst2 h1]
      omega
    | (false, q + 2), _ =>
      show 1 * cst n (q + 3) + ((-n - 1) * cst n (q + 2) + ((n - 1) * cst n (q + 1) + (1 * cst n q + 0))) ≤ -1
      rw [cst2 h1, cst2 h1, cst2 h1, cst2 h1]
      have e : 1 * (((q + 3 : Nat) : Int) + 1) + ((-n - 1) * (((q + 2 : Nat) : Int) + 1) + ((n - 1) * (((q + 1 : Nat) : Int) + 1) + (1 * ((q : Int) + 1) + 0))) = -n := by
        rw [show ((q + 3 : Nat) : Int) = (q : Int) + 3 by omega, show ((q + 2 : Nat) : Int) = (q : Int) + 2 by omega, show ((q + 1 : Nat) : Int) = (q : Int) + 1 by omega]
        grind
      rw [e]
      omega
theorem dlt_up {n : Int} {p : Nat} (h : 0 < p) : dlt n (true, p) p = -n ∧ dlt n (true, p) (p - 1) = -1 ∧ ∀ i, i ≠ p → i ≠ p - 1 → 0 ≤ dlt n (true, p) i := by
  refine ⟨?_, ?_, fun i h1 h2 => ?_⟩
  · show pt (p + 1) 1 p + (pt p (-n) p + (pt (p - 1) (-1) p + 0)) = -n
    unfold pt
    rw [if_neg (by omega), if_pos rfl, if_neg (by omega)]
    omega
  · show pt (p + 1) 1 (p - 1) + (pt p (-n) (p - 1) + (pt (p - 1) (-1) (p - 1) + 0)) = -1
    unfold pt
    rw [if_neg (by omega), if_neg (by omega), if_pos rfl]
    omega
  · show 0 ≤ pt (p + 1) 1 i + (pt p (-n) i + (pt (p - 1) (-1) i + 0))
    unfold pt
    rw [if_neg h1, if_neg h2]
    split <;> omega
theorem dlt_part {n : Int} (hn : 1 ≤ n) (p : Nat) : dlt n (false, p) p = -n - 1 ∧ ∀ i, i ≠ p → 0 ≤ dlt n (false, p) i := by
  match p with
  | 0 =>
    refine ⟨?_, fun i h1 => ?_⟩
    · show pt 1 1 0 + (pt 0 (-n - 1) 0 + 0) = _
      unfold pt
      rw [if_neg (by omega), if_pos rfl]
      omega
    · show 0 ≤ pt 1 1 i + (pt 0 (-n - 1) i + 0)
      unfold pt
      rw [if_neg h1]
      split <;> omega
  | 1 =>
    refine ⟨?_, fun i h1 => ?_⟩
    · show pt 2 1 1 + (pt 1 (-n - 1) 1 + (pt 0 n 1 + 0)) = _
      unfold pt
      rw [if_neg (by omega), if_pos rfl, if_neg (by omega)]
      omega
    · show 0 ≤ pt 2 1 i + (pt 1 (-n - 1) i + (pt 0 n i + 0))
      unfold pt
      rw [if_neg h1]
      split <;> split <;> omega
  | q + 2 =>
    refine ⟨?_, fun i h1 => ?_⟩
    · show pt (q + 3) 1 (q + 2) + (pt (q + 2) (-n - 1) (q + 2) + (pt (q + 1) (n - 1) (q + 2) + (pt q 1 (q + 2) + 0))) = _
      unfold pt
      rw [if_neg (by omega), if_pos rfl, if_neg (by omega), if_neg (by omega)]
      omega
    · show 0 ≤ pt (q + 3) 1 i + (pt (q + 2) (-n - 1) i + (pt (q + 1) (n - 1) i + (pt q 1 i + 0)))
      unfold pt
      rw [if_neg h1]
      split <;> split <;> split <;> omega
def Oft (n : Int) : Stp → (Nat → Int) → Int → Prop
  | (true, p), f, m => 0 < p ∧ m * n ≤ f p ∧ m ≤ f (p - 1)
  | (false, p), f, m => m * (n + 1) ≤ f p
theorem Oft.up {n m : Int} {s : Stp} {f : Nat → Int} (h : Oft n s f m) : s.1 = true → 0 < s.2 := by
  match s, h with
  | (true, p), h => exact fun _ => h.1
  | (false, p), _ => exact fun z => Bool.noConfusion z
theorem Oft.nonneg {n m : Int} (hn : 1 ≤ n) (hm : 0 ≤ m) {s : Stp} {f : Nat → Int} (h : Oft n s f m) (hf0 : ∀ i, 0 ≤ f i) (i : Nat) : 0 ≤ f i + m * dlt n s i := by
  have pos : ∀ d : Int, 0 ≤ d → 0 ≤ f i + m * d := fun d hd => by
    have := Int.mul_nonneg hm hd
    have := hf0 i
    omega
  match s, h with
  | (true, p), ⟨h1, h2, h3⟩ =>
    obtain ⟨a, b, c⟩ := dlt_up (n := n) h1
    by_cases e1 : i = p
    · subst e1; rw [a, Int.mul_neg]; omega
    by_cases e2 : i = p - 1
    · subst e2; rw [b, Int.mul_neg, Int.mul_one]; omega
    exact pos _ (c i e1 e2)
  | (false, p), h =>
    obtain ⟨a, c⟩ := dlt_part hn p
    by_cases e1 : i = p
    · subst e1
      rw [a, show -n - 1 = -(n + 1) by omega, Int.mul_neg]
      have : m * (n + 1) ≤ f i := h
      omega
    exact pos _ (c i e1)
theorem Oft.can {n m j : Int} (hn : 1 ≤ n) {s : Stp} {f : Nat → Int} (h : Oft n s f m) (hj0 : 0 ≤ j) (hj : j < m) : Can n s (fun i => f i + j * dlt n s i) := by
  match s, h with
  | (true, p), ⟨h1, h2, h3⟩ =>
    obtain ⟨a, b, c⟩ := dlt_up (n := n) h1
    have k := Int.mul_le_mul_of_nonneg_right (show j + 1 ≤ m by omega) (show 0 ≤ n by omega)
    rw [Int.add_mul, Int.one_mul] at k
    refine ⟨h1, ?_, ?_⟩
    · show n ≤ f p + j * dlt n (true, p) p
      rw [a, Int.mul_neg]; omega
    · show 0 < f (p - 1) + j * dlt n (true, p) (p - 1)
      rw [b, Int.mul_neg, Int.mul_one]; omega
  | (false, p), h =>
    obtain ⟨a, c⟩ := dlt_part hn p
    have h : m * (n + 1) ≤ f p := h
    have k := Int.mul_le_mul_of_nonneg_right (show j + 1 ≤ m by omega) (show 0 ≤ n + 1 by omega)
    rw [Int.add_mul, Int.one_mul] at k
    show n < f p + j * dlt n (false, p) p
    rw [a, show -n - 1 = -(n + 1) by omega, Int.mul_neg]
    omega
def Walk (n : Int) : (Nat → Int) → List Stp → (Nat → Int) → Prop
  | f, [], g => f = g
  | f, s :: ss, g => Can n s f ∧ Walk n (fun i => f i + dlt n s i) ss g
theorem Walk.append {n : Int} {g k : Nat → Int} {ts : List Stp} (h2 : Walk n g ts k) : ∀ {ss : List Stp} {f : Nat → Int}, Walk n f ss g → Walk n f (ss ++ ts) k
  | [], _, h => by rw [show _ = g from h]; exact h2
  | s :: ss, _, h => ⟨h.1, Walk.append h2 h.2⟩
theorem walk_rep {n : Int} {s : Stp} : ∀ (m : Nat) (f : Nat → Int), (∀ j : Nat, j < m → Can n s (fun i => f i + j * dlt n s i)) → Walk n f (List.replicate m s) (fun i => f i + m * dlt n s i)
  | 0, f, _ => by
    show f = _
    funext i
    rw [show ((0 : Nat) : Int) = 0 from rfl, Int.zero_mul, Int.add_zero]
  | m + 1, f, h => by
    refine ⟨?_, ?_⟩
    · have := h 0 (Nat.succ_pos _)
      have e : (fun i => f i + ((0 : Nat) : Int) * dlt n s i) = f := by
        funext i
        rw [show ((0 : Nat) : Int) = 0 from rfl, Int.zero_mul, Int.add_zero]
      rw [e] at this
      exact this
    · have := walk_rep m (fun i => f i + dlt n s i) (fun j hj => by
        have := h (j + 1) (by omega)
        have e : (fun i => f i + ((j + 1 : Nat) : Int) * dlt n s i) = fun i => f i + dlt n s i + j * dlt n s i := by
          funext i
          rw [show ((j + 1 : Nat) : Int) = (j : Int) + 1 by omega, Int.add_mul, Int.one_mul]
          omega
        rw [e] at this
        exact this)
      have e : (fun i => f i + ((m + 1 : Nat) : Int) * dlt n s i) = fun i => f i + dlt n s i + m * dlt n s i := by
        funext i
        rw [show ((m + 1 : Nat) : Int) = (m : Int) + 1 by omega, Int.add_mul, Int.one_mul]
        omega
      rw [e]
      exact this
theorem hf_out {h : List Int} {i : Nat} (hi : h.length ≤ i) : hf h i = 0 := by unfold hf; rw [List.getD_eq_getElem?_getD, List.getElem?_eq_none hi]; rfl
theorem sm_ext (w : Nat → Int) {f : Nat → Int} {k : Nat} (h : ∀ i, k ≤ i → f i = 0) : ∀ m, k ≤ m → sm w f m = sm w f k
  | 0, hm => by rw [show k = 0 by omega]
  | m + 1, hm => by
    by_cases e : k = m + 1
    · rw [e]
    · show sm w f m + f m * w m = _
      rw [h m (by omega), Int.zero_mul, sm_ext w h m (by omega)]
      omega
def hw (n : Int) (h : List Int) : Int := sm (wf n) (hf h) h.length
def pot (n : Int) (h : List Int) : Int := sm (cst n) (hf h) h.length
theorem hf_nn {h : List Int} (h0 : ∀ z ∈ h, 0 ≤ z) (i : Nat) : 0 ≤ hf h i := by
  unfold hf
  rw [List.getD_eq_getElem?_getD]
  cases q : h[i]? with
  | none => exact Int.le_refl _
  | some z => exact h0 z (List.mem_of_getElem? q)
theorem sm_nn {w f : Nat → Int} (hw : ∀ i, 0 ≤ w i) (hf : ∀ i, 0 ≤ f i) : ∀ m, 0 ≤ sm w f m
  | 0 => Int.le_refl _
  | m + 1 => Int.add_nonneg (sm_nn hw hf m) (Int.mul_nonneg (hf m) (hw m))
theorem sm_ge {w f : Nat → Int} (hw : ∀ i, 0 ≤ w i) (hf : ∀ i, 0 ≤ f i) {i : Nat} : ∀ m, i < m → f i * w i ≤ sm w f m
  | 0, h => absurd h (Nat.not_lt_zero _)
  | m + 1, h => by
    show _ ≤ sm w f m + f m * w m
    by_cases e : i = m
    · subst e
      have := sm_nn hw hf i
      omega
    · have := sm_ge hw hf (i := i) m (by omega)
      have := Int.mul_nonneg (hf m) (hw m)
      omega
theorem sm_top {n : Int} (hn : 1 ≤ n) {f : Nat → Int} (hf : ∀ i, 0 ≤ f i) : ∀ m, sm (wf n) f m ≤ sm (fun _ => 1) f m * wf n m
  | 0 => by show (0 : Int) ≤ 0 * _; rw [Int.zero_mul]; exact Int.le_refl _
  | m + 1 => by
    obtain ⟨p1, p2⟩ := wf_pos hn m
    have ih := sm_top hn hf m
    have t0 := sm_nn (w := fun _ => 1) (fun _ => by decide) hf (m + 1)
    have k := Int.mul_le_mul_of_nonneg_left p2 t0
    have e : sm (fun _ => 1) f (m + 1) * wf n m = sm (fun _ => 1) f m * wf n m + f m * wf n m := by
      show (sm (fun _ => 1) f m + f m * 1) * wf n m = _
      rw [Int.mul_one, Int.add_mul]
    show sm (wf n) f m + f m * wf n m ≤ _
    omega
theorem sm_le {w v f : Nat → Int} (hf : ∀ i, 0 ≤ f i) (h : ∀ i, w i ≤ v i) : ∀ m, sm w f m ≤ sm v f m
  | 0 => Int.le_refl _
  | m + 1 => by
    have := sm_le hf h m
    have := Int.mul_le_mul_of_nonneg_left (h m) (hf m)
    show sm w f m + f m * w m ≤ sm v f m + f m * v m
    omega
theorem wf_grow {n : Int} (hn : 1 ≤ n) (m : Nat) : ∀ b : Nat, ((2 ^ b : Nat) : Int) * wf n m ≤ wf n (m + 2 * b)
  | 0 => by rw [show ((2 ^ 0 : Nat) : Int) = 1 from rfl, Int.one_mul]; exact Int.le_refl _
  | b + 1 => by
    have ih := wf_grow hn m b
    obtain ⟨a1, b1⟩ := wf_pos hn (m + 2 * b)
    have : wf n (m + 2 * b + 1) ≤ n * wf n (m + 2 * b + 1) := by
      have := Int.mul_le_mul_of_nonneg_right hn (show 0 ≤ wf n (m + 2 * b + 1) by omega)
      omega
    have e : wf n (m + 2 * (b + 1)) = n * wf n (m + 2 * b + 1) + wf n (m + 2 * b) := wf_2 n (m + 2 * b)
    have hp : ((2 ^ (b + 1) : Nat) : Int) * wf n m = 2 * (((2 ^ b : Nat) : Int) * wf n m) := by rw [Nat.pow_succ, Int.natCast_mul, Int.mul_comm ((2 ^ b : Nat) : Int), Int.mul_assoc]; rfl
    omega
theorem wf_monoA {n : Int} (hn : 1 ≤ n) (m : Nat) : ∀ k, wf n m ≤ wf n (m + k)
  | 0 => Int.le_refl _
  | k + 1 => Int.le_trans (wf_monoA hn m k) (wf_pos hn (m + k)).2
theorem place_bd {n : Int} (hn : 1 ≤ n) {h l : List Int} (h0 : ∀ i, 0 ≤ hf h i) (l0 : ∀ i, 0 ≤ hf l i) (hp : pot n h ≤ 15000000) (e : hw n l = hw n h) {p : Nat} (hpos : 0 < hf l p) : p < h.length + 48 := by
  rcases Nat.lt_or_ge p (h.length + 48) with z | z
  · exact z
  exfalso
  have hpl : p < l.length := by
    rcases Nat.lt_or_ge p l.length with z | z
    · exact z
    · rw [hf_out z] at hpos; omega
  have w0 : ∀ i, 0 ≤ wf n i := fun i => by have := (wf_pos hn i).1; omega
  have g1 := sm_ge w0 l0 l.length hpl
  have g2 : wf n p ≤ hf l p * wf n p := by
    have := Int.mul_le_mul_of_nonneg_right (show 1 ≤ hf l p by omega) (w0 p)
    omega
  have t := sm_top hn h0 h.length
  have tp : sm (fun _ => 1) (hf h) h.length ≤ pot n h := sm_le h0 (fun i => (cst_pos n i).1) _
  have gr := wf_grow hn h.length 24
  have mo := wf_monoA hn (h.length + 2 * 24) (p - (h.length + 2 * 24))
  rw [show h.length + 2 * 24 + (p - (h.length + 2 * 24)) = p by omega] at mo
  have w1 := (wf_pos hn h.length).1
  have k := Int.mul_le_mul_of_nonneg_right (show sm (fun _ => 1) (hf h) h.length ≤ 15000000 by omega) (show 0 ≤ wf n h.length by omega)
  have e2 : ((2 ^ 24 : Nat) : Int) = 16777216 := by decide
  rw [e2] at gr
  have e : sm (wf n) (hf l) l.length = sm (wf n) (hf h) h.length := e
  omega
theorem heap_step {n m : Int} (hn : 1 ≤ n) (hm : 1 ≤ m) {l l' : List Int} {s : Stp} (l0 : ∀ i, 0 ≤ hf l i) (ho : Oft n s (hf l) m) (hl : l'.length = max l.length (s.2 + 2)) (he : ∀ i, hf l' i = hf l i + m * dlt n s i) :
    (∀ i, 0 ≤ hf l' i) ∧ hw n l' = hw n l ∧ pot n l' + m ≤ pot n l ∧ Walk n (hf l) (List.replicate m.toNat s) (hf l') := by
  have ef : hf l' = fun i => hf l i + m * dlt n s i := funext he
  have sums : ∀ w : Nat → Int, sm w (hf l') l'.length = sm w (hf l) l.length + m * ls w (chg n s) := fun w => by
    rw [ef, sm_add, sm_mul, show sm w (fun i => dlt n s i) l'.length = _ from sm_csum w l'.length (chg n s) (chg_lt (by omega)), sm_ext w (fun i hi => hf_out hi) l'.length (by omega)]
  refine ⟨fun i => ?_, ?_, ?_, ?_⟩
  · rw [he]; exact ho.nonneg hn (by omega) l0 i
  · show sm (wf n) (hf l') l'.length = sm (wf n) (hf l) l.length
    rw [sums, chg_w ho.up, Int.mul_zero, Int.add_zero]
  · show sm (cst n) (hf l') l'.length + m ≤ sm (cst n) (hf l) l.length
    rw [sums]
    have := Int.mul_le_mul_of_nonneg_left (chg_c hn ho.up) (show 0 ≤ m by omega)
    omega
  · have := walk_rep (n := n) (s := s) m.toNat (hf l) (fun j hj => ho.can hn (by omega) (by omega))
    rw [show ((m.toNat : Nat) : Int) = m from Int.toNat_of_nonneg (by omega)] at this
    rw [ef]
    exact this
theorem hf_trim (l : List Int) (i : Nat) : hf (trim l) i = hf l i := by
  generalize hl : l.length = m
  induction m generalizing l with
  | zero => rw [List.length_eq_zero_iff.mp hl]; rfl
  | succ m ih =>
    rcases snoc_cases l with rfl | ⟨r, z, rfl⟩
    · cases hl
    · by_cases hz : z = 0
      · subst hz
        rw [trim_zero, ih r (by rw [List.length_append] at hl; exact Nat.succ.inj hl)]
        unfold hf
        rw [List.getD_eq_getElem?_getD, List.getD_eq_getElem?_getD]
        by_cases h1 : i < r.length
        · rw [List.getElem?_append_left h1]
        · rw [List.getElem?_eq_none (by omega)]
          rw [List.getElem?_append_right (by omega)]
          by_cases h2 : i - r.length = 0
          · rw [h2]; rfl
          · rw [List.getElem?_eq_none (by simp; omega)]
      · rw [trim_ne hz]
theorem hw_trim (n : Int) (l : List Int) : hw n (trim l) = hw n l := by
  have e : hf (trim l) = hf l := funext (hf_trim l)
  show sm (wf n) (hf (trim l)) (trim l).length = sm (wf n) (hf l) l.length
  rw [← sm_ext (wf n) (fun i hi => hf_out hi) l.length (trim_len l), e]
structure Fell (n : Int) (h : List Int) (ss : List Stp) (r : List Int) : Prop where
  leg : Legal .falling n r
  eqw : hw n r = hw n h
  wlk : Walk n (hf h) ss (hf r)
  len : r.length ≤ h.length + 60
  few : ss.length ≤ 15000000
def stepOf (n : Int) (f : Nat → Int) (p : Nat) : Option Stp := if 0 < p ∧ n ≤ f p ∧ 0 < f (p - 1) then some (true, p) else if n < f p then some (false, p) else none
theorem stepOf_none {n : Int} {f : Nat → Int} {p : Nat} (h : stepOf n f p = none) : f p ≤ n ∧ (0 < p → n ≤ f p → f (p - 1) ≤ 0) := by
  unfold stepOf at h
  split at h
  · cases h
  · rename_i h1
    split at h
    · cases h
    · rename_i h2
      refine ⟨by omega, fun a b => ?_⟩
      rcases Int.lt_or_le 0 (f (p - 1)) with z | z
      · exact absurd ⟨a, b, z⟩ h1
      · exact z
theorem stepOf_some {n : Int} {f : Nat → Int} {p : Nat} {s : Stp} (h : stepOf n f p = some s) : s.2 = p ∧ Can n s f := by
  unfold stepOf at h
  split at h
  · rename_i h1; cases h; exact ⟨rfl, h1⟩
  · split at h
    · rename_i h2; cases h; exact ⟨rfl, h2⟩
    · cases h
theorem lg_none {n : Int} {l : List Int} (l0 : ∀ i, 0 ≤ hf l i) (h : ∀ q, q < l.length → stepOf n (hf l) q = none) : Lg .falling n l := by
  refine ⟨fun p hp => ⟨l0 p, (stepOf_none (h p hp)).1⟩, fun _ p hp e => ?_⟩
  have := (stepOf_none (h (p + 1) hp)).2 (by omega) (by unfold hf; rw [e]; exact Int.le_refl _)
  have k := l0 p
  rw [show p + 1 - 1 = p by omega] at this
  unfold hf at this k
  omega
theorem dlt_far {n : Int} {s : Stp} {i : Nat} (h : s.2 + 1 < i) : dlt n s i = 0 := by
  have key : ∀ l : List (Nat × Int), (∀ x ∈ l, x.1 < i) → csum l i = 0 := by
    intro l
    induction l with
    | nil => intro _; rfl
    | cons x l ih =>
      intro hl
      show pt x.1 x.2 i + csum l i = 0
      rw [ih (fun y hy => hl y (List.mem_cons_of_mem _ hy))]
      unfold pt
      rw [if_neg (by have := hl x List.mem_cons_self; omega)]
      rfl
  exact key _ (chg_lt (by omega))
theorem pot_le {n B : Int} {h : List Int} (hb : ∀ z ∈ h, 0 ≤ z ∧ z ≤ B) (hB : 0 ≤ B) : pot n h ≤ h.length * (B * (4 * h.length + 8)) := by
  have key : ∀ m : Nat, m ≤ h.length → sm (cst n) (hf h) m ≤ m * (B * (4 * h.length + 8)) := by
    intro m
    induction m with
    | zero => intro _; show (0 : Int) ≤ 0 * _; rw [Int.zero_mul]; exact Int.le_refl _
    | succ m ih =>
      intro hm
      have ih := ih (by omega)
      have c := cst_pos n m
      have f1 : 0 ≤ hf h m ∧ hf h m ≤ B := by
        unfold hf
        rw [List.getD_eq_getElem?_getD, List.getElem?_eq_getElem (by omega)]
        exact hb _ (List.getElem_mem _)
      have k1 := Int.mul_le_mul f1.2 (show cst n m ≤ 4 * (h.length : Int) + 8 by omega) (by omega) hB
      show sm (cst n) (hf h) m + hf h m * cst n m ≤ ((m + 1 : Nat) : Int) * _
      rw [show ((m + 1 : Nat) : Int) = (m : Int) + 1 by omega, Int.add_mul, Int.one_mul]
      omega
  exact key h.length (Nat.le_refl _)
def stpN : Bool → Str
  | true => .ofString "up"
  | false => .ofString "part"
def stepD (s : Stp) : Dt := .tup [.str (stpN s.1), .int s.2]
def chD (x : Nat × Int) : Dt := .tup [.int x.1, .int x.2]
def optS : Option Stp → Dt
  | none => .non
  | some s => stepD s
theorem q_of {Q : Dt → Prop} {d e : Dt} (q : Q d) (h : e = d) : Q e := h ▸ q
theorem csum_append (a b : List (Nat × Int)) (j : Nat) : csum (a ++ b) j = csum a j + csum b j := by
  induction a with
  | nil => show csum b j = 0 + csum b j; omega
  | cons x a ih => show pt x.1 x.2 j + csum (a ++ b) j = pt x.1 x.2 j + csum a j + csum b j; omega
theorem csum_take {l : List (Nat × Int)} {i : Nat} {x : Nat × Int} (h : l[i]? = some x) (j : Nat) : csum (l.take (i + 1)) j = csum (l.take i) j + pt x.1 x.2 j := by
  rw [List.take_succ, h, csum_append]
  show _ + (pt x.1 x.2 j + 0) = _
  omega
theorem chg_bd {n : Int} (h1 : 1 ≤ n) (h2 : n ≤ 60) {s : Stp} : ∀ x ∈ chg n s, -1000 ≤ x.2 ∧ x.2 ≤ 1000 := by
  intro x hx
  have o1 : (-1000 : Int) ≤ 1 ∧ (1 : Int) ≤ 1000 := by decide
  have o2 : (-1000 : Int) ≤ -1 ∧ (-1 : Int) ≤ 1000 := by decide
  match s, hx with
  | (true, p), hx =>
    rcases List.mem_cons.mp hx with rfl | hx
    · exact o1
    rcases List.mem_cons.mp hx with rfl | hx
    · show -1000 ≤ -n ∧ -n ≤ 1000; omega
    rw [List.mem_singleton.mp hx]
    exact o2
  | (false, 0), hx =>
    rcases List.mem_cons.mp hx with rfl | hx
    · exact o1
    rw [List.mem_singleton.mp hx]
    show -1000 ≤ -n - 1 ∧ -n - 1 ≤ 1000; omega
  | (false, 1), hx =>
    rcases List.mem_cons.mp hx with rfl | hx
    · exact o1
    rcases List.mem_cons.mp hx with rfl | hx
    · show -1000 ≤ -n - 1 ∧ -n - 1 ≤ 1000; omega
    rw [List.mem_singleton.mp hx]
    show -1000 ≤ n ∧ n ≤ 1000; omega
  | (false, p + 2), hx =>
    rcases List.mem_cons.mp hx with rfl | hx
    · exact o1
    rcases List.mem_cons.mp hx with rfl | hx
    · show -1000 ≤ -n - 1 ∧ -n - 1 ≤ 1000; omega
    rcases List.mem_cons.mp hx with rfl | hx
    · show -1000 ≤ n - 1 ∧ n - 1 ≤ 1000; omega
    rw [List.mem_singleton.mp hx]
    exact o1
theorem hf_pad (l : List Int) (k i : Nat) : hf (l ++ List.replicate k 0) i = hf l i := by
  unfold hf
  rw [List.getD_eq_getElem?_getD, List.getD_eq_getElem?_getD]
  by_cases h : i < l.length
  · rw [List.getElem?_append_left h]
  · rw [List.getElem?_append_right (by omega), List.getElem?_eq_none (show l.length ≤ i by omega), List.getElem?_replicate]
    split <;> rfl
theorem hf_set {l : List Int} {p : Nat} (h : p < l.length) (c : Int) (i : Nat) : hf (l.set p (hf l p + c)) i = hf l i + pt p c i := by
  unfold hf pt
  rw [List.getD_eq_getElem?_getD, List.getD_eq_getElem?_getD, List.getD_eq_getElem?_getD]
  by_cases e : i = p
  · subst e
    rw [List.getElem?_set_self h, if_pos rfl]
    rfl
  · rw [List.getElem?_set_ne (fun z => e z.symm), if_neg e]
    omega
theorem get_hf {l : List Int} {p : Nat} (h : p < l.length) : (l.map Dt.int)[p]? = some (.int (hf l p)) := by
  unfold hf
  rw [List.getElem?_map, List.getElem?_eq_getElem h, List.getD_eq_getElem?_getD, List.getElem?_eq_getElem h]
  rfl
theorem rep_step (k : Nat) (s : Stp) : (List.replicate k [stepD s]).flatten = (List.replicate k s).map stepD := by
  induction k with
  | zero => rfl
  | succ k ih => rw [List.replicate_succ, List.flatten_cons, ih]; rfl
theorem rep_stepO (k : Nat) (s : Stp) : (List.replicate k [optS (some s)]).flatten = (List.replicate k s).map stepD := rep_step k s
theorem Can.pos {n : Int} (hn : 1 ≤ n) {s : Stp} {f : Nat → Int} (h : Can n s f) : 0 < f s.2 := by
  match s, h with
  | (true, p), ⟨_, h2, _⟩ => show 0 < f p; omega
  | (false, p), h =>
    have h : n < f p := h
    show 0 < f p; omega
theorem Oft.le_pot {n m : Int} (hn : 1 ≤ n) {s : Stp} {l : List Int} (l0 : ∀ i, 0 ≤ hf l i) (hm : 0 ≤ m) (h : Oft n s (hf l) m) (hs : s.2 < l.length) : m ≤ pot n l := by
  have a : m ≤ hf l s.2 := by
    match s, h with
    | (true, p), ⟨_, h2, _⟩ =>
      have := Int.mul_le_mul_of_nonneg_left hn hm
      show m ≤ hf l p; omega
    | (false, p), h =>
      have h : m * (n + 1) ≤ hf l p := h
      have := Int.mul_le_mul_of_nonneg_left (show 1 ≤ n + 1 by omega) hm
      show m ≤ hf l p; omega
  have b := sm_ge (w := cst n) (fun i => by have := (cst_pos n i).1; omega) l0 l.length hs
  have c := Int.mul_le_mul_of_nonneg_left (cst_pos n s.2).1 (l0 s.2)
  show m ≤ sm (cst n) (hf l) l.length
  omega
theorem fdiv_fmodH (a b : Int) : a = b * a.fdiv b + a.fmod b := by have := Int.fmod_def a b; omega
theorem fdiv_le {a b : Int} (hb : 0 < b) : a.fdiv b * b ≤ a := by
  have := fdiv_fmodH a b
  have := Int.fmod_nonneg_of_pos a hb
  rw [Int.mul_comm]
  omega
theorem fdiv_pos {a b : Int} (hb : 0 < b) (h : b ≤ a) : 1 ≤ a.fdiv b := by
  have e := fdiv_fmodH a b
  have f := Int.fmod_lt_of_pos a hb
  rcases Int.lt_or_le 0 (a.fdiv b) with z | z
  · exact z
  · have := Int.mul_le_mul_of_nonneg_left z (show 0 ≤ b by omega)
    omega
def S_mixed : DSp := fun ds Q => ∃ z, ds = [.int z] ∧ ∀ r : Int, 0 ≤ r → Q (.int r)
def lnd (n : Int) (l : Nat) : List (Nat × Int) := [(l, -1), (l - 1, n), (l - 2, 1)]
theorem lnd_w {n : Int} {l : Nat} (h : 1 ≤ l) : ls (wf n) (lnd n l) = 0 := by
  show -1 * wf n l + (n * wf n (l - 1) + (1 * wf n (l - 2) + 0)) = 0
  match l, h with
  | 1, _ => rw [wf_1]; show -1 * (n + 1) + (n * wf n 0 + (1 * wf n 0 + 0)) = 0; rw [wf_0]; omega
  | l + 2, _ =>
    rw [wf_2, show l + 2 - 1 = l + 1 by omega, show l + 2 - 2 = l by omega]
    omega
theorem lnd_at (n : Int) (l i : Nat) : csum (lnd n l) i = (if i = l then -1 else 0) + ((if i = l - 1 then n else 0) + ((if i = l - 2 then 1 else 0) + 0)) := rfl
theorem sm_mono {w f g : Nat → Int} (hw : ∀ i, 0 ≤ w i) : ∀ m, (∀ i, i < m → f i ≤ g i) → sm w f m ≤ sm w g m
  | 0, _ => Int.le_refl _
  | m + 1, h => by
    have := sm_mono hw m fun i hi => h i (by omega)
    have := Int.mul_le_mul_of_nonneg_right (h m (by omega)) (hw m)
    show sm w f m + f m * w m ≤ sm w g m + g m * w m
    omega
theorem sm_eq {w f g : Nat → Int} : ∀ m, (∀ i, i < m → f i = g i) → sm w f m = sm w g m
  | 0, _ => rfl
  | m + 1, h => by
    show sm w f m + f m * w m = sm w g m + g m * w m
    rw [sm_eq m fun i hi => h i (by omega), h m (by omega)]
structure Lv (n : Int) (d : Nat → Int) (L p : Nat) (g : Nat → Int) : Prop where
  ab : ∀ i, p < i → 0 ≤ g i
  lo : ∀ i, i + 1 < p → g i = d i
  nx : ∀ i, i + 1 = p → g i = d i ∨ (0 ≤ g p ∧ g i = d i + 1)
  at_ : -n ≤ g p
  hi : ∀ i, g i ≤ n + 1
  wq : sm (wf n) g L = sm (wf n) d L
  out : ∀ i, L ≤ i → g i = 0
theorem Lv.start {n : Int} {d : Nat → Int} {L : Nat} (hd : ∀ i, -n ≤ d i ∧ d i ≤ n) (ho : ∀ i, L ≤ i → d i = 0) : Lv n d L (L - 1) d :=
  ⟨fun i h => by rw [ho i (by omega)]; exact Int.le_refl _, fun _ _ => rfl, fun _ _ => .inl rfl, (hd _).1, fun i => by have := hd i; omega, rfl, ho⟩
theorem Lv.next {n : Int} {d g : Nat → Int} {L p : Nat} (h : Lv n d L (p + 1) g) (hd : ∀ i, -n ≤ d i ∧ d i ≤ n) (h0 : 0 ≤ g (p + 1)) : Lv n d L p g := by
  refine ⟨fun i hi => ?_, fun i hi => h.lo i (by omega), fun i hi => .inl (h.lo i (by omega)), ?_, h.hi, h.wq, h.out⟩
  · rcases (by omega : i = p + 1 ∨ p + 1 < i) with rfl | z
    · exact h0
    · exact h.ab i z
  · have := hd p
    rcases h.nx p rfl with e | ⟨_, e⟩ <;> omega
def far (p : Nat) (i : Nat) : Int := if p < i then ((11 ^ i : Nat) : Int) else 0
theorem far_nn (p i : Nat) : 0 ≤ far p i := by unfold far; split; exact Int.natCast_nonneg _; exact Int.le_refl _
theorem far_sm {p : Nat} {f : Nat → Int} (h : ∀ i, p < i → 0 ≤ f i) : ∀ m, 0 ≤ sm (far p) f m
  | 0 => Int.le_refl _
  | m + 1 => by
    have ih := far_sm h m
    show 0 ≤ sm (far p) f m + f m * far p m
    by_cases e : p < m
    · have := Int.mul_nonneg (h m e) (far_nn p m)
      omega
    · rw [show far p m = 0 from if_neg e, Int.mul_zero]
      omega
theorem far_lnd {n : Int} {l p : Nat} (n0 : 1 ≤ n) (n9 : n ≤ 9) (h : p < l) : ls (far p) (lnd n l) < 0 := by
  show -1 * far p l + (n * far p (l - 1) + (1 * far p (l - 2) + 0)) < 0
  have e : far p l = ((11 ^ l : Nat) : Int) := if_pos h
  rw [e]
  match l, h with
  | 1, h =>
    have z : p = 0 := by omega
    subst z
    show -1 * ((11 ^ 1 : Nat) : Int) + (n * 0 + (1 * 0 + 0)) < 0
    rw [Int.mul_zero]
    decide
  | l + 2, h =>
    rw [show l + 2 - 1 = l + 1 by omega, show l + 2 - 2 = l by omega]
    have k1 : far p (l + 1) ≤ ((11 ^ (l + 1) : Nat) : Int) := by unfold far; split; exact Int.le_refl _; exact Int.natCast_nonneg _
    have k2 : far p l ≤ ((11 ^ l : Nat) : Int) := by unfold far; split; exact Int.le_refl _; exact Int.natCast_nonneg _
    have k0 := far_nn p (l + 1)
    have m1 := Int.mul_le_mul n9 k1 k0 (by decide)
    have p1 : (11 : Nat) ^ (l + 1) = 11 * 11 ^ l := by rw [Nat.pow_succ]; omega
    have p2 : (11 : Nat) ^ (l + 2) = 121 * 11 ^ l := by rw [Nat.pow_succ, Nat.pow_succ]; omega
    have p0 : 0 < (11 : Nat) ^ l := Nat.pow_pos (by decide)
    rw [p1] at m1
    rw [p2]
    generalize (11 : Nat) ^ l = X at *
    omega
theorem Lv.lend {n : Int} {d g : Nat → Int} {L p l : Nat} (h : Lv n d L p g) (n1 : 1 ≤ n) (n9 : n ≤ 9) (hd : ∀ i, -n ≤ d i ∧ d i ≤ n) (hp : g p < 0) (hl : p < l) (hL : l < L) (g0 : ∀ i, p < i → i < l → g i = 0) (gl : 0 < g l) :
    Lv n d L p (fun i => g i + csum (lnd n l) i) ∧ sm (far p) (fun i => g i + csum (lnd n l) i) L < sm (far p) g L := by
  have hlt : ∀ x ∈ lnd n l, x.1 < L := fun x hx => by
    simp only [lnd, List.mem_cons, List.not_mem_nil, or_false] at hx
    rcases hx with rfl | rfl | rfl
    · exact hL
    · show l - 1 < L; omega
    · show l - 2 < L; omega
  refine ⟨⟨fun i hi => ?_, fun i hi => ?_, fun i hi => ?_, ?_, fun i => ?_, ?_, fun i hi => ?_⟩, ?_⟩
  · have a := h.ab i hi
    show 0 ≤ g i + csum (lnd n l) i
    rw [lnd_at]
    by_cases e : i = l
    · subst e
      rw [if_pos rfl, if_neg (by omega)]
      split <;> omega
    · rw [if_neg e]
      split <;> split <;> omega
  · have a := h.lo i hi
    show g i + csum (lnd n l) i = d i
    rw [lnd_at, if_neg (by omega), if_neg (by omega), if_neg (by omega)]
    omega
  · have a := h.nx i hi
    show g i + csum (lnd n l) i = d i ∨ (0 ≤ g p + csum (lnd n l) p ∧ g i + csum (lnd n l) i = d i + 1)
    have hb := h.at_
    have a' : g i = d i := by rcases a with e | ⟨e, _⟩ <;> omega
    rw [lnd_at, lnd_at]
    by_cases e : l = p + 1
    · subst e
      refine .inr ⟨?_, ?_⟩
      · rw [if_neg (by omega), if_pos (by omega)]
        split <;> omega
      · rw [if_neg (by omega), if_neg (by omega), if_pos (by omega)]
        omega
    · refine .inl ?_
      rw [if_neg (by omega), if_neg (by omega), if_neg (by omega)]
      omega
  · have hb := h.at_
    show -n ≤ g p + csum (lnd n l) p
    rw [lnd_at, if_neg (by omega)]
    split <;> split <;> omega
  · have a := h.hi i
    show g i + csum (lnd n l) i ≤ n + 1
    rw [lnd_at]
    by_cases e : i = l
    · subst e
      rw [if_pos rfl, if_neg (by omega), if_neg (by omega)]
      omega
    · rw [if_neg e]
      by_cases e1 : i = l - 1
      · rw [if_pos e1]
        have : g i ≤ 0 := by
          rcases (by omega : i = p ∨ p < i) with z | z
          · rw [z]; omega
          · rw [g0 i z (by omega)]; exact Int.le_refl _
        by_cases ep : i = p
        · have : g i < 0 := by rw [ep]; exact hp
          split <;> omega
        · have : ¬ i = l - 2 := by omega
          rw [if_neg this]
          omega
      · rw [if_neg e1]
        by_cases e2 : i = l - 2
        · rw [if_pos e2]
          have : g i ≤ n := by
            rcases (by omega : i + 1 = p ∨ i = p ∨ p < i) with z | z | z
            · rcases h.nx i z with q | ⟨q, _⟩
              · rw [q]; exact (hd i).2
              · omega
            · rw [z]; omega
            · rw [g0 i z (by omega)]; omega
          omega
        · rw [if_neg e2]
          omega
  · rw [sm_add, sm_csum _ _ _ hlt, lnd_w (by omega), Int.add_zero]
    exact h.wq
  · show g i + csum (lnd n l) i = 0
    rw [lnd_at, if_neg (by omega), if_neg (by omega), if_neg (by omega), h.out i hi]
    rfl
  · rw [sm_add, sm_csum _ _ _ hlt]
    have := far_lnd n1 n9 hl
    omega
theorem Lv.less {n : Int} {d g o : Nat → Int} {L p : Nat} (h : Lv n d L p g) (n1 : 1 ≤ n) (hp : g p < 0) (hL : p < L) (g0 : ∀ i, p < i → g i = 0) (hdo : ∀ i, d i ≤ o i) (ho : sm (wf n) o p < wf n p) : sm (wf n) d L < 0 := by
  have w0 : ∀ i, 0 ≤ wf n i := fun i => by have := (wf_pos n1 i).1; omega
  rw [← h.wq, sm_ext (wf n) (k := p + 1) (fun i hi => g0 i (by omega)) L (by omega)]
  show sm (wf n) g p + g p * wf n p < 0
  have e : sm (wf n) g p = sm (wf n) d p := sm_eq p fun i hi => by
    rcases (by omega : i + 1 < p ∨ i + 1 = p) with z | z
    · exact h.lo i z
    · rcases h.nx i z with q | ⟨q, _⟩
      · exact q
      · omega
  have m := sm_mono w0 p fun i _ => hdo i
  have k := Int.mul_le_mul_of_nonneg_right (show g p ≤ -1 by omega) (w0 p)
  omega
theorem sm_cg {w f g : Nat → Int} : ∀ m, (∀ i, i < m → f i = g i) → sm w f m = sm w g m
  | 0, _ => rfl
  | m + 1, h => by show sm w f m + f m * w m = sm w g m + g m * w m; rw [sm_cg m fun i hi => h i (Nat.lt_succ_of_lt hi), h m (Nat.lt_succ_self m)]
theorem hw_snoc (n : Int) (l : List Int) (z : Int) : hw n (l ++ [z]) = hw n l + z * wf n l.length := by
  show sm (wf n) (hf (l ++ [z])) (l ++ [z]).length = sm (wf n) (hf l) l.length + _
  rw [List.length_append]
  show sm (wf n) (hf (l ++ [z])) l.length + hf (l ++ [z]) l.length * wf n l.length = _
  rw [sm_cg (f := hf (l ++ [z])) (g := hf l) l.length (fun i hi => getD_snoc_lt hi)]
  unfold hf
  rw [getD_snoc_eq]
theorem Lg.nonneg {n : Int} {r : List Int} (h : Lg .falling n r) (h1 : 1 ≤ n) : 0 ≤ hw n r := by
  generalize hl : r.length = m
  induction m generalizing r with
  | zero => obtain rfl : r = [] := List.length_eq_zero_iff.mp hl; exact Int.le_refl 0
  | succ m ih =>
    rcases snoc_cases r with rfl | ⟨l, z, rfl⟩
    · cases hl
    · have hz := h.fig l.length (by rw [List.length_append]; simp)
      rw [getD_snoc_eq] at hz
      have hz0 : 0 ≤ z := hz.1
      have := ih h.pop (by rw [List.length_append] at hl; exact Nat.succ.inj hl)
      rw [hw_snoc]
      have := Int.mul_nonneg hz0 (show 0 ≤ wf n l.length by have := (wf_pos h1 l.length).1; omega)
      omega
theorem Lg.lt {n : Int} (h1 : 1 ≤ n) : ∀ (m : Nat) (r : List Int), r.length = m → Lg .falling n r → hw n r < wf n m := by
  intro m
  induction m using Nat.strongRecOn with
  | ind m ih =>
    intro r hl h
    rcases snoc_cases r with rfl | ⟨l, z, rfl⟩
    · subst hl; show (0 : Int) < wf n 0; rw [wf_0]; decide
    · have el : l.length + 1 = m := by rw [List.length_append] at hl; exact hl
      have hz := h.fig l.length (by rw [List.length_append]; simp)
      rw [getD_snoc_eq] at hz
      have hz0 : 0 ≤ z := hz.1
      have hz1 : z ≤ n := hz.2
      have il := ih l.length (by omega) l rfl h.pop
      have wp := (wf_pos h1 l.length).1
      rw [hw_snoc, ← el]
      rcases (by omega : z ≤ n - 1 ∨ z = n) with c | c
      · have k1 := Int.mul_le_mul_of_nonneg_right c (show 0 ≤ wf n l.length by omega)
        have k2 : (n - 1) * wf n l.length = n * wf n l.length - wf n l.length := by rw [Int.sub_mul, Int.one_mul]
        have k3 : n * wf n l.length < wf n (l.length + 1) := by
          cases l.length with
          | zero => rw [wf_1, wf_0]; omega
          | succ q => rw [wf_2]; have := (wf_pos h1 q).1; omega
        omega
      · subst c
        rcases snoc_cases l with rfl | ⟨l', y, rfl⟩
        · show (0 : Int) + z * wf z 0 < wf z 1
          rw [wf_0, wf_1]; omega
        · have hy := h.fal rfl l'.length (by rw [List.length_append, List.length_append]; simp) (by
            have := getD_snoc_eq (r := l' ++ [y]) (z := z)
            rw [List.length_append] at this
            exact this)
          rw [getD_snoc_lt (by rw [List.length_append]; simp), getD_snoc_eq] at hy
          subst hy
          have i2 := ih l'.length (by rw [List.length_append] at el; simp at el; omega) l' rfl h.pop.pop
          rw [hw_snoc, Int.zero_mul, Int.add_zero, List.length_append]
          show _ + z * wf z (l'.length + 1) < wf z (l'.length + 2)
          rw [wf_2]
          omega
theorem uniqF_len {n : Int} (h1 : 1 ≤ n) : ∀ (m : Nat) (r s : List Int), r.length = m → s.length = m → Lg .falling n r → Lg .falling n s → hw n r = hw n s → r = s
  | 0, r, s, hr, hs, _, _, _ => by rw [List.length_eq_zero_iff.mp hr, List.length_eq_zero_iff.mp hs]
  | m + 1, r, s, hr, hs, Lr, Ls, e => by
    rcases snoc_cases r with rfl | ⟨l, z, rfl⟩
    · cases hr
    rcases snoc_cases s with rfl | ⟨l', z', rfl⟩
    · cases hs
    have e1 : l.length = m := by rw [List.length_append] at hr; exact Nat.succ.inj hr
    have e2 : l'.length = m := by rw [List.length_append] at hs; exact Nat.succ.inj hs
    rw [hw_snoc, hw_snoc, e1, e2] at e
    have a1 := Lr.pop.nonneg h1
    have a2 := Lr.pop.lt h1 m l e1
    have b1 := Ls.pop.nonneg h1
    have b2 := Ls.pop.lt h1 m l' e2
    have wp := (wf_pos h1 m).1
    have hz : z = z' := by
      rcases (by omega : z = z' ∨ z + 1 ≤ z' ∨ z' + 1 ≤ z) with c | c | c
      · exact c
      · have := Int.mul_le_mul_of_nonneg_right c (show 0 ≤ wf n m by omega)
        rw [Int.add_mul, Int.one_mul] at this
        omega
      · have := Int.mul_le_mul_of_nonneg_right c (show 0 ≤ wf n m by omega)
        rw [Int.add_mul, Int.one_mul] at this
        omega
    subst hz
    rw [uniqF_len h1 m l l' e1 e2 Lr.pop Ls.pop (by omega)]
theorem Legal.lg {k : Kd} {n : Int} {r : List Int} (h : Legal k n r) : Lg k n r := ⟨h.fig, h.fal⟩
theorem Legal.geF {n : Int} {r : List Int} (h : Legal .falling n r) (h1 : 1 ≤ n) (hr : r ≠ []) : wf n (r.length - 1) ≤ hw n r := by
  rcases snoc_cases r with rfl | ⟨l, z, rfl⟩
  · exact absurd rfl hr
  · have hz := h.fig l.length (by rw [List.length_append]; simp)
    rw [getD_snoc_eq] at hz
    have hz0 : 0 ≤ z := hz.1
    have el : (l ++ [z]).length - 1 = l.length := by rw [List.length_append]; rfl
    rcases h.end_ with c | c
    · exact absurd c hr
    · rw [el, getD_snoc_eq] at c
      rw [hw_snoc, el]
      have a1 := h.lg.pop.nonneg h1
      have wp := (wf_pos h1 l.length).1
      have := Int.mul_le_mul_of_nonneg_right (show 1 ≤ z by omega) (show 0 ≤ wf n l.length by omega)
      omega
theorem wf_mono {n : Int} (h1 : 1 ≤ n) {i j : Nat} (h : i ≤ j) : wf n i ≤ wf n j := by
  induction h with
  | refl => exact Int.le_refl _
  | step _ ih => exact Int.le_trans ih (wf_pos h1 _).2
theorem uniqF {n : Int} {r s : List Int} (h1 : 1 ≤ n) (hr : Legal .falling n r) (hs : Legal .falling n s) (e' : hw n r = hw n s) : r = s := by
  rcases (by omega : r.length = s.length ∨ r.length < s.length ∨ s.length < r.length) with z | z | z
  · exact uniqF_len h1 _ r s z rfl hr.lg hs.lg e'
  · have a := hr.lg.lt h1 _ r rfl
    have b := hs.geF h1 (by intro q; rw [q] at z; exact absurd z (Nat.not_lt_zero _))
    have := wf_mono h1 (show r.length ≤ s.length - 1 by omega)
    omega
  · have a := hs.lg.lt h1 _ s rfl
    have b := hr.geF h1 (by intro q; rw [q] at z; exact absurd z (Nat.not_lt_zero _))
    have := wf_mono h1 (show s.length ≤ r.length - 1 by omega)
    omega
def rsum (a b : List Int) : List Int := (List.range (max a.length b.length)).map fun p => a.getD p 0 + b.getD p 0
theorem rsum_len (a b : List Int) : (rsum a b).length = max a.length b.length := by unfold rsum; rw [List.length_map, List.length_range]
theorem hf_rsum (a b : List Int) (p : Nat) : hf (rsum a b) p = hf a p + hf b p := by
  by_cases h : p < max a.length b.length
  · unfold hf rsum
    rw [List.getD_eq_getElem?_getD, List.getElem?_map, List.getElem?_range h]
    rfl
  · rw [hf_out (by rw [rsum_len]; omega), hf_out (by omega), hf_out (by omega)]
    rfl
theorem legal_nil (k : Kd) (n : Int) : Legal k n [] := ⟨fun p h => absurd h (Nat.not_lt_zero _), fun _ p h => absurd h (Nat.not_lt_zero _), .inl rfl⟩
theorem pot_small {n B : Int} {h : List Int} (hb : ∀ z ∈ h, 0 ≤ z ∧ z ≤ B) (h0 : 0 ≤ B) (hB : B ≤ 80) (hl : h.length ≤ 200) : pot n h ≤ 15000000 := by
  have p := pot_le (n := n) hb h0
  have k1 := Int.mul_le_mul hB (show 4 * (h.length : Int) + 8 ≤ 808 by omega) (by omega) (by decide)
  have k2 := Int.mul_le_mul (show (h.length : Int) ≤ 200 by omega) k1 (Int.mul_nonneg h0 (by omega)) (by decide)
  omega
theorem rsum_mem {a b : List Int} {z : Int} (h : z ∈ rsum a b) : ∃ p, z = hf a p + hf b p := by
  unfold rsum at h
  obtain ⟨p, _, rfl⟩ := List.mem_map.mp h
  exact ⟨p, rfl⟩
theorem fig_fall {n : Int} {r : List Int} (hn : Kd.falling.ok n) (h : Legal .falling n r) (p : Nat) : 0 ≤ hf r p ∧ hf r p ≤ n := by
  by_cases hp : p < r.length
  · exact h.fig p hp
  · have := hn.1
    rw [hf_out (by omega)]
    exact ⟨Int.le_refl _, by show 0 ≤ n; simp only [Kd.lo] at this; omega⟩
def fb (n : Int) (o : List Int) (L : Nat) : Nat → Int × Int
  | 0 => (0, 0)
  | m + 1 => ((fb n o L m).2, hf o (L - (m + 1)) + n * (fb n o L m).2 + (fb n o L m).1)
theorem fb_worth {n : Int} {o : List Int} : ∀ m p, p + m = o.length → hw n o = sm (wf n) (hf o) p + (fb n o o.length m).2 * (wtF n p).2 + (fb n o o.length m).1 * (wtF n p).1
  | 0, p, h => by
    obtain rfl : p = o.length := h
    show hw n o = hw n o + 0 * _ + 0 * _
    rw [Int.zero_mul, Int.zero_mul]
    omega
  | m + 1, p, h => by
    rw [fb_worth m (p + 1) (by omega)]
    have e1 : sm (wf n) (hf o) (p + 1) = sm (wf n) (hf o) p + hf o p * (wtF n p).2 := rfl
    have e2 : wtF n (p + 1) = ((wtF n p).2, n * (wtF n p).2 + (wtF n p).1) := rfl
    have e3 : fb n o o.length (m + 1) = ((fb n o o.length m).2, hf o p + n * (fb n o o.length m).2 + (fb n o o.length m).1) := by
      show (_, hf o (o.length - (m + 1)) + _ + _) = _
      rw [show o.length - (m + 1) = p by omega]
    rw [e1, e2, e3]
    generalize sm (wf n) (hf o) p = S
    generalize fb n o o.length m = B
    generalize wtF n p = W
    grind
theorem fb_all (n : Int) (o : List Int) : hw n o = (fb n o o.length o.length).2 + (fb n o o.length o.length).1 := by
  rw [fb_worth o.length 0 (Nat.zero_add _)]
  show 0 + _ * 1 + _ * 1 = _
  omega
theorem fb_bd {n : Int} {o : List Int} (L : Nat) (n1 : 1 ≤ n) (h : ∀ p, 0 ≤ hf o p ∧ hf o p ≤ n) : ∀ m, 0 ≤ (fb n o L m).1 ∧ 0 ≤ (fb n o L m).2 ∧ (fb n o L m).1 + 1 ≤ (wtF n m).1 ∧ (fb n o L m).2 + 1 ≤ (wtF n m).2
  | 0 => ⟨Int.le_refl _, Int.le_refl _, Int.le_refl _, Int.le_refl _⟩
  | m + 1 => by
    obtain ⟨a, b, c, d⟩ := fb_bd L n1 h m
    obtain ⟨f1, f2⟩ := h (L - (m + 1))
    have m1 := Int.mul_nonneg (show 0 ≤ n by omega) b
    have m2 := Int.mul_le_mul_of_nonneg_left d (show 0 ≤ n by omega)
    rw [Int.mul_add, Int.mul_one] at m2
    have e : fb n o L (m + 1) = ((fb n o L m).2, hf o (L - (m + 1)) + n * (fb n o L m).2 + (fb n o L m).1) := rfl
    have e2 : wtF n (m + 1) = ((wtF n m).2, n * (wtF n m).2 + (wtF n m).1) := rfl
    rw [e, e2]
    exact ⟨b, by dsimp only; omega, d, by dsimp only; omega⟩
theorem wf_mul {n : Int} (n1 : 1 ≤ n) (i : Nat) : ∀ j, wf n i * wf n j ≤ wf n (i + j + 1) ∧ wf n i * wf n (j + 1) ≤ wf n (i + j + 2)
  | 0 => by
    obtain ⟨p1, p2⟩ := wf_pos n1 i
    rw [wf_0, wf_1, Int.mul_one, Nat.add_zero, wf_2, Int.mul_add, Int.mul_one, Int.mul_comm _ n]
    have := Int.mul_le_mul_of_nonneg_left p2 (show 0 ≤ n by omega)
    exact ⟨p2, by omega⟩
  | j + 1 => by
    obtain ⟨a, b⟩ := wf_mul n1 i j
    refine ⟨b, ?_⟩
    have e1 : wf n (j + 1 + 1) = n * wf n (j + 1) + wf n j := wf_2 n j
    have e2 : wf n (i + (j + 1) + 2) = n * wf n (i + j + 2) + wf n (i + j + 1) := wf_2 n (i + j + 1)
    rw [e1, e2, Int.mul_add]
    have := Int.mul_le_mul_of_nonneg_left b (show 0 ≤ n by omega)
    have e3 : wf n i * (n * wf n (j + 1)) = n * (wf n i * wf n (j + 1)) := by grind
    omega
theorem wf_lt {n : Int} (n1 : 1 ≤ n) {i j : Nat} (h : i < j) : wf n i < wf n j := by
  induction j with
  | zero => exact absurd h (Nat.not_lt_zero _)
  | succ j ih =>
    have s : wf n j < wf n (j + 1) := by
      cases j with
      | zero => rw [wf_0, wf_1]; omega
      | succ q =>
        have p1 := (wf_pos n1 q).1
        have p2 := (wf_pos n1 (q + 1)).1
        rw [wf_2]
        have := Int.mul_le_mul_of_nonneg_right n1 (show 0 ≤ wf n (q + 1) by omega)
        omega
    rcases Nat.lt_or_ge i j with z | z
    · exact Int.lt_trans (ih z) s
    · obtain rfl : i = j := by omega
      exact s
theorem fall_len {n : Int} {r : List Int} {M : Nat} (hn : Kd.falling.ok n) (h : Legal .falling n r) (hb : hw n r ≤ wf n M) : r.length ≤ M + 1 := by
  have n1 : 1 ≤ n := hn.1
  rcases Nat.lt_or_ge (M + 1) r.length with z | z
  · have f := fig_fall hn h
    have g := sm_ge (w := wf n) (f := hf r) (fun i => by have := (wf_pos n1 i).1; omega) (fun i => (f i).1) (i := r.length - 1) r.length (by omega)
    have hne : hf r (r.length - 1) ≠ 0 := by
      rcases h.end_ with q | q
      · rw [q] at z; exact absurd z (Nat.not_lt_zero _)
      · exact q
    have f0 := (f (r.length - 1)).1
    have := Int.mul_le_mul_of_nonneg_right (show 1 ≤ hf r (r.length - 1) by omega) (show 0 ≤ wf n (r.length - 1) by have := (wf_pos n1 (r.length - 1)).1; omega)
    have l := wf_lt n1 (show M < r.length - 1 by omega)
    have hb' : sm (wf n) (hf r) r.length ≤ wf n M := hb
    omega
  · exact z
theorem fb_le {n : Int} {o : List Int} (L : Nat) (n1 : 1 ≤ n) (h : ∀ p, 0 ≤ hf o p ∧ hf o p ≤ n) (m : Nat) : 0 ≤ (fb n o L m).2 ∧ (fb n o L m).2 ≤ wf n m ∧ 0 ≤ (fb n o L m).2 + (fb n o L m).1 ∧ (fb n o L m).2 + (fb n o L m).1 ≤ wf n (m + 1) := by
  obtain ⟨a, b, c, d⟩ := fb_bd L n1 h m
  have e : wf n (m + 1) = n * (wtF n m).2 + (wtF n m).1 := rfl
  have d' : (fb n o L m).2 + 1 ≤ wf n m := d
  have := Int.mul_le_mul_of_nonneg_right n1 (show 0 ≤ (wtF n m).2 by omega)
  exact ⟨b, by omega, by omega, by omega⟩
theorem mul_wf {n x y : Int} {i j : Nat} (n1 : 1 ≤ n) (x0 : 0 ≤ x) (hx : x ≤ wf n i) (y0 : 0 ≤ y) (hy : y ≤ wf n j) : 0 ≤ x * y ∧ x * y ≤ wf n (i + j + 1) := by
  have p := (wf_pos n1 i).1
  exact ⟨Int.mul_nonneg x0 y0, Int.le_trans (Int.mul_le_mul hx hy y0 (by omega)) (wf_mul n1 i j).1⟩
theorem pot_big {n B : Int} {h : List Int} (hb : ∀ z ∈ h, 0 ≤ z ∧ z ≤ B) (h0 : 0 ≤ B) (hB : B ≤ 180) (hl : h.length ≤ 110) : pot n h ≤ 15000000 := by
  have p := pot_le (n := n) hb h0
  have k1 := Int.mul_le_mul hB (show 4 * (h.length : Int) + 8 ≤ 448 by omega) (by omega) (by decide)
  have k2 := Int.mul_le_mul (show (h.length : Int) ≤ 110 by omega) k1 (Int.mul_nonneg h0 (by omega)) (by decide)
  omega
def itim (a : List Int) (c : Int) : List Int := a.map (· * c)
theorem hf_itim (a : List Int) (c : Int) (p : Nat) : hf (itim a c) p = hf a p * c := by
  unfold hf itim
  rw [List.getD_eq_getElem?_getD, List.getD_eq_getElem?_getD, List.getElem?_map]
  cases a[p]? with
  | none => show (0 : Int) = 0 * c; rw [Int.zero_mul]
  | some z => rfl
theorem take_snoc {a : List Int} {i : Nat} (h : i < a.length) : a.take (i + 1) = a.take i ++ [a.getD i 0] := by
  rw [List.take_succ, List.getD_eq_getElem?_getD, List.getElem?_eq_getElem h]
  rfl
theorem Lg.init {n : Int} {l : List Int} {z : Int} (h : Lg .falling n (l ++ [z])) : Lg .falling n l := by
  refine ⟨fun p hp => ?_, fun hF p hp => ?_⟩
  · have := h.1 p (by rw [List.length_append]; omega)
    rwa [getD_snoc_lt hp] at this
  · have := h.2 hF p (by rw [List.length_append]; omega)
    rwa [getD_snoc_lt hp, getD_snoc_lt (by omega)] at this
theorem pre_lt {n : Int} (n1 : 1 ≤ n) : ∀ (m : Nat) (a : List Int), a.length = m → Lg .falling n a → ∀ p, p ≤ m → sm (wf n) (hf a) p < wf n p := by
  intro m
  induction m with
  | zero =>
    intro a ha h p hp
    obtain rfl : p = 0 := by omega
    show (0 : Int) < wf n 0
    rw [wf_0]
    decide
  | succ m ih =>
    intro a ha h p hp
    rcases (by omega : p = m + 1 ∨ p ≤ m) with e | e
    · have := Lg.lt n1 (m + 1) a ha h
      rw [e, ← ha]
      rw [← ha] at this
      exact this
    · rcases snoc_cases a with rfl | ⟨l, z, rfl⟩
      · cases ha
      · have hl : l.length = m := by rw [List.length_append] at ha; exact Nat.succ.inj ha
        have e3 : sm (wf n) (hf (l ++ [z])) p = sm (wf n) (hf l) p := sm_eq p fun i hi => getD_snoc_lt (by omega)
        rw [e3]
        exact ih l hl h.init p e
theorem pre_all {n : Int} {a : List Int} (n1 : 1 ≤ n) (h : Lg .falling n a) (p : Nat) : sm (wf n) (hf a) p < wf n p := by
  rcases (by omega : p ≤ a.length ∨ a.length < p) with z | z
  · exact pre_lt n1 _ a rfl h p z
  · rw [sm_ext (wf n) (fun i hi => hf_out hi) p (by omega)]
    exact Int.lt_trans (pre_lt n1 _ a rfl h a.length (Nat.le_refl _)) (wf_lt n1 z)
theorem rsub_hf (a b : List Int) (p : Nat) : hf (rsum a (itim b (-1))) p = hf a p - hf b p := by rw [hf_rsum, hf_itim]; omega
def tz (n : Int) : Nat → List Int → Int
  | _, [] => 0
  | p, d :: ds => d * wf n p + tz n (p + 1) ds
theorem drop_cons {o ds : List Int} {d : Int} {p : Nat} (h : o.drop p = d :: ds) : o.getD p 0 = d ∧ o.drop (p + 1) = ds := by
  have hp : p < o.length := by
    rcases Nat.lt_or_ge p o.length with z | z
    · exact z
    · rw [List.drop_of_length_le z] at h; cases h
  rw [List.drop_eq_getElem_cons hp] at h
  injection h with h1 h2
  exact ⟨by rw [List.getD_eq_getElem?_getD, List.getElem?_eq_getElem hp]; exact h1, h2⟩
theorem sm_tz {n : Int} {o : List Int} : ∀ (l : List Int) (p : Nat), o.drop p = l → sm (wf n) (hf o) (p + l.length) = sm (wf n) (hf o) p + tz n p l
  | [], p, _ => by show sm (wf n) (hf o) p = _ + (0 : Int); rw [Int.add_zero]
  | d :: ds, p, h => by
    obtain ⟨h1, h2⟩ := drop_cons h
    have := sm_tz (n := n) ds (p + 1) h2
    rw [List.length_cons, show p + (ds.length + 1) = p + 1 + ds.length by omega, this]
    show sm (wf n) (hf o) p + hf o p * wf n p + tz n (p + 1) ds = sm (wf n) (hf o) p + (d * wf n p + tz n (p + 1) ds)
    rw [show hf o p = d from h1, Int.add_assoc]
theorem tz_hw (n : Int) (l : List Int) : hw n l = tz n 0 l := by
  have := sm_tz (n := n) (o := l) l 0 rfl
  rw [Nat.zero_add] at this
  show sm (wf n) (hf l) l.length = _
  rw [this]
  show (0 : Int) + _ = _
  rw [Int.zero_add]
theorem div_mod (a m : Int) (h : 1 ≤ m) : a = m * a.fdiv m + a.fmod m ∧ 0 ≤ a.fmod m ∧ a.fmod m < m := by
  have := Int.mul_fdiv_add_fmod a m
  exact ⟨this.symm, Int.fmod_nonneg_of_pos a (by omega), Int.fmod_lt_of_pos a (by omega)⟩
theorem quo_bd {a m q e B : Int} (h : a = m * q + e) (h0 : 0 ≤ e) (h1 : e < m) (hB : 0 ≤ B) (ha : a ≤ B * m) (hb : -(B * m) ≤ a) : -B ≤ q ∧ q ≤ B := by
  constructor
  · apply Classical.byContradiction
    intro z
    have := Int.mul_le_mul_of_nonneg_left (show q ≤ -B - 1 by omega) (show 0 ≤ m by omega)
    rw [Int.mul_sub, Int.mul_neg, Int.mul_comm m B, Int.mul_one] at this
    omega
  · apply Classical.byContradiction
    intro z
    have := Int.mul_le_mul_of_nonneg_left (show B + 1 ≤ q by omega) (show 0 ≤ m by omega)
    rw [Int.mul_add, Int.mul_comm m B, Int.mul_one] at this
    omega
theorem quo_nn {a m q e : Int} (hm : 1 ≤ m) (h : a = m * q + e) (h1 : e < m) (ha : 0 ≤ a) : 0 ≤ q := by
  apply Classical.byContradiction
  intro z
  have := Int.mul_le_mul_of_nonneg_left (show q ≤ -1 by omega) (show 0 ≤ m by omega)
  omega
theorem hw_M {n : Int} {l : List Int} {M : Nat} (h : l.length ≤ M) : hw n l = sm (wf n) (hf l) M := (sm_ext (wf n) (fun i hi => hf_out hi) M h).symm
theorem hw_rsum (n : Int) (a b : List Int) : hw n (rsum a b) = hw n a + hw n b := by
  have e : hf (rsum a b) = fun p => hf a p + hf b p := funext (hf_rsum a b)
  have hl := rsum_len a b
  rw [hw_M (l := rsum a b) (Nat.le_refl _), hw_M (l := a) (show a.length ≤ (rsum a b).length by omega), hw_M (l := b) (show b.length ≤ (rsum a b).length by omega), e, sm_add]
theorem itim_len (a : List Int) (c : Int) : (itim a c).length = a.length := List.length_map _
theorem hw_itim (n : Int) (a : List Int) (c : Int) : hw n (itim a c) = hw n a * c := by
  have e : hf (itim a c) = fun p => c * hf a p := funext fun p => by rw [hf_itim, Int.mul_comm]
  show sm (wf n) (hf (itim a c)) (itim a c).length = sm (wf n) (hf a) a.length * c
  rw [itim_len, e, sm_mul, Int.mul_comm]
def S_atI : DSp := fun ds Q => ∃ xs, ∃ k : Nat, ds = [rowD xs, .int k] ∧ Q (.int (hf xs k))
def S_addI : DSp := fun ds Q => ∃ a b : Int, ds = [.int a, .int b] ∧ Q (.int (a + b))
def S_mulI : DSp := fun ds Q => ∃ a b : Int, ds = [.int a, .int b] ∧ IntMulOk a b ∧ Q (.int (a * b))
def S_rplusI : DSp := fun ds Q => ∃ a b, ds = [rowD a, rowD b] ∧ a.length ≤ 1000 ∧ b.length ≤ 1000 ∧ Q (rowD (rsum a b))
def S_rtimesI : DSp := fun ds Q => ∃ a c, ds = [rowD a, .int c] ∧ a.length ≤ 1000 ∧ -1000000 ≤ c ∧ c ≤ 1000000 ∧ Q (rowD (itim a c))
theorem fig_pot {n : Int} {h : List Int} (hg : ∀ z ∈ h, 0 ≤ z ∧ z ≤ 200) (hl : h.length ≤ 120) : pot n h ≤ 15000000 := by
  have p := pot_le (n := n) hg (by decide)
  have k1 := Int.mul_le_mul (Int.le_refl 200) (show 4 * (h.length : Int) + 8 ≤ 488 by omega) (by omega) (by decide)
  have k2 := Int.mul_le_mul (show (h.length : Int) ≤ 120 by omega) k1 (Int.mul_nonneg (by decide) (by omega)) (by decide)
  omega
def S_legL : DSp := fun ds Q => ∃ n r, ds = [.int n, rowD r] ∧ Legal .falling n r ∧ r.length ≤ 1000 ∧ Q (.bl true)
def Fg (k : Kd) (n : Int) (r : List Int) : Prop := ∀ p, p < r.length → k.low n p ≤ r.getD p 0 ∧ r.getD p 0 ≤ k.high n p
theorem Fg.put {k : Kd} {n : Int} {r : List Int} (hn : k.ok n) (h : Fg k n r) (j : Nat) : Fg k n (r.set j 0) := fun p hp => by
  rw [List.length_set] at hp
  by_cases q : j = p
  · subst q
    rw [getD_set_eq hp]
    exact low_le hn j
  · rw [getD_set_ne q]
    exact h p hp
def Fl (k : Kd) (n : Int) (r : List Int) (i : Nat) : Prop := k.isF = true → ∀ q : Nat, r.length ≤ q + 1 + i → q + 1 < r.length → r.getD (q + 1) 0 = n → r.getD q 0 = 0
theorem Fl.put {k : Kd} {n : Int} {r : List Int} {i j : Nat} (hn : k.ok n) (h : Fl k n r i) (hj : j + i < r.length) : Fl k n (r.set j 0) i := fun hk q h1 h2 h3 => by
  rw [List.length_set] at h1 h2
  by_cases e : j = q
  · subst e; rw [getD_set_eq (by omega)]
  · rw [getD_set_ne e]
    by_cases e2 : j = q + 1
    · subst e2
      rw [getD_set_eq (by omega)] at h3
      have := hn.1
      cases k <;> simp only [Kd.lo] at this <;> first | omega | cases hk
    · rw [getD_set_ne e2] at h3
      exact h hk q h1 h2 h3
theorem Fg.snoc {k : Kd} {n f : Int} {r : List Int} {i : Nat} (hlr : r.length = i) (hp : ∀ p, p < i → k.low n p ≤ r.getD p 0 ∧ r.getD p 0 ≤ k.high n p) (hf : k.low n i ≤ f ∧ f ≤ k.high n i) :
    ∃ r' : List Int, r.map Dt.int ++ [.int f] = r'.map Dt.int ∧ r'.length = i + 1 ∧ ∀ p, p < i + 1 → k.low n p ≤ r'.getD p 0 ∧ r'.getD p 0 ≤ k.high n p := by
  refine ⟨r ++ [f], by rw [List.map_append]; rfl, by rw [List.length_append, hlr]; rfl, fun p hp' => ?_⟩
  rcases (by omega : p < i ∨ p = i) with z | z
  · rw [getD_snoc_lt (by omega)]
    exact hp p z
  · subst z
    rw [← hlr, getD_snoc_eq, hlr]
    exact hf
def Wb (n : Int) (M : Nat) (r : List Int) : Prop := Legal .falling n r ∧ hw n r ≤ wf n M
theorem Wb.len {n : Int} {M : Nat} {r : List Int} (h : Wb n M r) (hn : Kd.falling.ok n) : r.length ≤ M + 1 := fall_len hn h.1 h.2
theorem Wb.nn {n : Int} {M : Nat} {r : List Int} (h : Wb n M r) (n1 : 1 ≤ n) : 0 ≤ hw n r := h.1.lg.nonneg n1
theorem wb_of {n : Int} {M : Nat} {r : List Int} (n1 : 1 ≤ n) (h : Legal .falling n r) (hl : r.length ≤ M) : Wb n M r := ⟨h, by have := h.lg.lt n1 _ r rfl; have := wf_mono n1 hl; omega⟩
theorem wf_dbl {n : Int} (n1 : 1 ≤ n) (m : Nat) : 2 * wf n m ≤ wf n (m + 2) := wf_grow n1 m 1
theorem wf_16 {n : Int} (n1 : 1 ≤ n) (m : Nat) : 16 * wf n m ≤ wf n (m + 8) := wf_grow n1 m 4
theorem Wb.bits {n : Int} {M : Nat} {r : List Int} (h : Wb n M r) (hn : Kd.falling.ok n) : (hw n r).natAbs < 2 ^ (12 * M + 1) := by
  have n1 : 1 ≤ n := hn.1
  have n9 : n ≤ 9 := hn.2
  have b : (wf n M).natAbs < 2 ^ (12 * M + 1) := (wtF_bd n1 (show n ≤ 60 by omega) M).2
  have := h.nn n1
  have := h.2
  generalize 2 ^ (12 * M + 1) = X at *
  omega
theorem wb_mul {n : Int} {i j : Nat} {a b r : List Int} (n1 : 1 ≤ n) (ha : Wb n i a) (hb : Wb n j b) (hr : Legal .falling n r) (e : hw n r = hw n a * hw n b) : Wb n (i + j + 1) r := ⟨hr, by rw [e]; exact (mul_wf n1 (ha.nn n1) ha.2 (hb.nn n1) hb.2).2⟩
theorem cut_some (xs : List Dt) (a b : Nat) : (cutD xs (some (a : Int)) (some (b : Int))).length ≤ b - a := by
  unfold cutD
  rw [HT.sIx_nat, HT.sIx_nat, List.length_take, List.length_drop]
  omega
def unit (p : Nat) : List Int := List.replicate p 0 ++ [1]
theorem unit_len (p : Nat) : (unit p).length = p + 1 := by unfold unit; rw [List.length_append, List.length_replicate]; rfl
theorem unit_lt {p i : Nat} (h : i < p) : (unit p).getD i 0 = 0 := by
  unfold unit
  rw [List.getD_eq_getElem?_getD, List.getElem?_append_left (by rw [List.length_replicate]; exact h), List.getElem?_replicate, if_pos h]
  rfl
theorem unit_eq (p : Nat) : (unit p).getD p 0 = 1 := by
  have := getD_snoc_eq (r := List.replicate p (0 : Int)) (z := 1)
  rw [List.length_replicate] at this
  exact this
theorem unit_legal {n : Int} (n1 : 1 ≤ n) (p : Nat) : Legal .falling n (unit p) := by
  refine ⟨fun i hi => ?_, fun _ i hi _ => unit_lt (by rw [unit_len] at hi; omega), .inr ?_⟩
  · show 0 ≤ (unit p).getD i 0 ∧ (unit p).getD i 0 ≤ n
    rw [unit_len] at hi
    rcases (by omega : i < p ∨ i = p) with h | h
    · rw [unit_lt h]; omega
    · rw [h, unit_eq]; omega
  · rw [unit_len, Nat.add_sub_cancel, unit_eq]; decide
def S_figs66 : DSp := fun ds Q => ∃ n cs, ds = [.int n, rowD cs] ∧ Kd.falling.ok n ∧ cs.length ≤ 12 ∧ ∀ r, Wb n 12 r → Q (rowD r)
def S_num66 : DSp := fun ds Q => ∃ n r, ds = [.int n, rowD r] ∧ Kd.falling.ok n ∧ r.length ≤ 300 ∧ Legal .falling n r ∧ Q (.int (hw n r))
structure Adr where
  Plain : Addr
  Below : Addr
  Balanced : Addr
  Growing : Addr
  Falling : Addr
  Pairs : Addr
  TooLess : Addr
structure Txt (K : PySem.W.Frag) (mg : Str → Option Value) (A : Adr) : Prop where
  kt : KitT K
  isinstance : mg "isinstance" = none
  n_int : mg "int" = none
  n_bool : mg "bool" = none
  n_tuple : mg "tuple" = none
  n_list : mg "list" = none
  len : mg "len" = none
  range : mg "range" = none
  n_enumerate : mg "enumerate" = none
  n_min : mg "min" = none
  n_max : mg "max" = none
  cl_Falling : Cls K A.Falling
  na_Falling : NoAttr K A.Falling "most"
  cl_Pairs : Cls K A.Pairs
  na_Pairs : NoAttr K A.Pairs "most"
  gc_Falling : mg "Falling" = some (.ref A.Falling)
  gc_Pairs : mg "Pairs" = some (.ref A.Pairs)
  isi_Falling : IsiOk K A.Falling
  ki_Falling_Falling : PySem.W.kitOne K (.ref A.Falling) (.ref A.Falling) = some true
  ki_Falling_Pairs : PySem.W.kitOne K (.ref A.Falling) (.ref A.Pairs) = some false
  isi_Pairs : IsiOk K A.Pairs
  ki_Pairs_Falling : PySem.W.kitOne K (.ref A.Pairs) (.ref A.Falling) = some false
  ki_Pairs_Pairs : PySem.W.kitOne K (.ref A.Pairs) (.ref A.Pairs) = some true
  gc_TooLess : mg "TooLess" = some (.ref A.TooLess)
  ex_TooLess : ExcK K A.TooLess
  ix_TooLess : IsxOk K A.TooLess
  kx_TooLess_TooLess : PySem.W.kitOne K (.ref A.TooLess) (.ref A.TooLess) = some true
def Adr.at (A : Adr) : Kd → Addr
  | .plain => A.Plain | .below => A.Below | .balanced => A.Balanced | .growing => A.Growing | .falling => A.Falling | .pairs => A.Pairs
def wayD (A : Adr) (k : Kd) (n : Int) : Dt := .way (A.at k) k.fld n
def NF (A : Adr) (k : Kd) (R : Addr → Prop) : Prop := False
theorem nf_imp {A : Adr} {k : Kd} {R R' : Addr → Prop} (h : ∀ C, R C → R' C) (z : NF A k R) : NF A k R' := z.elim
def S_chg (A : Adr) : DSp := fun ds Q => ∃ n s, ds = [wayD A .falling n, stepD s] ∧ Kd.falling.ok n ∧ (s.1 = true → 0 < s.2) ∧ Q (.lst ((chg n s).map chD))
def S_stepAt (A : Adr) : DSp := fun ds Q => ∃ n l, ∃ p : Nat, ds = [wayD A .falling n, rowD l, .int p] ∧ Kd.falling.ok n ∧ p < l.length ∧ Q (optS (stepOf n (hf l) p))
def S_often (A : Adr) : DSp := fun ds Q => ∃ n l s, ds = [wayD A .falling n, rowD l, stepD s] ∧ Kd.falling.ok n ∧ s.2 < l.length ∧ Can n s (hf l) ∧ ∀ m : Int, 1 ≤ m → Oft n s (hf l) m → Q (.int m)
def S_do (A : Adr) : ASp := fun d0 es0 ds Q => ∃ n l s m, d0 = wayD A .falling n ∧ es0 = l.map Dt.int ∧ ds = [stepD s, .int m] ∧ Kd.falling.ok n ∧ (s.1 = true → 0 < s.2) ∧ s.2 ≤ 5000 ∧ ∀ l', l'.length = max l.length (s.2 + 2) → (∀ i, hf l' i = hf l i + m * dlt n s i) → Q (l'.map Dt.int)
def S_heapX (A : Adr) : DSpX := fun ds Q R => ∃ k n h, ds = [wayD A k n, rowD h] ∧ k.ok n ∧ (NF A k R ∨ (k = .falling ∧ (∃ z ∈ h, z < 0) ∧ R A.TooLess) ∨ (k = .falling ∧ (∀ z ∈ h, 0 ≤ z) ∧ Q .non))
def S_saw (A : Adr) : DSpX := fun ds Q R => ∃ k n h, ds = [wayD A k n, rowD h] ∧ k.ok n ∧ h.length ≤ 1000 ∧ (NF A k R ∨ (k = .falling ∧ (∃ z ∈ h, z < 0) ∧ R A.TooLess) ∨ (k = .falling ∧ (∀ z ∈ h, 0 ≤ z) ∧ pot n h ≤ 15000000 ∧ ∀ ss r, Fell n h ss r → Q (.tup [.lst (ss.map stepD), rowD r])))
def S_fallenX (A : Adr) : DSpX := fun ds Q R => ∃ k n h, ds = [wayD A k n, rowD h] ∧ k.ok n ∧ h.length ≤ 1000 ∧ (NF A k R ∨ (k = .falling ∧ (∃ z ∈ h, z < 0) ∧ R A.TooLess) ∨ (k = .falling ∧ (∀ z ∈ h, 0 ≤ z) ∧ pot n h ≤ 15000000 ∧ ∀ ss r, Fell n h ss r → Q (rowD r)))
def S_lowF (A : Adr) : DSp := fun ds Q => ∃ n p : Int, ds = [wayD A .falling n, .int p] ∧ Q (.int 0)
def S_highF (A : Adr) : DSp := fun ds Q => ∃ n p : Int, ds = [wayD A .falling n, .int p] ∧ Q (.int n)
def S_figsF (A : Adr) : DSp := fun ds Q => ∃ n r, ds = [wayD A .falling n, rowD r] ∧ r.length ≤ 1000 ∧ Legal .falling n r ∧ Q (.bl true)
def S_heldF (A : Adr) : DSp := fun ds Q => ∃ n, ∃ rs : List (List Int), ds = [wayD A .falling n, .lst (rs.map rowD)] ∧ (∀ r ∈ rs, Legal .falling n r ∧ r.length ≤ 1000) ∧ Q .non
def S_wrowF (A : Adr) : DSp := fun ds Q => ∃ n h, ds = [wayD A .falling n, rowD h] ∧ Kd.falling.ok n ∧ h.length ≤ 900 ∧ (∀ z ∈ h, 0 ≤ z) ∧ pot n h ≤ 15000000 ∧ ∀ r, Legal .falling n r → hw n r = hw n h → r.length ≤ h.length + 60 → Q (rowD r)
def S_plusF (A : Adr) : DSp := fun ds Q => ∃ n a b, ds = [wayD A .falling n, rowD a, rowD b] ∧ Kd.falling.ok n ∧ Legal .falling n a ∧ Legal .falling n b ∧ a.length ≤ 200 ∧ b.length ≤ 200 ∧ ∀ r, Legal .falling n r → hw n r = hw n a + hw n b → Q (rowD r)
def S_minusF (A : Adr) : DSp := fun ds Q => ∃ n a b, ds = [wayD A .falling n, rowD a, rowD b] ∧ Kd.falling.ok n ∧ Legal .falling n a ∧ Legal .falling n b ∧ a.length ≤ 200 ∧ b.length ≤ 200 ∧ hw n b ≤ hw n a ∧ ∀ r, Legal .falling n r → hw n r = hw n a - hw n b → Q (rowD r)
def S_timesF (A : Adr) : DSp := fun ds Q => ∃ n a b, ds = [wayD A .falling n, rowD a, rowD b] ∧ Kd.falling.ok n ∧ Legal .falling n a ∧ Legal .falling n b ∧ a.length + b.length ≤ 100 ∧ ∀ r, Legal .falling n r → hw n r = hw n a * hw n b → Q (rowD r)
def QuoF (n : Int) (r : List Int) (m : Int) (qs : List Int) (e : Int) : Prop := qs.length = r.length ∧ (∀ z ∈ qs, 0 ≤ z ∧ z ≤ 30) ∧ 0 ≤ e ∧ e < m ∧ hw n r = m * hw n qs + e
def S_quoF (A : Adr) : DSp := fun ds Q => ∃ n r m, ds = [wayD A .falling n, rowD r, .int m] ∧ Kd.falling.ok n ∧ Legal .falling n r ∧ r.length ≤ 200 ∧ 1 ≤ m ∧ m ≤ 1000 ∧ ∀ qs e, QuoF n r m qs e → Q (.tup [rowD qs, .int e])
def S_sharedF (A : Adr) : DSp := fun ds Q => ∃ n r m, ds = [wayD A .falling n, rowD r, .int m] ∧ Kd.falling.ok n ∧ Legal .falling n r ∧ r.length ≤ 200 ∧ 1 ≤ m ∧ m ≤ 1000 ∧ ∀ s e, Legal .falling n s → 0 ≤ e → e < m → hw n r = m * hw n s + e → Q (.tup [rowD s, .int e])
def S_lender (A : Adr) : DSpX := fun ds Q R => ∃ r, ∃ p : Nat, ds = [rowD r, .int p] ∧ r.length ≤ 1000 ∧ p ≤ 1000 ∧ (∀ l : Nat, p < l → l < r.length → (∀ i, p < i → i < l → hf r i ≤ 0) → 0 < hf r l → Q (.int l)) ∧ ((∀ i, p < i → hf r i ≤ 0) → R A.TooLess)
def S_lend (A : Adr) : ASp := fun d0 es0 ds Q => ∃ n r, ∃ l : Nat, d0 = wayD A .falling n ∧ es0 = r.map Dt.int ∧ ds = [.int l] ∧ Kd.falling.ok n ∧ 1 ≤ l ∧ l < r.length ∧ r.length ≤ 1000 ∧ ∀ r', r'.length = r.length → (∀ i, hf r' i = hf r i + csum (lnd n l) i) → Q (r'.map Dt.int)
def S_wdX (A : Adr) : DSpX := fun ds Q R => ∃ n r o, ds = [wayD A .falling n, rowD r] ∧ Kd.falling.ok n ∧ r.length ≤ 1000 ∧ (∀ i, -n ≤ hf r i ∧ hf r i ≤ n) ∧ (∀ i, hf r i ≤ o i) ∧ (∀ p, p < r.length → sm (wf n) o p < wf n p) ∧ (∀ r', r'.length = r.length → hw n r' = hw n r → (∀ z ∈ r', 0 ≤ z ∧ z ≤ n + 1) → Q (rowD r')) ∧ (hw n r < 0 → R A.TooLess)
def S_mostsF (A : Adr) : DSp := fun ds Q => ∃ n r, ds = [wayD A .falling n, rowD r] ∧ r.length ≤ 1000 ∧ Legal .falling n r ∧ Q (.bl true)
def S_back (A : Adr) : DSp := fun ds Q => ∃ n a b, ds = [wayD A .falling n, .int n, rowD a, rowD b] ∧ Kd.falling.ok n ∧ Wb n 12 a ∧ Wb n 12 b ∧ Q (.bl true)
def S_spread (A : Adr) : DSp := fun ds Q => ∃ n a b c, ds = [wayD A .falling n, rowD a, rowD b, rowD c] ∧ Kd.falling.ok n ∧ Wb n 12 a ∧ Wb n 12 b ∧ Wb n 12 c ∧ Q (.bl true)
def S_placed (A : Adr) : DSp := fun ds Q => ∃ n a, ∃ p : Nat, ds = [wayD A .falling n, .int n, rowD a, .int p] ∧ Kd.falling.ok n ∧ Wb n 12 a ∧ p ≤ 11 ∧ Q (.bl true)
def S_shr (A : Adr) : DSp := fun ds Q => ∃ n r m, ds = [wayD A .falling n, .int n, rowD r, .int m] ∧ Kd.falling.ok n ∧ Wb n 25 r ∧ 1 ≤ m ∧ m ≤ 200 ∧ Q (.bl true)
section
variable {P : Program} {w : World} {K : PySem.W.Frag} {mg : Str → Option Value} {base : Heap} {f : Addr} {fd : FuncData} {A : Adr}
abbrev s_law_mixed : Stmt := top 59
theorem sc_law_mixed : FnScope ["_law_cell"] ["_law_cell"] (defScope s_law_mixed) := by walk_at "sc"
theorem ok_law_mixed (T : Txt K mg A) (F : Fun K "_law_mixed" "_law_mixed" s_law_mixed f fd) : FnOk P w K mg base CX0 1 f fd ["_law_cell"] (PureSp K (S_mixed)) := by
  refine okD F sc_law_mixed (by walk_at "ln") fun _ _ _ _ _ _ hr ds Q h => ?_
  obtain ⟨z, rfl, q⟩ := h
  refine ⟨_, (dss_one (ds_ret (de_op o_mod (de_op o_mul (dv 0) de_int) de_int))), ?_⟩
  walk_at "rd"
  exact q _ (Int.fmod_nonneg_of_pos _ (by decide))
abbrev s_law_cell_at : Stmt := top 58
theorem sc_law_cell_at : FnScope ["_law_script", "_law_k"] ["_law_script", "_law_k"] (defScope s_law_cell_at) := by walk_at "sc"
theorem ok_law_cell_at (T : Txt K mg A) (F : Fun K "_law_cell_at" "_law_cell_at" s_law_cell_at f fd) : FnOk P w K mg base CX0 1 f fd ["_law_script", "_law_k"] (PureSp K (S_cell)) := by
  refine okD F sc_law_cell_at (by walk_at "ln") fun _ _ _ _ _ _ hr ds Q h => ?_
  obtain ⟨ns, k, rfl, hk, q⟩ := h
  refine ⟨_, (dss_cons (ds_if (dt_cmp (o_lt) (dv 1) (de_len rfl T.len (dv 0)) (nomark _)) (dss_one (ds_ret (de_ix (dv 0) (dv 1) (fun _ _ => rfl)))) dss_nil)
  (dss_one (ds_ret de_int))), ?_⟩
  walk_at "rd"
  refine ite2 (fun hlt => ?_) (fun _ => q 0)
  have hlt : k < (ns.map Dt.int).length := of_decide_eq_true hlt
  rw [List.length_map] at hlt
  exact ⟨_, rfl, _, rfl, _, _, _, rfl, rfl, atI_row hk hlt, q _⟩
abbrev s_law_figures : Stmt := top 60
theorem sc_law_figures : FnScope ["_law_most", "_law_cells", "_law_row", "_law_cell", "_law_mixed_here", "_law_place"] ["_law_most", "_law_cells"] (defScope s_law_figures) := by walk_at "sc"
theorem ok_law_figures (T : Txt K mg A) (G__law_mixed : DOk P w K mg base 1 "_law_mixed" (S_mixed)) (F : Fun K "_law_figures" "_law_figures" s_law_figures f fd) : FnOk P w K mg base CX0 2 f fd ["_law_most", "_law_cells"] (FreshSp K (S_figs66)) := by
  refine okF F sc_law_figures (by walk_at "ln") fun _ _ _ _ _ _ hr ds Q h => ?_
  obtain ⟨n, cs, rfl, hn, hl, q⟩ := h
  refine ⟨_, (dss_cons (ds_setO (i := 2) sc_law_figures.nd rfl (Or.inl rfl) (df_lst da_nil))
  (dss_cons (ds_for (j := 3) rfl sc_law_figures.nd rfl (Or.inl rfl) PassesOwn.never (dv 1) (dss_cons (ds_set (i := 4) sc_law_figures.nd rfl (Or.inl rfl) (de_call G__law_mixed (hr.mono (by decide)) rfl (da_cons (dv 3) da_nil)))
  (dss_one (ds_app 2 (de_ix (de_lst (da_cons de_int (da_cons (dv 0) (da_cons de_int (da_cons (de_op o_mod (de_op o_fdiv (dv 4) de_int) (de_op o_add (dv 0) de_int)) (da_cons (dv 0) (da_cons (de_op o_mod (de_op o_fdiv (dv 4) de_int) (de_op o_add (dv 0) de_int)) da_nil))))))) (de_op o_mod (dv 4) de_int) (fun _ _ => rfl))))))
  (dss_cons (ds_forD (j := 5) rfl sc_law_figures.nd rfl (Or.inl rfl) PassesOwn.never rfl T.range (da_cons (de_op o_sub (de_lenO 2 rfl T.len) de_int) (da_cons de_int (da_cons (de_neg de_int) da_nil))) (dss_one (ds_if (dt_cmp (o_eq hr) (de_ixO 2 (dv 5) (fun _ _ => rfl)) (dv 0) (nomark _)) (dss_one (ds_put 2 (de_op o_sub (dv 5) de_int) de_int)) dss_nil)))
  (dss_cons (ds_while PassesOwn.never (DW.dt (dw_and (dt_cmp (o_gt) (de_lenO 2 rfl T.len) de_int (nomark _)) (dw_and1 (dt_cmp (o_eq hr) (de_ixO 2 (de_neg de_int) (fun _ _ => rfl)) de_int (nomark _))))) (dss_one (ds_pop 2)))
  (dss_one (ds_retO 2)))))), ?_⟩
  have ll := len_ints cs
  have n1 : 1 ≤ n := hn.1
  have n9 : n ≤ 9 := hn.2
  refine ⟨rfl, _, rfl, ?_⟩
  refine ⟨_, rfl, _, fun i ρ => ∃ (r : List Int) (v3 v4 v5 : Sl), ρ = [.some (.int n), .some (rowD cs), .own (r.map Dt.int), v3, v4, v5] ∧ r.length = i ∧ ∀ p : Nat, p < i → Kd.low .falling n p ≤ r.getD p 0 ∧ r.getD p 0 ≤ Kd.high .falling n p, rfl, ⟨[], _, _, _, rfl, rfl, fun p hp => absurd hp (Nat.not_lt_zero _)⟩, ?_, ?_⟩
  · rintro i e ρ' he ⟨r, v3, v4, v5, rfl, hlr, hp⟩
    obtain ⟨rfl, hi⟩ := get_ints he
    refine ⟨_, rfl, _, rfl, fun m hm => ?_⟩
    have m0 := Int.fmod_nonneg_of_pos m (show (0 : Int) < 6 by decide)
    have m1 := Int.fmod_lt_of_pos m (show (0 : Int) < 6 by decide)
    have c0 := Int.fmod_nonneg_of_pos (m.fdiv 6) (show (0 : Int) < n + 1 by omega)
    have c1 := Int.fmod_lt_of_pos (m.fdiv 6) (show (0 : Int) < n + 1 by omega)
    have key : ∃ x : Int, atI [Dt.int 0, .int n, .int 1, .int ((m.fdiv 6).fmod (n + 1)), .int n, .int ((m.fdiv 6).fmod (n + 1))] (m.fmod 6) = some (.int x) ∧ 0 ≤ x ∧ x ≤ n := by
      rcases (by omega : m.fmod 6 = 0 ∨ m.fmod 6 = 1 ∨ m.fmod 6 = 2 ∨ m.fmod 6 = 3 ∨ m.fmod 6 = 4 ∨ m.fmod 6 = 5) with e | e | e | e | e | e <;> rw [e] <;> exact ⟨_, rfl, by omega, by omega⟩
    obtain ⟨x, ex, x0, x1⟩ := key
    refine ⟨_, rfl, ?_⟩
    walk_at "rd"
    refine ⟨(by show n + 1 ≠ 0; omega), ?_⟩
    walk_at "rd"
    refine ⟨(by show n + 1 ≠ 0; omega), ?_⟩
    walk_at "rd"
    refine ⟨_, _, _, rfl, rfl, ex, by rw [len_ints]; omega, ?_⟩
    obtain ⟨r', e1, e2, e3⟩ := Fg.snoc (k := .falling) (n := n) hlr hp (f := x) ⟨x0, x1⟩
    exact ⟨r', _, _, _, by rw [← e1]; rfl, e2, e3⟩
  · rintro ρ' ⟨r0, v3, v4, v5, rfl, hl0, hp0⟩
    rw [ll] at hl0 hp0
    have hF0 : Fg .falling n r0 := fun p hp => hp0 p (by omega)
    have l0 := len_ints r0
    walk_at "rd"
    refine ⟨_, _, fun i ρ => ∃ (r : List Int) (v5 : Sl), ρ = [.some (.int n), .some (rowD cs), .own (r.map Dt.int), v3, v4, v5] ∧ r.length = r0.length ∧ Fg .falling n r ∧ Fl .falling n r i, rfl, by omega, by omega, by decide, by decide, ⟨r0, _, rfl, rfl, hF0, fun _ q h1 h2 => by omega⟩, ?_, ?_⟩
    · rintro i ρ' hi ⟨r, v5, rfl, hr1, hF, hL⟩
      have lr := len_ints r
      obtain ⟨p, hp⟩ : ∃ p : Nat, p + i + 1 = r0.length := ⟨r0.length - 1 - i, by omega⟩
      have ep : ((List.map Dt.int r0).length : Int) - 1 - i = p := by omega
      rw [ep]
      have h0 : 0 < p := by omega
      have done : (r.getD p 0 ≠ n ∨ r.getD (p - 1) 0 = 0) → Fl .falling n r (i + 1) := fun hz hk q h1 h2 h3 => by
        rcases (by omega : r.length ≤ q + 1 + i ∨ q + 1 = p) with z | z
        · exact hL hk q z h2 h3
        · subst z
          rcases hz with hz | hz
          · exact absurd h3 hz
          · exact hz
      refine ⟨_, rfl, _, rfl, _, _, rfl, atI_row (by omega) (by omega), _, rfl, rfl, rfl, _, rfl, ?_⟩
      rw [Int.toNat_natCast]
      refine ifB (fun h4 => ?_) (fun h4 => ⟨r, _, rfl, hr1, hF, done (.inl (of_neI h4))⟩)
      refine ⟨_, rfl, _, rfl, _, _, rfl, rfl, _, _, rfl, ixN_nat (by omega) (by rw [len_ints]; omega), ?_⟩
      have e1 : ((p : Int) - 1).toNat = p - 1 := by omega
      rw [e1, set_ints]
      refine ⟨r.set (p - 1) 0, _, rfl, by rw [List.length_set]; exact hr1, hF.put hn _, fun hk q h1 h2 h3 => ?_⟩
      rw [List.length_set] at h1 h2
      rcases (by omega : r.length ≤ q + 1 + i ∨ q + 1 = p) with z | z
      · exact (hL.put hn (show p - 1 + i < r.length by omega)) hk q (by rw [List.length_set]; exact z) (by rw [List.length_set]; exact h2) h3
      · subst z
        exact getD_set_eq (by omega)
    · rintro ρ' ⟨r, v5, rfl, hr1, hF, hL⟩
      refine while_trim rfl ?_
      have := trim_len r
      have hg : Lg .falling n r := ⟨hF, fun hk q h1 h2 => hL hk q (by omega) h1 h2⟩
      exact ⟨_, rfl, q _ (wb_of n1 hg.trim (by omega))⟩
abbrev s_has_mosts_above_noughts_alone : Stmt := top 37
theorem sc_has_mosts_above_noughts_alone : FnScope ["way", "row", "place"] ["way", "row"] (defScope s_has_mosts_above_noughts_alone) := by walk_at "sc"
theorem ok_has_mosts_above_noughts_alone (T : Txt K mg A) (F : Fun K "has_mosts_above_noughts_alone" "has_mosts_above_noughts_alone" s_has_mosts_above_noughts_alone f fd) : FnOk P w K mg base CX0 1 f fd ["way", "row"] (PureSp K (S_mostsF A)) := by
  refine okD F sc_has_mosts_above_noughts_alone (by walk_at "ln") fun _ _ _ _ _ _ hr ds Q h => ?_
  obtain ⟨n, r, rfl, hl, hL, q⟩ := h
  refine ⟨_, (dss_cons (ds_forR2 (j := 2) rfl sc_has_mosts_above_noughts_alone.nd rfl (Or.inl rfl) PassesOwn.never rfl T.range (da_cons de_int (da_cons (de_len rfl T.len (dv 1)) da_nil)) (dss_one (ds_if (DW.dt (dw_and (dt_cmp (o_eq hr) (de_ix (dv 1) (dv 2) (fun _ _ => rfl)) (de_fld (dv 0)) (nomark _)) (dw_and1 (dt_cmp (o_ne hr) (de_ix (dv 1) (de_op o_sub (dv 2) de_int) (fun _ _ => rfl)) de_int (nomark _))))) (dss_one (ds_ret de_bl)) dss_nil)))
  (dss_one (ds_ret de_bl))), ?_⟩
  walk_at "rd"
  have ll := len_ints r
  refine ⟨_, _, fun i ρ => ∃ v, ρ = [.some (wayD A .falling n), .some (rowD r), v], rfl, by decide, by decide, by omega, by omega, ⟨_, rfl⟩, ?_, ?_⟩
  · rintro i ρ' hi ⟨v, rfl⟩
    rw [ll] at hi
    have e1 : (1 + (i : Int)).toNat = i + 1 := by omega
    have e2 : (1 + (i : Int) - 1).toNat = i := by omega
    refine ⟨_, rfl, _, rfl, _, _, _, rfl, rfl, atI_row (by omega) (by omega), _, rfl, _, _, _, rfl, rfl, T.cl_Falling, T.na_Falling, rfl, rfl, _, rfl, ?_⟩
    rw [e1]
    refine ifB (fun h => ?_) (fun h => ifF rfl ⟨_, rfl⟩)
    refine ⟨_, rfl, _, rfl, _, _, rfl, rfl, _, _, _, rfl, rfl, atI_row (by omega) (by omega), rfl, rfl, _, rfl, ifF (nT (eqI ?_)) ⟨_, rfl⟩⟩
    rw [e2]
    exact hL.fal rfl i (by omega) (of_eqI h)
  · rintro ρ' ⟨v, rfl⟩
    exact q
abbrev s_Way_low : Stmt := inClass (top 21) 1
theorem sc_Way_low : FnScope ["self", "place"] ["self", "place"] (defScope s_Way_low) := by walk_at "sc"
theorem ok_Way_low (T : Txt K mg A) (F : Fun K "low" "Way.low" s_Way_low f fd) : FnOk P w K mg base CX0 1 f fd ["self", "place"] (PureSp K (S_lowF A)) := by
  refine okD F sc_Way_low (by walk_at "ln") fun _ _ _ _ _ _ hr ds Q h => ?_
  obtain ⟨n, p, rfl, q⟩ := h
  refine ⟨_, (dss_one (ds_ret de_int)), ?_⟩
  exact q
abbrev s_Falling_high : Stmt := inClass (top 22) 1
theorem sc_Falling_high : FnScope ["self", "place"] ["self", "place"] (defScope s_Falling_high) := by walk_at "sc"
theorem ok_Falling_high (T : Txt K mg A) (F : Fun K "high" "Falling.high" s_Falling_high f fd) : FnOk P w K mg base CX0 1 f fd ["self", "place"] (PureSp K (S_highF A)) := by
  refine okD F sc_Falling_high (by walk_at "ln") fun _ _ _ _ _ _ hr ds Q h => ?_
  obtain ⟨n, p, rfl, q⟩ := h
  refine ⟨_, (dss_one (ds_ret (de_fld (dv 0)))), ?_⟩
  exact ⟨_, rfl, _, _, _, rfl, rfl, T.cl_Falling, T.na_Falling, q⟩
abbrev s_has_figures_alone : Stmt := top 36
theorem sc_has_figures_alone : FnScope ["way", "row", "place", "thing"] ["way", "row"] (defScope s_has_figures_alone) := by walk_at "sc"
theorem ok_has_figures_alone (T : Txt K mg A) (HLo : MOk P w K mg base 1 A.Falling "low" (S_lowF A) ∧ MOk P w K mg base 1 A.Falling "high" (S_highF A)) (F : Fun K "has_figures_alone" "has_figures_alone" s_has_figures_alone f fd) : FnOk P w K mg base CX0 2 f fd ["way", "row"] (PureSp K (S_figsF A)) := by
  refine okD F sc_has_figures_alone (by walk_at "ln") fun _ _ _ _ _ _ hr ds Q h => ?_
  obtain ⟨n, r, rfl, hl, hL, q⟩ := h
  refine ⟨_, (dss_cons (ds_for_enumerate (i := 2) (j := 3) rfl sc_has_figures_alone.nd rfl rfl (Or.inl rfl) (Or.inl rfl) PassesOwn.never rfl T.n_enumerate (da_cons (dv 1) da_nil) (dss_one (ds_if (DW.dt (dw_or (dt_cmp (o_lt) (dv 3) (de_meth hr (dv 0) (da_cons (dv 2) da_nil)) (nomark _)) (dw_or1 (dt_cmp (o_gt) (dv 3) (de_meth hr (dv 0) (da_cons (dv 2) da_nil)) (nomark _))))) (dss_one (ds_ret de_bl)) dss_nil)))
  (dss_one (ds_ret de_bl))), ?_⟩
  obtain ⟨M1, M2⟩ := HLo
  walk_at "rd"
  refine ⟨_, _, fun i ρ => ∃ v u, ρ = [.some (wayD A .falling n), .some (rowD r), v, u], rfl, rfl, ⟨_, _, rfl⟩, ?_, ?_⟩
  · rintro i x ρ' hx ⟨v, u, rfl⟩
    obtain ⟨rfl, hi⟩ := get_ints hx
    obtain ⟨f1, f2⟩ := hL.fig i hi
    have f1 : 0 ≤ r.getD i 0 := f1
    have f2 : r.getD i 0 ≤ n := f2
    refine ⟨_, rfl, _, rfl, _, _, _, _, rfl, (by decide +kernel), M1.mono (by decide), _, rfl, n, i, rfl, _, _, rfl, rfl, _, rfl, ifF (decide_eq_false (by omega)) ?_⟩
    refine ⟨_, rfl, _, rfl, _, _, _, _, rfl, (by decide +kernel), M2.mono (by decide), _, rfl, n, i, rfl, _, _, rfl, rfl, _, rfl, ifF (decide_eq_false (by omega)) ⟨_, _, rfl⟩⟩
  · rintro ρ' ⟨v, u, rfl⟩
    exact q
abbrev s_is_writing : Stmt := top 38
theorem sc_is_writing : FnScope ["way", "row"] ["way", "row"] (defScope s_is_writing) := by walk_at "sc"
theorem ok_is_writing (T : Txt K mg A) (G_has_mosts_above_noughts_alone : DOk P w K mg base 1 "has_mosts_above_noughts_alone" (S_mostsF A)) (G_has_figures_alone : DOk P w K mg base 2 "has_figures_alone" (S_figsF A)) (F : Fun K "is_writing" "is_writing" s_is_writing f fd) : FnOk P w K mg base CX0 3 f fd ["way", "row"] (PureSp K (S_figsF A)) := by
  refine okD F sc_is_writing (by walk_at "ln") fun _ _ _ _ _ _ hr ds Q h => ?_
  obtain ⟨n, r, rfl, hl, hL, q⟩ := h
  refine ⟨_, (dss_join (ds_if (DW.dt (dw_and (dt_tru (dv 1)) (dw_and1 (dt_cmp (o_eq hr) (de_ix (dv 1) (de_neg de_int) (fun _ _ => rfl)) de_int (nomark _))))) (dss_one (ds_ret de_bl)) dss_nil)
  (dss_join (ds_if (DW.dt (dw_and (dt_val (de_isiO T.isinstance T.gc_Falling (dv 0))) (dw_and1 (dt_not (dt_val (de_call G_has_mosts_above_noughts_alone (hr.mono (by decide)) rfl (da_cons (dv 0) (da_cons (dv 1) da_nil)))))))) (dss_one (ds_ret de_bl)) dss_nil)
  (dss_one (ds_ret (de_call G_has_figures_alone (hr.mono (by decide)) rfl (da_cons (dv 0) (da_cons (dv 1) da_nil))))))), ?_⟩
  refine ⟨fun ρ => ρ = [.some (wayD A .falling n), .some (rowD r)], ?_, ?_⟩
  · walk_at "rd"
    rcases snoc_cases r with rfl | ⟨l, z, rfl⟩
    · exact ifF rfl (ifF rfl rfl)
    · have ez : (l ++ [z]).getD ((l ++ [z]).length - 1) 0 = z := by rw [List.length_append]; exact getD_snoc_eq
      have hz : z ≠ 0 := by
        rcases hL.end_ with h | h
        · simp at h
        · rw [ez] at h; exact h
      exact ifT (by simp) ⟨_, rfl, _, rfl, _, _, _, rfl, rfl, atI_last, rfl, rfl, _, rfl, ifF (neI hz) rfl⟩
  rintro ρ' rfl
  refine ⟨fun ρ => ρ = [.some (wayD A .falling n), .some (rowD r)], ?_, ?_⟩
  · exact ⟨_, rfl, _, _, _, _, rfl, T.isi_Falling, T.ki_Falling_Falling, _, rfl, ifT rfl ⟨_, rfl, _, rfl, n, r, rfl, hl, hL, _, rfl, ifF rfl rfl⟩⟩
  rintro ρ' rfl
  exact ⟨_, rfl, _, rfl, n, r, rfl, hl, hL, q⟩
abbrev s_held_to_be_writings : Stmt := top 39
theorem sc_held_to_be_writings : FnScope ["way", "rows", "row"] ["way", "rows"] (defScope s_held_to_be_writings) := by walk_at "sc"
theorem ok_held_to_be_writings (T : Txt K mg A) (G_is_writing : DOk P w K mg base 3 "is_writing" (S_figsF A)) (F : Fun K "held_to_be_writings" "held_to_be_writings" s_held_to_be_writings f fd) : FnOk P w K mg base CX0 4 f fd ["way", "rows"] (PureSp K (S_heldF A)) := by
  refine okD F sc_held_to_be_writings (by walk_at "ln") fun _ _ _ _ _ _ hr ds Q h => ?_
  obtain ⟨n, rs, rfl, hrs, q⟩ := h
  refine ⟨_, (dss_one (ds_for (j := 2) rfl sc_held_to_be_writings.nd rfl (Or.inl rfl) PassesOwn.never (dv 1) (dss_one (ds_if (dt_not (dt_val (de_call G_is_writing (hr.mono (by decide)) rfl (da_cons (dv 0) (da_cons (dv 2) da_nil))))) (dss_one ds_never) dss_nil)))), ?_⟩
  refine ⟨_, rfl, _, fun i ρ => ∃ v, ρ = [.some (wayD A .falling n), .some (.lst (rs.map rowD)), v], rfl, ⟨_, rfl⟩, ?_, ?_⟩
  · rintro i e ρ' he ⟨v, rfl⟩
    obtain ⟨r, hm, rfl⟩ := List.mem_map.mp (List.mem_of_getElem? he)
    obtain ⟨hL, hl⟩ := hrs r hm
    exact ⟨_, rfl, _, rfl, n, r, rfl, hl, hL, _, rfl, ifF rfl ⟨_, rfl⟩⟩
  · rintro ρ' ⟨v, rfl⟩
    exact q
abbrev s_held_to_be_a_heap : Stmt := top 25
theorem sc_held_to_be_a_heap : FnScope ["way", "heap", "things"] ["way", "heap"] (defScope s_held_to_be_a_heap) := by walk_at "sc"
theorem ok_held_to_be_a_heap (T : Txt K mg A) (F : Fun K "held_to_be_a_heap" "held_to_be_a_heap" s_held_to_be_a_heap f fd) : FnOk P w K mg base (CX1 P w) 1 f fd ["way", "heap"] (PureSpX K (S_heapX A)) := by
  refine okDX F sc_held_to_be_a_heap (by walk_at "ln") fun _ _ _ _ _ _ hr ds Q R h rz => ?_
  obtain ⟨k, n, h, rfl, hn, hw⟩ := h
  refine ⟨_, (dss_cons (ds_if (dt_not (dt_val (de_isiO T.isinstance T.gc_Falling (dv 0)))) (dss_one ds_never) dss_nil)
  (dss_one (ds_for (j := 2) rfl sc_held_to_be_a_heap.nd rfl (Or.inl rfl) own1 (dv 1) (dss_one (ds_if (dt_cmp (o_lt) (dv 2) de_int (nomark _)) (dss_one (ds_raise rfl rfl T.gc_TooLess T.ex_TooLess de_str)) dss_nil))))), ?_⟩
  rcases hw with z | hw
  · exact z.elim
  have hk : k = .falling := by rcases hw with z | z <;> exact z.1
  subst hk
  refine ⟨_, rfl, _, _, _, _, rfl, T.isi_Falling, T.ki_Falling_Falling, _, rfl, ifF rfl ?_⟩
  rcases hw with ⟨_, ⟨z, hz, hz0⟩, hR⟩ | ⟨_, hnn, q⟩
  · refine ⟨_, rfl, _, fun i ρ => ∃ v, ρ = [.some (wayD A .falling n), .some (rowD h), v] ∧ ∀ (j : Nat) (y : Int), j < i → h[j]? = some y → 0 ≤ y, rfl, ⟨_, rfl, fun j _ z => absurd z (Nat.not_lt_zero _)⟩, ?_, ?_⟩
    · rintro i e ρ' he ⟨v, rfl, hb⟩
      rw [List.getElem?_map] at he
      obtain ⟨y, hy, rfl⟩ := Option.map_eq_some_iff.mp he
      refine ⟨_, rfl, _, _, rfl, rfl, _, rfl, ifB (fun _ => rz _ hR) (fun h1 => ⟨_, rfl, fun j y' hj hy' => ?_⟩)⟩
      have h1 := of_decide_eq_false h1
      rcases (by omega : j < i ∨ j = i) with w | w
      · exact hb j y' w hy'
      · subst w
        rw [hy] at hy'
        cases hy'
        omega
    · rintro ρ' ⟨v, rfl, hb⟩
      obtain ⟨j, hj⟩ := List.mem_iff_getElem?.mp hz
      rw [List.length_map] at hb
      have hlt : j < h.length := by
        rcases Nat.lt_or_ge j h.length with w | w
        · exact w
        · rw [List.getElem?_eq_none w] at hj; cases hj
      have := hb j z hlt hj
      omega
  · refine ⟨_, rfl, _, fun i ρ => ∃ v, ρ = [.some (wayD A .falling n), .some (rowD h), v], rfl, ⟨_, rfl⟩, ?_, ?_⟩
    · rintro i e ρ' he ⟨v, rfl⟩
      obtain ⟨y, hy, rfl⟩ := List.mem_map.mp (List.mem_of_getElem? he)
      have := hnn y hy
      exact ⟨_, rfl, _, _, rfl, rfl, _, rfl, ifF (decide_eq_false (by omega)) ⟨_, rfl⟩⟩
    · rintro ρ' ⟨v, rfl⟩
      exact q
abbrev s_step_at : Stmt := top 28
theorem sc_step_at : FnScope ["way", "heap", "place"] ["way", "heap", "place"] (defScope s_step_at) := by walk_at "sc"
theorem ok_step_at (T : Txt K mg A) (F : Fun K "step_at" "step_at" s_step_at f fd) : FnOk P w K mg base CX0 1 f fd ["way", "heap", "place"] (PureSp K (S_stepAt A)) := by
  refine okD F sc_step_at (by walk_at "ln") fun _ _ _ _ _ _ hr ds Q h => ?_
  obtain ⟨n, l, p, rfl, hn, hp, q⟩ := h
  refine ⟨_, (dss_join (ds_if (DW.dt (dw_and (dt_cmp (o_gt) (dv 2) de_int (nomark _)) (dw_and (dt_cmp (o_ge) (de_ix (dv 1) (dv 2) (fun _ _ => rfl)) (de_fld (dv 0)) (nomark _)) (dw_and1 (dt_cmp (o_gt) (de_ix (dv 1) (de_op o_sub (dv 2) de_int) (fun _ _ => rfl)) de_int (nomark _)))))) (dss_one (ds_ret (de_tup (da_cons de_str (da_cons (dv 2) da_nil))))) dss_nil)
  (dss_cons (ds_if (dt_cmp (o_gt) (de_ix (dv 1) (dv 2) (fun _ _ => rfl)) (de_fld (dv 0)) (nomark _)) (dss_one (ds_ret (de_tup (da_cons de_str (da_cons (dv 2) da_nil))))) dss_nil)
  (dss_one (ds_ret de_non)))), ?_⟩
  have a1 : atI (l.map Dt.int) (p : Int) = some (.int (hf l p)) := atI_nat (get_hf hp)
  refine ⟨fun ρ => ρ = [.some (wayD A .falling n), .some (rowD l), .some (.int p)] ∧ ¬ (0 < p ∧ n ≤ hf l p ∧ 0 < hf l (p - 1)), ?_, ?_⟩
  · refine ⟨_, rfl, _, _, rfl, rfl, _, rfl, ifB (fun h1 => ?_) (fun h1 => ifF rfl ⟨rfl, fun z => ?_⟩)⟩
    · have h1 := of_decide_eq_true h1
      refine ⟨_, rfl, _, rfl, _, _, _, rfl, rfl, a1, _, rfl, _, _, _, rfl, rfl, T.cl_Falling, T.na_Falling, _, _, rfl, rfl, _, rfl, ifB (fun h2 => ?_) (fun h2 => ifF rfl ⟨rfl, fun z => ?_⟩)⟩
      · have h2 := of_decide_eq_true h2
        have e1 : ((p : Int) - 1) = ((p - 1 : Nat) : Int) := by omega
        refine ⟨_, rfl, _, rfl, _, _, rfl, rfl, _, _, _, rfl, rfl, (by rw [e1]; exact atI_nat (get_hf (by omega))), _, _, rfl, rfl, _, rfl, ifB (fun h3 => ?_) (fun h3 => ⟨rfl, fun z => ?_⟩)⟩
        · have h3 := of_decide_eq_true h3
          walk_at "rd"
          refine q_of q ?_
          unfold stepOf
          rw [if_pos ⟨by omega, h2, h3⟩]
          rfl
        · exact absurd z.2.2 (of_decide_eq_false h3)
      · exact absurd z.2.1 (of_decide_eq_false h2)
    · have := of_decide_eq_false h1
      omega
  · rintro ρ ⟨rfl, hno⟩
    refine ⟨_, rfl, _, rfl, _, _, _, rfl, rfl, a1, _, rfl, _, _, _, rfl, rfl, T.cl_Falling, T.na_Falling, _, _, rfl, rfl, _, rfl, ifB (fun h2 => ?_) (fun h2 => ?_)⟩
    · walk_at "rd"
      refine q_of q ?_
      unfold stepOf
      rw [if_neg hno, if_pos (of_decide_eq_true h2)]
      rfl
    · refine q_of q ?_
      unfold stepOf
      rw [if_neg hno, if_neg (of_decide_eq_false h2)]
      rfl
abbrev s_how_often : Stmt := top 29
theorem sc_how_often : FnScope ["way", "heap", "step", "place"] ["way", "heap", "step"] (defScope s_how_often) := by walk_at "sc"
theorem ok_how_often (T : Txt K mg A) (F : Fun K "how_often" "how_often" s_how_often f fd) : FnOk P w K mg base CX0 1 f fd ["way", "heap", "step"] (PureSp K (S_often A)) := by
  refine okD F sc_how_often (by walk_at "ln") fun _ _ _ _ _ _ hr ds Q h => ?_
  obtain ⟨n, l, s, rfl, hn, hp, hc, q⟩ := h
  refine ⟨_, (dss_cons (ds_set (i := 3) sc_how_often.nd rfl (Or.inl rfl) (de_ix (dv 2) de_int (fun _ _ => rfl)))
  (dss_cons (ds_if (dt_cmp (o_eqS) (de_ix (dv 2) de_int (fun _ _ => rfl)) de_str (nomark _)) (dss_one (ds_ret (de_min rfl rfl T.n_min (da_cons (de_op o_fdiv (de_ix (dv 1) (dv 3) (fun _ _ => rfl)) (de_fld (dv 0))) (da_cons (de_ix (dv 1) (de_op o_sub (dv 3) de_int) (fun _ _ => rfl)) da_nil))))) dss_nil)
  (dss_one (ds_ret (de_op o_fdiv (de_ix (dv 1) (dv 3) (fun _ _ => rfl)) (de_op o_add (de_fld (dv 0)) de_int)))))), ?_⟩
  obtain ⟨b1, b2⟩ := ok_bd hn
  have a1 : atI (l.map Dt.int) (s.2 : Int) = some (.int (hf l s.2)) := atI_nat (get_hf hp)
  match s, hp, hc, q, a1 with
  | (true, p), hp, ⟨c1, c2, c3⟩, q, a1 =>
    have e1 : ((p : Int) - 1) = ((p - 1 : Nat) : Int) := by omega
    have hp : p < l.length := hp
    refine ⟨_, rfl, _, 1, _, rfl, rfl, rfl, _, rfl, _, 0, _, rfl, rfl, rfl, _, _, rfl, rfl, _, rfl, ifT rfl ?_⟩
    refine ⟨_, rfl, _, rfl, _, _, _, rfl, rfl, a1, _, rfl, _, _, _, rfl, rfl, T.cl_Falling, T.na_Falling, _, _, rfl, rfl, cdivN (by rw [Bool.and_eq_true, bne_iff_ne, decide_eq_true_iff]; omega), ?_⟩
    refine ⟨_, rfl, _, rfl, _, _, rfl, rfl, _, _, _, rfl, rfl, (by rw [e1]; exact atI_nat (get_hf (by omega))), _, _, rfl, ?_⟩
    have d1 := fdiv_pos (show (0 : Int) < n by omega) c2
    have d2 := fdiv_le (a := hf l p) (show (0 : Int) < n by omega)
    show Q (.int (if hf l (p - 1) < (hf l p).fdiv n then hf l (p - 1) else (hf l p).fdiv n))
    split
    · rename_i hlt
      have := Int.mul_le_mul_of_nonneg_right (show hf l (p - 1) ≤ (hf l p).fdiv n by omega) (show 0 ≤ n by omega)
      exact q _ c3 ⟨c1, by omega, Int.le_refl _⟩
    · exact q _ d1 ⟨c1, d2, by omega⟩
  | (false, p), hp, hc, q, a1 =>
    have hc : n < hf l p := hc
    refine ⟨_, rfl, _, 1, _, rfl, rfl, rfl, _, rfl, _, 0, _, rfl, rfl, rfl, _, _, rfl, rfl, _, rfl, ifF rfl ?_⟩
    refine ⟨_, rfl, _, rfl, _, _, _, rfl, rfl, a1, _, rfl, _, _, _, rfl, rfl, T.cl_Falling, T.na_Falling, _, _, rfl, rfl, _, _, rfl, rfl, cdivN (by rw [Bool.and_eq_true, bne_iff_ne, decide_eq_true_iff]; omega), ?_⟩
    exact q _ (fdiv_pos (show (0 : Int) < n + 1 by omega) (show n + 1 ≤ hf l p by omega)) (fdiv_le (show (0 : Int) < n + 1 by omega))
abbrev s_changes : Stmt := top 26
theorem sc_changes : FnScope ["way", "step", "kind", "place", "parted"] ["way", "step"] (defScope s_changes) := by walk_at "sc"
theorem ok_changes (T : Txt K mg A) (F : Fun K "changes" "changes" s_changes f fd) : FnOk P w K mg base CX0 1 f fd ["way", "step"] (PureSp K (S_chg A)) := by
  refine okD F sc_changes (by walk_at "ln") fun _ _ _ _ _ _ hr ds Q h => ?_
  obtain ⟨n, s, rfl, hn, hs, q⟩ := h
  refine ⟨_, (dss_cons (ds_set (i := 2) sc_changes.nd rfl (Or.inl rfl) (de_ix (dv 1) de_int (fun _ _ => rfl)))
  (dss_cons (ds_set (i := 3) sc_changes.nd rfl (Or.inl rfl) (de_ix (dv 1) de_int (fun _ _ => rfl)))
  (dss_cons (ds_if (dt_cmp (o_eqS) (dv 2) de_str (nomark _)) (dss_one (ds_ret (de_lst (da_cons (de_tup (da_cons (de_op o_add (dv 3) de_int) (da_cons de_int da_nil))) (da_cons (de_tup (da_cons (dv 3) (da_cons (de_neg (de_fld (dv 0))) da_nil))) (da_cons (de_tup (da_cons (de_op o_sub (dv 3) de_int) (da_cons (de_neg de_int) da_nil))) da_nil)))))) dss_nil)
  (dss_cons (ds_setO (i := 4) sc_changes.nd rfl (Or.inl rfl) (df_lst (da_cons (de_tup (da_cons (de_op o_add (dv 3) de_int) (da_cons de_int da_nil))) (da_cons (de_tup (da_cons (dv 3) (da_cons (de_op o_sub (de_neg (de_fld (dv 0))) de_int) da_nil))) da_nil))))
  (dss_join (ds_if (dt_cmp (o_eq hr) (dv 3) de_int (nomark _)) (dss_one (ds_app 4 (de_tup (da_cons de_int (da_cons (de_fld (dv 0)) da_nil))))) dss_nil)
  (dss_join (ds_if (dt_cmp (o_gt) (dv 3) de_int (nomark _)) (dss_cons (ds_app 4 (de_tup (da_cons (de_op o_sub (dv 3) de_int) (da_cons (de_op o_sub (de_fld (dv 0)) de_int) da_nil))))
  (dss_one (ds_app 4 (de_tup (da_cons (de_op o_sub (dv 3) de_int) (da_cons de_int da_nil)))))) dss_nil)
  (dss_one (ds_retO 4)))))))), ?_⟩
  match s, hs, q with
  | (true, 0), hs, _ => exact absurd (hs rfl) (Nat.lt_irrefl _)
  | (true, p + 1), _, q =>
    repeat (first | (walk_at "rd1") | refine ⟨_, _, _, rfl, rfl, T.cl_Falling, T.na_Falling, ?_⟩)
    refine q_of q ?_
    show Dt.lst [.tup [.int (((p + 1 : Nat) : Int) + 1), .int 1], .tup [.int ((p + 1 : Nat) : Int), .int (-n)], .tup [.int (((p + 1 : Nat) : Int) - 1), .int (-1)]] = _
    rw [show ((p + 1 : Nat) : Int) - 1 = (p : Int) by omega]
    rfl
  | (false, 0), _, q =>
    repeat (first | (walk_at "rd1") | refine ⟨_, _, _, rfl, rfl, T.cl_Falling, T.na_Falling, ?_⟩)
    refine ⟨fun ρ => ρ = [.some (wayD A .falling n), .some (stepD (false, 0)), .some (.str (stpN false)), .some (.int 0), .own [chD (1, 1), chD (0, -n - 1)]], ?_, ?_⟩
    · exact ⟨_, rfl, rfl, rfl, _, rfl, ifF (neI (by decide)) rfl⟩
    rintro ρ rfl
    refine ⟨fun ρ => ρ = [.some (wayD A .falling n), .some (stepD (false, 0)), .some (.str (stpN false)), .some (.int 0), .own [chD (1, 1), chD (0, -n - 1)]], ?_, ?_⟩
    · exact ⟨_, rfl, _, _, rfl, rfl, _, rfl, ifF (by decide) rfl⟩
    rintro ρ rfl
    exact ⟨_, rfl, q⟩
  | (false, 1), _, q =>
    repeat (first | (walk_at "rd1") | refine ⟨_, _, _, rfl, rfl, T.cl_Falling, T.na_Falling, ?_⟩)
    refine ⟨fun ρ => ρ = [.some (wayD A .falling n), .some (stepD (false, 1)), .some (.str (stpN false)), .some (.int 1), .own [chD (2, 1), chD (1, -n - 1), chD (0, n)]], ?_, ?_⟩
    · exact ⟨_, rfl, rfl, rfl, _, rfl, ifT (eqI rfl) ⟨_, rfl, _, rfl, _, _, _, rfl, rfl, T.cl_Falling, T.na_Falling, rfl, (by show (2 : Nat) ≤ 100000; decide), rfl⟩⟩
    rintro ρ rfl
    refine ⟨fun ρ => ρ = [.some (wayD A .falling n), .some (stepD (false, 1)), .some (.str (stpN false)), .some (.int 1), .own [chD (2, 1), chD (1, -n - 1), chD (0, n)]], ?_, ?_⟩
    · exact ⟨_, rfl, _, _, rfl, rfl, _, rfl, ifF (by decide) rfl⟩
    rintro ρ rfl
    exact ⟨_, rfl, q⟩
  | (false, p + 2), _, q =>
    repeat (first | (walk_at "rd1") | refine ⟨_, _, _, rfl, rfl, T.cl_Falling, T.na_Falling, ?_⟩)
    refine ⟨fun ρ => ρ = [.some (wayD A .falling n), .some (stepD (false, p + 2)), .some (.str (stpN false)), .some (.int ((p + 2 : Nat) : Int)), .own [chD (p + 3, 1), chD (p + 2, -n - 1)]], ?_, ?_⟩
    · exact ⟨_, rfl, rfl, rfl, _, rfl, ifF (neI (by show ((p + 2 : Nat) : Int) ≠ 1; omega)) rfl⟩
    rintro ρ rfl
    refine ⟨fun ρ => ρ = [.some (wayD A .falling n), .some (stepD (false, p + 2)), .some (.str (stpN false)), .some (.int ((p + 2 : Nat) : Int)), .own [chD (p + 3, 1), chD (p + 2, -n - 1), chD (p + 1, n - 1), chD (p, 1)]], ?_, ?_⟩
    · refine ⟨_, rfl, _, _, rfl, rfl, _, rfl, ifT (decide_eq_true (by omega)) ?_⟩
      refine ⟨_, rfl, _, rfl, _, _, rfl, rfl, _, rfl, _, _, _, rfl, rfl, T.cl_Falling, T.na_Falling, _, _, rfl, rfl, rfl, (by show (2 : Nat) ≤ 100000; decide), ?_⟩
      refine ⟨_, rfl, _, rfl, _, _, rfl, rfl, rfl, (by show (3 : Nat) ≤ 100000; decide), ?_⟩
      show [_, _, _, _, Sl.own [_, _, Dt.tup [.int (((p + 2 : Nat) : Int) - 1), .int (n - 1)], Dt.tup [.int (((p + 2 : Nat) : Int) - 2), .int 1]]] = _
      rw [show ((p + 2 : Nat) : Int) - 1 = ((p + 1 : Nat) : Int) by omega, show ((p + 2 : Nat) : Int) - 2 = (p : Int) by omega]
      rfl
    rintro ρ rfl
    exact ⟨_, rfl, q⟩
abbrev s_do_steps : Stmt := top 27
theorem sc_do_steps : FnScope ["way", "heap", "step", "many", "place", "things"] ["way", "heap", "step", "many"] (defScope s_do_steps) := by walk_at "sc"
theorem ok_do_steps (T : Txt K mg A) (G_changes : DOk P w K mg base 1 "changes" (S_chg A)) (F : Fun K "do_steps" "do_steps" s_do_steps f fd) : FnOk P w K mg base CX0 2 f fd ["way", "heap", "step", "many"] (ArgSp K (S_do A)) := by
  refine okA F sc_do_steps (by walk_at "ln") fun _ _ _ _ _ _ hr d0 es0 ds Q a h => ?_
  obtain ⟨n, l, s, m, rfl, rfl, rfl, hn, hs, hp, q⟩ := h
  refine ⟨_, (dss_cons (ds_while PassesOwn.never (dt_cmp (o_lt) (de_lenA 1 rfl T.len) (de_op o_add (de_ix (dv 2) de_int (fun _ _ => rfl)) de_int) (nomark _)) (dss_one (ds_appA 1 de_int)))
  (dss_one (ds_for2 (i := 4) (j := 5) rfl sc_do_steps.nd rfl rfl (Or.inl rfl) (Or.inl rfl) PassesOwn.never (de_call G_changes (hr.mono (by decide)) rfl (da_cons (dv 0) (da_cons (dv 2) da_nil))) (dss_one (ds_augA 1 ip_add (dv 4) (de_op o_mul (dv 3) (dv 5))))))), ?_⟩
  obtain ⟨b1, b2⟩ := ok_bd hn
  refine ⟨fun m' ρ => ∃ k, ρ = [.some (wayD A .falling n), .arg a ((l ++ List.replicate k 0).map Dt.int), .some (stepD s), .some (.int m), .none, .none] ∧ m' = (s.2 + 2) - (l.length + k) ∧ (k = 0 ∨ l.length + k ≤ s.2 + 2) ∧ k ≤ s.2 + 2, ⟨_, 0, by rw [List.replicate_zero, List.append_nil]; rfl, rfl, .inl rfl, Nat.zero_le _⟩, ?_⟩
  rintro m' ρ' ⟨k, rfl, rfl, hk, hk2⟩
  have hlen : ((l ++ List.replicate k 0).map Dt.int).length = l.length + k := by rw [len_ints, List.length_append, List.length_replicate]
  refine ⟨a, _, rfl, _, rfl, _, 1, _, rfl, rfl, rfl, _, _, rfl, rfl, _, _, rfl, rfl, _, rfl, ?_⟩
  rw [hlen]
  refine ifB (fun h => ?_) (fun h => ?_)
  · have h := of_decide_eq_true h
    have h' : l.length + k < s.2 + 2 := by omega
    refine ⟨a, _, rfl, by rw [hlen]; omega, _, ?_, k + 1, ?_, rfl, .inr (by omega), by omega⟩
    · omega
    · show [_, _, _, _, _, _] = _
      rw [List.replicate_succ', ← List.append_assoc, ← app_ints]
  · have h := of_decide_eq_false h
    have h' : s.2 + 2 ≤ l.length + k := by omega
    obtain ⟨l2, hl2⟩ : ∃ l2, l2 = l ++ List.replicate k 0 := ⟨_, rfl⟩
    have el : l2.length = max l.length (s.2 + 2) := by rw [hl2, List.length_append, List.length_replicate]; omega
    have ef : ∀ i, hf l2 i = hf l i := fun i => by rw [hl2]; exact hf_pad l k i
    rw [← hl2]
    refine ⟨_, rfl, _, rfl, n, s, rfl, hn, hs, _, fun i ρ => ∃ g v4 v5, ρ = [.some (wayD A .falling n), .arg a (g.map Dt.int), .some (stepD s), .some (.int m), v4, v5] ∧ g.length = l2.length ∧ ∀ j, hf g j = hf l j + m * csum ((chg n s).take i) j, rfl, ⟨l2, _, _, rfl, rfl, fun j => by rw [ef]; show _ = hf l j + m * 0; omega⟩, ?_, ?_⟩
    · rintro i e ρ' he ⟨g, v4, v5, rfl, hg, hj⟩
      rw [List.getElem?_map] at he
      obtain ⟨x, hx, rfl⟩ := Option.map_eq_some_iff.mp he
      have hm := List.mem_of_getElem? hx
      have hlt := chg_lt (m := g.length) (by omega) x hm
      obtain ⟨c1, c2⟩ := chg_bd b1 b2 x hm
      refine ⟨_, _, rfl, a, _, rfl, _, rfl, (x.1 : Int), hf g x.1, rfl, by omega, ?_, _, rfl, _, rfl, _, _, rfl, rfl, small (by omega) (by omega) _, _, rfl, ?_⟩
      · rw [Int.toNat_natCast]; exact get_hf hlt
      · rw [Int.toNat_natCast]
        refine ⟨g.set x.1 (hf g x.1 + m * x.2), .some (.int x.1), .some (.int x.2), ?_, by rw [List.length_set]; exact hg, fun j => ?_⟩
        · show [_, _, _, _, _, _] = _
          rw [← set_ints]
        · rw [hf_set hlt, hj j, csum_take hx, Int.mul_add]
          have : pt x.1 (m * x.2) j = m * pt x.1 x.2 j := by
            unfold pt
            split
            · rfl
            · rw [Int.mul_zero]
          omega
    · rintro ρ' ⟨g, v4, v5, rfl, hg, hj⟩
      rw [List.length_map, List.take_length] at hj
      exact ⟨_, rfl, q g (by omega) hj⟩
abbrev s_trimmed : Stmt := top 18
theorem sc_trimmed : FnScope ["row", "things"] ["row"] (defScope s_trimmed) := by walk_at "sc"
theorem ok_trimmed (T : Txt K mg A) (F : Fun K "trimmed" "trimmed" s_trimmed f fd) : FnOk P w K mg base CX0 1 f fd ["row"] (FreshSp K (S_trim)) := by
  refine okF F sc_trimmed (by walk_at "ln") fun _ _ _ _ _ _ hr ds Q h => ?_
  obtain ⟨r, rfl, q⟩ := h
  refine ⟨_, (dss_cons (ds_setO (i := 1) sc_trimmed.nd rfl (Or.inl rfl) (df_list rfl T.n_list (dv 0)))
  (dss_cons (ds_while PassesOwn.never (DW.dt (dw_and (dt_truO 1) (dw_and1 (dt_cmp (o_eq hr) (de_ixO 1 (de_neg de_int) (fun _ _ => rfl)) de_int (nomark _))))) (dss_one (ds_pop 1)))
  (dss_one (ds_retO 1)))), ?_⟩
  refine ⟨_, rfl, _, rfl, _, rfl, ?_⟩
  exact while_trim2 rfl ⟨_, rfl, q⟩
abbrev s_steps_and_writing : Stmt := top 30
theorem sc_steps_and_writing : FnScope ["way", "heap", "done", "left", "place", "step", "many"] ["way", "heap"] (defScope s_steps_and_writing) := by walk_at "sc"
theorem ok_steps_and_writing (T : Txt K mg A) (G_held_to_be_a_heap : DOkX P w K mg base 1 "held_to_be_a_heap" (S_heapX A)) (G_step_at : DOk P w K mg base 1 "step_at" (S_stepAt A)) (G_how_often : DOk P w K mg base 1 "how_often" (S_often A)) (G_do_steps : AOk P w K mg base 2 "do_steps" (S_do A)) (G_trimmed : FOk P w K mg base 1 "trimmed" (S_trim)) (F : Fun K "steps_and_writing" "steps_and_writing" s_steps_and_writing f fd) : FnOk P w K mg base (CX1 P w) 3 f fd ["way", "heap"] (TldSpX K (.t true true) (S_saw A)) := by
  refine okTX F sc_steps_and_writing (by walk_at "ln") fun _ _ _ _ _ _ hr ds Q R h rz => ?_
  obtain ⟨k, n, h, rfl, hn, hl, hw⟩ := h
  refine ⟨_, (dss_cons (ds_expr (de_callX G_held_to_be_a_heap (hr.mono (by decide)) rfl (da_cons (dv 0) (da_cons (dv 1) da_nil))))
  (dss_cons (ds_setO (i := 2) sc_steps_and_writing.nd rfl (Or.inl rfl) (df_lst da_nil))
  (dss_cons (ds_setO (i := 3) sc_steps_and_writing.nd rfl (Or.inl rfl) (df_list rfl T.n_list (dv 1)))
  (dss_cons (ds_set (i := 4) sc_steps_and_writing.nd rfl (Or.inl rfl) (de_op o_sub (de_lenO 3 rfl T.len) de_int))
  (dss_cons (ds_while own1 (dt_cmp (o_ge) (dv 4) de_int (nomark _)) (dss_cons (ds_set (i := 5) sc_steps_and_writing.nd rfl (Or.inl rfl) (de_bor2 (de_call G_step_at (hr.mono (by decide)) rfl (da_cons (dv 0) (da_cons (dv 3) (da_cons (dv 4) da_nil))))))
  (dss_one (ds_if (dt_isN (dv 5)) (dss_one (ds_augI (i := 4) ip_sub sc_steps_and_writing.nd rfl (Or.inl rfl) de_int)) (dss_cons (ds_set (i := 6) sc_steps_and_writing.nd rfl (Or.inl rfl) (de_bor2 (de_call G_how_often (hr.mono (by decide)) rfl (da_cons (dv 0) (da_cons (dv 3) (da_cons (dv 5) da_nil))))))
  (dss_cons (ds_ext 2 (DF.de (df_rep (de_lst (da_cons (dv 5) da_nil)) (dv 6))))
  (dss_cons (ds_callA 3 G_do_steps (hr.mono (by decide)) rfl (dv 0) (da_cons (dv 5) (da_cons (dv 6) da_nil)))
  (dss_one (ds_set (i := 4) sc_steps_and_writing.nd rfl (Or.inl rfl) (de_min rfl rfl T.n_min (da_cons (de_op o_add (dv 4) de_int) (da_cons (de_op o_sub (de_lenO 3 rfl T.len) de_int) da_nil))))))))))))
  (dss_frz 3 (dss_one (ds_retOF 2 (df_call G_trimmed (hr.mono (by decide)) rfl (da_cons (dv 3) da_nil)))))))))), ?_⟩
  refine ⟨_, rfl, _, rfl, k, n, h, rfl, hn, ?_⟩
  rcases hw with hw | ⟨h1, h2, h3⟩ | ⟨rfl, hnn, hpot, q⟩
  · exact .inl (nf_imp rz hw)
  · exact .inr (.inl ⟨h1, h2, rz _ h3⟩)
  refine .inr (.inr ⟨rfl, hnn, ?_⟩)
  obtain ⟨b1, b2⟩ := ok_bd hn
  have h0 := hf_nn hnn
  refine ⟨rfl, _, rfl, _, rfl, _, rfl, _, rfl, _, rfl, _, _, rfl, rfl, ?_⟩
  refine ⟨fun m ρ => ∃ (ss : List Stp) (l : List Int) (p : Int) (v5 v6 : Sl), ρ = [.some (wayD A .falling n), .some (rowD h), .own (ss.map stepD), .own (l.map Dt.int), .some (.int p), v5, v6] ∧ -1 ≤ p ∧ p < l.length ∧ (∀ i, 0 ≤ hf l i) ∧ l.length ≤ h.length + 60 ∧ My.hw n l = My.hw n h ∧ Walk n (hf h) ss (hf l) ∧ (ss.length : Int) + pot n l ≤ pot n h ∧ (∀ q : Nat, p < q → q < l.length → stepOf n (hf l) q = none) ∧ m = (3 * pot n l + p + 1).toNat, ?_, ?_⟩
  · refine ⟨_, [], h, _, _, _, rfl, by omega, ?_, h0, by omega, rfl, rfl, ?_, fun q h1 h2 => ?_, rfl⟩
    · rw [len_ints]; omega
    · show (0 : Int) + _ ≤ _; omega
    · rw [len_ints] at h1; omega
  rintro m ρ' ⟨ss, l, p, v5, v6, rfl, p0, p1, l0, hlen, hwe, hwk, hss, hno, rfl⟩
  have pn := sm_nn (w := cst n) (fun i => by have := (cst_pos n i).1; omega) l0 l.length
  have pn : 0 ≤ pot n l := pn
  refine ⟨_, rfl, _, _, rfl, rfl, _, rfl, ifB (fun hp => ?_) (fun hp => ?_)⟩
  · have hp := of_decide_eq_true hp
    obtain ⟨pp, rfl⟩ : ∃ pp : Nat, p = pp := ⟨p.toNat, by omega⟩
    have hpl : pp < l.length := by omega
    refine ⟨_, rfl, _, rfl, _, rfl, n, l, pp, rfl, hn, hpl, ?_⟩
    cases hs : stepOf n (hf l) pp with
    | none =>
      refine ⟨rfl, _, rfl, _, rfl, ifT rfl ?_⟩
      refine ⟨_, rfl, _, _, rfl, rfl, _, ?_, ss, l, (pp : Int) - 1, _, _, rfl, by omega, by omega, l0, hlen, hwe, hwk, hss, fun q h1 h2 => ?_, rfl⟩
      · omega
      · by_cases e : q = pp
        · subst e; exact hs
        · exact hno q (by omega) h2
    | some s =>
      obtain ⟨e2, hcan⟩ := stepOf_some hs
      have hsp : s.2 < l.length := by omega
      refine ⟨rfl, _, rfl, _, rfl, ifF rfl ?_⟩
      refine ⟨_, rfl, _, rfl, _, rfl, n, l, s, rfl, hn, hsp, hcan, fun m hm hof => ⟨rfl, ?_⟩⟩
      have hmc := hof.le_pot b1 l0 (by omega) hsp
      refine ⟨_, rfl, _, rfl, rfl, _, rfl, _, _, rfl, rfl, by omega, by omega, by show 1 * _ ≤ _; omega, _, rfl, ?_, ?_⟩
      · rw [rep_stepO, List.length_map, List.length_map, List.length_replicate]; omega
      have pb : pp < h.length + 48 := by
        refine place_bd b1 h0 l0 hpot hwe ?_
        rw [← e2]
        exact hcan.pos b1
      refine ⟨_, rfl, _, rfl, _, rfl, _, rfl, n, l, s, m, rfl, rfl, rfl, hn, hof.up, by omega, fun l' hl' he' => ?_⟩
      obtain ⟨k1, k2, k3, k4⟩ := heap_step b1 hm l0 hof hl' he'
      have pn' := sm_nn (w := cst n) (fun i => by have := (cst_pos n i).1; omega) k1 l'.length
      have pn' : 0 ≤ pot n l' := pn'
      refine ⟨_, rfl, _, _, rfl, rfl, _, rfl, _, _, rfl, rfl, _, _, rfl, ?_⟩
      dsimp only
      rw [len_ints, rep_stepO, ← List.map_append]
      obtain ⟨p', hp'⟩ : ∃ p' : Int, p' = if (l'.length : Int) - 1 < (pp : Int) + 2 then (l'.length : Int) - 1 else (pp : Int) + 2 := ⟨_, rfl⟩
      rw [← hp']
      have hp2 : p' ≤ pp + 2 ∧ -1 ≤ p' ∧ p' < l'.length ∧ (p' = (l'.length : Int) - 1 ∨ p' = pp + 2) := by
        rw [hp']
        split <;> omega
      refine ⟨(3 * pot n l' + p' + 1).toNat, by omega, ss ++ List.replicate m.toNat s, l', p', _, _, rfl, by omega, by omega, k1, by omega, k2.trans hwe, k4.append hwk, ?_, fun q h1 h2 => ?_, rfl⟩
      · rw [List.length_append, List.length_replicate]; omega
      · rcases hp2.2.2.2 with z | z
        · omega
        · have f1 : hf l' q = hf l q := by rw [he', dlt_far (by omega), Int.mul_zero, Int.add_zero]
          have f2 : hf l' (q - 1) = hf l (q - 1) := by rw [he', dlt_far (by omega), Int.mul_zero, Int.add_zero]
          have e : stepOf n (hf l') q = stepOf n (hf l) q := by unfold stepOf; rw [f1, f2]
          rw [e]
          by_cases hq : q < l.length
          · exact hno q (by omega) hq
          · unfold stepOf
            rw [hf_out (by omega), if_neg (by omega), if_neg (by omega)]
  · have hp := of_decide_eq_false hp
    have hlg : Lg .falling n l := lg_none l0 (fun q hq => hno q (by omega) hq)
    refine ⟨_, rfl, _, rfl, _, rfl, l, rfl, ?_⟩
    have := trim_len l
    refine q ss (trim l) ⟨hlg.trim, (hw_trim n l).trans hwe, ?_, by omega, by omega⟩
    rw [show hf (trim l) = hf l from funext (hf_trim l)]
    exact hwk
abbrev s_fallen : Stmt := top 31
theorem sc_fallen : FnScope ["way", "heap"] ["way", "heap"] (defScope s_fallen) := by walk_at "sc"
theorem ok_fallen (T : Txt K mg A) (G_steps_and_writing : TOkX P w K mg base 3 "steps_and_writing" (.t true true) (S_saw A)) (F : Fun K "fallen" "fallen" s_fallen f fd) : FnOk P w K mg base (CX1 P w) 4 f fd ["way", "heap"] (FreshSpX K (S_fallenX A)) := by
  refine okFX F sc_fallen (by walk_at "ln") fun _ _ _ _ _ _ hr ds Q R h rz => ?_
  obtain ⟨k, n, h, rfl, hn, hl, hw⟩ := h
  refine ⟨_, (dss_one (ds_retF (df_snd (dr_callX G_steps_and_writing (hr.mono (by decide)) rfl (da_cons (dv 0) (da_cons (dv 1) da_nil))) (fun _ _ => rfl)))), ?_⟩
  refine ⟨_, rfl, _, rfl, k, n, h, rfl, hn, hl, ?_⟩
  rcases hw with hw | ⟨h1, h2, h3⟩ | ⟨h1, h2, h3, h4⟩
  · exact .inl (nf_imp rz hw)
  · exact .inr (.inl ⟨h1, h2, rz _ h3⟩)
  · exact .inr (.inr ⟨h1, h2, h3, fun ss r hF => ⟨_, _, rfl, h4 ss r hF⟩⟩)
abbrev s_written_row : Stmt := top 40
theorem sc_written_row : FnScope ["way", "row"] ["way", "row"] (defScope s_written_row) := by walk_at "sc"
theorem ok_written_row (T : Txt K mg A) (G_fallen : FOkX P w K mg base 4 "fallen" (S_fallenX A)) (F : Fun K "written_row" "written_row" s_written_row f fd) : FnOk P w K mg base CX0 5 f fd ["way", "row"] (FreshSp K (S_wrowF A)) := by
  refine okF F sc_written_row (by walk_at "ln") fun _ _ _ _ _ _ hr ds Q h => ?_
  obtain ⟨n, h, rfl, hn, hl, h0, hp, q⟩ := h
  refine ⟨_, (dss_cons (ds_if (dt_val (de_isiO T.isinstance T.gc_Falling (dv 0))) (dss_one (ds_retF (df_callX G_fallen (hr.mono (by decide)) rfl (da_cons (dv 0) (da_cons (dv 1) da_nil))))) dss_nil)
  (dss_one ds_never)), ?_⟩
  refine ⟨_, rfl, _, _, _, _, rfl, T.isi_Falling, T.ki_Falling_Falling, _, rfl, ifT rfl ?_⟩
  exact ⟨_, rfl, _, rfl, .falling, n, h, rfl, hn, by omega, .inr (.inr ⟨rfl, h0, hp, fun ss r F => q r F.leg F.eqw F.len⟩)⟩
abbrev s_is_whole : Stmt := top 11
theorem sc_is_whole : FnScope ["value"] ["value"] (defScope s_is_whole) := by walk_at "sc"
theorem ok_is_whole (T : Txt K mg A) (F : Fun K "is_whole" "is_whole" s_is_whole f fd) : FnOk P w K mg base CX0 1 f fd ["value"] (PureSp K (S_whole)) := by
  refine okD F sc_is_whole (by walk_at "ln") fun _ _ _ _ _ _ hr ds Q h => ?_
  obtain ⟨d, b, rfl, hw, q⟩ := h
  refine ⟨_, (dss_one (ds_ret (de_and (de_isi (T := .int) T.kt T.isinstance T.n_int PyProof.Rows.boot_int (dv 0)) (de_one (de_not (de_isi (T := .bool) T.kt T.isinstance T.n_bool PyProof.Rows.boot_bool (dv 0))))))), ?_⟩
  cases d <;> cases hw
  all_goals
    walk_at "rd"
    exact q
abbrev s_as_pair : Stmt := top 13
theorem sc_as_pair : FnScope ["number"] ["number"] (defScope s_as_pair) := by walk_at "sc"
theorem ok_as_pair (T : Txt K mg A) (G_is_whole : DOk P w K mg base 1 "is_whole" (S_whole)) (F : Fun K "as_pair" "as_pair" s_as_pair f fd) : FnOk P w K mg base CX0 2 f fd ["number"] (PureSp K (S_as_pair)) := by
  refine okD F sc_as_pair (by walk_at "ln") fun _ _ _ _ _ _ hr ds Q h => ?_
  obtain ⟨d, m, rfl, hm, q⟩ := h
  refine ⟨_, (dss_cons (ds_if (dt_val (de_call G_is_whole (hr.mono (by decide)) rfl (da_cons (dv 0) da_nil))) (dss_one (ds_ret (de_tup (da_cons (dv 0) (da_cons de_int da_nil))))) dss_nil)
  (dss_one (ds_ret (dv 0)))), ?_⟩
  obtain rfl := numD_dt hm
  cases m with
  | i n =>
    walk_at "rd"
    exact q
  | p a b =>
    walk_at "rd"
    exact q
abbrev s_added : Stmt := top 14
theorem sc_added : FnScope ["one", "other", "left", "right"] ["one", "other"] (defScope s_added) := by walk_at "sc"
theorem ok_added (T : Txt K mg A) (G_is_whole : DOk P w K mg base 1 "is_whole" (S_whole)) (G_as_pair : DOk P w K mg base 2 "as_pair" (S_as_pair)) (F : Fun K "added" "added" s_added f fd) : FnOk P w K mg base CX0 3 f fd ["one", "other"] (PureSp K (S_addI)) := by
  refine okD F sc_added (by walk_at "ln") fun _ _ _ _ _ _ hr ds Q h => ?_
  obtain ⟨a, b, rfl, q⟩ := h
  refine ⟨_, (dss_cons (ds_if (DW.dt (dw_and (dt_val (de_call G_is_whole (hr.mono (by decide)) rfl (da_cons (dv 0) da_nil))) (dw_and1 (dt_val (de_call G_is_whole (hr.mono (by decide)) rfl (da_cons (dv 1) da_nil)))))) (dss_one (ds_ret (de_op o_add (dv 0) (dv 1)))) dss_nil)
  (dss_cons (ds_set (i := 2) sc_added.nd rfl (Or.inl rfl) (de_call G_as_pair (hr.mono (by decide)) rfl (da_cons (dv 0) da_nil)))
  (dss_cons (ds_set (i := 3) sc_added.nd rfl (Or.inl rfl) (de_call G_as_pair (hr.mono (by decide)) rfl (da_cons (dv 1) da_nil)))
  (dss_one (ds_ret (de_tup (da_cons (de_op o_add (de_ix (dv 2) de_int (fun _ _ => rfl)) (de_ix (dv 3) de_int (fun _ _ => rfl))) (da_cons (de_op o_add (de_ix (dv 2) de_int (fun _ _ => rfl)) (de_ix (dv 3) de_int (fun _ _ => rfl))) da_nil)))))))), ?_⟩
  walk_at "rd"
  exact q
abbrev s_thing_at : Stmt := top 17
theorem sc_thing_at : FnScope ["row", "place"] ["row", "place"] (defScope s_thing_at) := by walk_at "sc"
theorem ok_thing_at (T : Txt K mg A) (F : Fun K "thing_at" "thing_at" s_thing_at f fd) : FnOk P w K mg base CX0 1 f fd ["row", "place"] (PureSp K (S_atI)) := by
  refine okD F sc_thing_at (by walk_at "ln") fun _ _ _ _ _ _ hr ds Q h => ?_
  obtain ⟨xs, k, rfl, q⟩ := h
  refine ⟨_, (dss_cons (ds_if (dt_cmp (o_lt) (dv 1) (de_len rfl T.len (dv 0)) (nomark _)) (dss_one (ds_ret (de_ix (dv 0) (dv 1) (fun _ _ => rfl)))) dss_nil)
  (dss_one (ds_ret de_int))), ?_⟩
  have hl : ((xs.map Dt.int).length : Int) = xs.length := by rw [List.length_map]
  refine ⟨_, rfl, _, rfl, _, rfl, _, _, rfl, rfl, _, rfl, ite2 (fun h => ?_) (fun h => ?_)⟩
  · have h := of_decide_eq_true h
    exact ⟨_, rfl, _, rfl, _, _, _, rfl, rfl, row_at (by omega), q⟩
  · have h : ¬ (k : Int) < ((xs.map Dt.int).length : Int) := fun z => h (decide_eq_true z)
    rw [hf_out (by omega)] at q
    exact q
abbrev s_row_plus : Stmt := top 42
theorem sc_row_plus : FnScope ["one", "other", "many"] ["one", "other"] (defScope s_row_plus) := by walk_at "sc"
theorem ok_row_plus (T : Txt K mg A) (G_added : DOk P w K mg base 3 "added" (S_addI)) (G_thing_at : DOk P w K mg base 1 "thing_at" (S_atI)) (F : Fun K "row_plus" "row_plus" s_row_plus f fd) : FnOk P w K mg base CX0 4 f fd ["one", "other"] (PureSp K (S_rplusI)) := by
  refine okD F sc_row_plus (by walk_at "ln") fun _ _ _ _ _ _ hr ds Q h => ?_
  obtain ⟨a, b, rfl, ha, hb, q⟩ := h
  refine ⟨_, (dss_cons (ds_set (i := 2) sc_row_plus.nd rfl (Or.inl rfl) (de_max rfl rfl T.n_max (da_cons (de_len rfl T.len (dv 0)) (da_cons (de_len rfl T.len (dv 1)) da_nil))))
  (dss_one (ds_ret (DF.de (cgF_R (df_compG (osc := defScope s_row_plus) (N0 := ["one", "other", "many"]) (bs := ["place"]) (caps := ["one", "other"]) (js := [0, 1]) rfl (by decide +kernel) rfl rfl rfl (di_range rfl T.range (dv 2)) (fun _ _ _ _ _ => (pg_name (i := 0) (show List.Nodup [("place" : Str), ("one" : Str), ("other" : Str)] by decide +kernel) rfl (Or.inl (lookup_relabel_local rfl)) (.inl rfl))) lig_one (fun _ _ _ _ _ => dc_nil) (fun _ _ _ _ _ => (de_call G_added (hr.mono (by decide)) rfl (da_cons (de_call G_thing_at (hr.mono (by decide)) rfl (da_cons (dv 1) (da_cons (dv 0) da_nil))) (da_cons (de_call G_thing_at (hr.mono (by decide)) rfl (da_cons (dv 2) (da_cons (dv 0) da_nil))) da_nil)))))))))), ?_⟩
  have l1 := len_ints a
  have l2 := len_ints b
  walk_at "rd"
  have em : (if ((b.map Dt.int).length : Int) > ((a.map Dt.int).length : Int) then ((b.map Dt.int).length : Int) else ((a.map Dt.int).length : Int)) = ((max a.length b.length : Nat) : Int) := by
    rw [l1, l2]; split <;> omega
  rw [em]
  refine ⟨_, fun i es => es = ((List.range i).map fun p => a.getD p 0 + b.getD p 0).map Dt.int, rfl, by omega, by omega, rfl, ?_, ?_⟩
  · rintro i es hi rfl
    refine ⟨_, rfl, _, rfl, a, i, rfl, ?_⟩
    refine ⟨_, rfl, _, rfl, b, i, rfl, _, _, rfl, ?_⟩
    show List.map Dt.int (List.map (fun p => a.getD p 0 + b.getD p 0) (List.range i)) ++ [_] = List.map Dt.int (List.map (fun p => a.getD p 0 + b.getD p 0) (List.range (i + 1)))
    rw [List.range_succ, List.map_append, List.map_append]
    rfl
  · rintro es rfl
    rw [Int.toNat_natCast]
    exact q
abbrev s_plus : Stmt := top 49
theorem sc_plus : FnScope ["way", "one", "other"] ["way", "one", "other"] (defScope s_plus) := by walk_at "sc"
theorem ok_plus (T : Txt K mg A) (G_held_to_be_writings : DOk P w K mg base 4 "held_to_be_writings" (S_heldF A)) (G_written_row : FOk P w K mg base 5 "written_row" (S_wrowF A)) (G_row_plus : DOk P w K mg base 4 "row_plus" (S_rplusI)) (F : Fun K "plus" "plus" s_plus f fd) : FnOk P w K mg base CX0 6 f fd ["way", "one", "other"] (FreshSp K (S_plusF A)) := by
  refine okF F sc_plus (by walk_at "ln") fun _ _ _ _ _ _ hr ds Q h => ?_
  obtain ⟨n, a, b, rfl, hn, hLa, hLb, la, lb, q⟩ := h
  refine ⟨_, (dss_cons (ds_expr (de_call G_held_to_be_writings (hr.mono (by decide)) rfl (da_cons (dv 0) (da_cons (de_lst (da_cons (dv 1) (da_cons (dv 2) da_nil))) da_nil))))
  (dss_one (ds_retF (df_call G_written_row (hr.mono (by decide)) rfl (da_cons (dv 0) (da_cons (de_call G_row_plus (hr.mono (by decide)) rfl (da_cons (dv 1) (da_cons (dv 2) da_nil))) da_nil)))))), ?_⟩
  have hl := rsum_len a b
  have n9 : n ≤ 9 := hn.2
  refine ⟨_, rfl, _, rfl, _, rfl, rfl, n, [a, b], rfl, fun r' h' => ?_, ?_⟩
  · rcases List.mem_cons.mp h' with rfl | h'
    · exact ⟨hLa, by omega⟩
    · rw [List.mem_singleton.mp h']; exact ⟨hLb, by omega⟩
  refine ⟨_, rfl, _, rfl, _, rfl, a, b, rfl, by omega, by omega, ?_⟩
  have zb : ∀ z ∈ rsum a b, 0 ≤ z ∧ z ≤ 18 := fun z hz => by
    obtain ⟨p, rfl⟩ := rsum_mem hz
    have f1 := fig_fall hn hLa p
    have f2 := fig_fall hn hLb p
    omega
  exact ⟨n, rsum a b, rfl, hn, by omega, fun z hz => (zb z hz).1, pot_small (B := 18) zb (by decide) (by decide) (by omega), fun r hr hw _ => q r hr (hw.trans (hw_rsum n a b))⟩
abbrev s_law_legal : Stmt := top 61
theorem sc_law_legal : FnScope ["_law_most", "_law_row", "_law_place"] ["_law_most", "_law_row"] (defScope s_law_legal) := by walk_at "sc"
theorem ok_law_legal (T : Txt K mg A) (F : Fun K "_law_legal" "_law_legal" s_law_legal f fd) : FnOk P w K mg base CX0 1 f fd ["_law_most", "_law_row"] (PureSp K (S_legL)) := by
  refine okD F sc_law_legal (by walk_at "ln") fun _ _ _ _ _ _ hr ds Q h => ?_
  obtain ⟨n, r, rfl, hL, hl, q⟩ := h
  refine ⟨_, (dss_cons (ds_if (dt_not (dt_val (de_isi (T := .list) T.kt T.isinstance T.n_list PyProof.Rows.boot_list (dv 1)))) (dss_one (ds_ret de_bl)) dss_nil)
  (dss_cons (ds_forR (j := 2) rfl sc_law_legal.nd rfl (Or.inl rfl) PassesOwn.never rfl T.range (de_len rfl T.len (dv 1)) (dss_join (ds_if (DW.dt (dw_or (dt_not (dt_val (de_isi (T := .int) T.kt T.isinstance T.n_int PyProof.Rows.boot_int (de_ix (dv 1) (dv 2) (fun _ _ => rfl))))) (dw_or (dt_val (de_isi (T := .bool) T.kt T.isinstance T.n_bool PyProof.Rows.boot_bool (de_ix (dv 1) (dv 2) (fun _ _ => rfl)))) (dw_or1 (dt_not (dt_chain (o_le) (o_le) de_int (de_ix (dv 1) (dv 2) (fun _ _ => rfl)) (dv 0))))))) (dss_one (ds_ret de_bl)) dss_nil)
  (dss_one (ds_if (DW.dt (dw_and (dt_cmp (o_gt) (dv 2) de_int (nomark _)) (dw_and (dt_cmp (o_eq hr) (de_ix (dv 1) (dv 2) (fun _ _ => rfl)) (dv 0) (nomark _)) (dw_and1 (dt_cmp (o_ne hr) (de_ix (dv 1) (de_op o_sub (dv 2) de_int) (fun _ _ => rfl)) de_int (nomark _)))))) (dss_one (ds_ret de_bl)) dss_nil))))
  (dss_one (ds_ret (de_or (de_cmp (o_eq hr) (de_len rfl T.len (dv 1)) de_int (nomark _)) (de_one (de_cmp (o_ne hr) (de_ix (dv 1) (de_neg de_int) (fun _ _ => rfl)) de_int (nomark _)))))))), ?_⟩
  have ll := len_ints r
  walk_at "rd"
  refine ⟨_, fun i ρ => ∃ v2, ρ = [.some (.int n), .some (rowD r), v2], rfl, by omega, by omega, ⟨_, rfl⟩, ?_, ?_⟩
  · rintro i ρ' hi ⟨v2, rfl⟩
    have hi' : i < r.length := by omega
    obtain ⟨f1, f2⟩ := hL.fig i hi'
    have f1 : 0 ≤ r.getD i 0 := f1
    have f2 : r.getD i 0 ≤ n := f2
    refine ⟨fun ρ => ρ = [.some (.int n), .some (rowD r), .some (.int i)], ?_, ?_⟩
    · refine ⟨_, rfl, _, rfl, _, _, _, rfl, rfl, row_at hi', ?_⟩
      walk_at "rd"
      refine ⟨_, _, _, rfl, rfl, row_at hi', ?_⟩
      walk_at "rd"
      refine ⟨_, _, _, rfl, rfl, row_at hi', ?_⟩
      refine ⟨_, _, rfl, rfl, _, rfl, ifT (decide_eq_true f1) ?_⟩
      refine ⟨_, rfl, _, _, rfl, rfl, _, rfl, ?_⟩
      rw [decide_eq_true f2]
      exact ifF rfl rfl
    · rintro ρ' rfl
      refine ⟨_, rfl, _, _, rfl, rfl, _, rfl, ?_⟩
      refine ifB (fun h3 => ?_) (fun h3 => ifF rfl ⟨_, rfl⟩)
      have h3 : (0 : Int) < i := of_decide_eq_true h3
      refine ⟨_, rfl, _, rfl, _, _, _, rfl, rfl, row_at hi', _, rfl, rfl, rfl, _, rfl, ?_⟩
      refine ifB (fun h4 => ?_) (fun h4 => ifF rfl ⟨_, rfl⟩)
      refine ⟨_, rfl, _, rfl, _, _, rfl, rfl, _, _, _, rfl, rfl, atI_row (by omega) (by omega), rfl, rfl, _, rfl, ifF (nT (eqI ?_)) ⟨_, rfl⟩⟩
      have e1 : ((i : Int) - 1).toNat = i - 1 := by omega
      rw [e1]
      have hi1 : i - 1 + 1 = i := by omega
      exact hL.fal rfl (i - 1) (by omega) (by rw [hi1]; exact of_eqI h4)
  · rintro ρ' ⟨v2, rfl⟩
    walk_at "rd"
    rcases snoc_cases r with rfl | ⟨l, y, rfl⟩
    · exact ifT rfl q
    · have ez : (l ++ [y]).getD ((l ++ [y]).length - 1) 0 = y := by rw [List.length_append]; exact getD_snoc_eq
      have hy : y ≠ 0 := by
        rcases hL.end_ with h | h
        · simp at h
        · rw [ez] at h; exact h
      refine ifF (neI (by rw [ll, List.length_append]; simp; omega)) ?_
      refine ⟨_, rfl, _, rfl, _, _, _, rfl, rfl, atI_last, rfl, rfl, ?_⟩
      rw [neI hy]
      exact q
abbrev s_multiplied : Stmt := top 15
theorem sc_multiplied : FnScope ["one", "other", "left", "right"] ["one", "other"] (defScope s_multiplied) := by walk_at "sc"
theorem ok_multiplied (T : Txt K mg A) (G_is_whole : DOk P w K mg base 1 "is_whole" (S_whole)) (G_as_pair : DOk P w K mg base 2 "as_pair" (S_as_pair)) (F : Fun K "multiplied" "multiplied" s_multiplied f fd) : FnOk P w K mg base CX0 3 f fd ["one", "other"] (PureSp K (S_mulI)) := by
  refine okD F sc_multiplied (by walk_at "ln") fun _ _ _ _ _ _ hr ds Q h => ?_
  obtain ⟨a, b, rfl, hm, q⟩ := h
  refine ⟨_, (dss_cons (ds_if (DW.dt (dw_and (dt_val (de_call G_is_whole (hr.mono (by decide)) rfl (da_cons (dv 0) da_nil))) (dw_and1 (dt_val (de_call G_is_whole (hr.mono (by decide)) rfl (da_cons (dv 1) da_nil)))))) (dss_one (ds_ret (de_op o_mul (dv 0) (dv 1)))) dss_nil)
  (dss_cons (ds_set (i := 2) sc_multiplied.nd rfl (Or.inl rfl) (de_call G_as_pair (hr.mono (by decide)) rfl (da_cons (dv 0) da_nil)))
  (dss_cons (ds_set (i := 3) sc_multiplied.nd rfl (Or.inl rfl) (de_call G_as_pair (hr.mono (by decide)) rfl (da_cons (dv 1) da_nil)))
  (dss_one (ds_ret (de_tup (da_cons (de_op o_sub (de_op o_mul (de_ix (dv 2) de_int (fun _ _ => rfl)) (de_ix (dv 3) de_int (fun _ _ => rfl))) (de_op o_mul (de_ix (dv 2) de_int (fun _ _ => rfl)) (de_ix (dv 3) de_int (fun _ _ => rfl)))) (da_cons (de_op o_add (de_op o_mul (de_ix (dv 2) de_int (fun _ _ => rfl)) (de_ix (dv 3) de_int (fun _ _ => rfl))) (de_op o_mul (de_ix (dv 2) de_int (fun _ _ => rfl)) (de_ix (dv 3) de_int (fun _ _ => rfl)))) da_nil)))))))), ?_⟩
  walk_at "rd"
  exact ⟨hm, q⟩
abbrev s_row_times : Stmt := top 43
theorem sc_row_times : FnScope ["row", "factor"] ["row", "factor"] (defScope s_row_times) := by walk_at "sc"
theorem ok_row_times (T : Txt K mg A) (G_multiplied : DOk P w K mg base 3 "multiplied" (S_mulI)) (F : Fun K "row_times" "row_times" s_row_times f fd) : FnOk P w K mg base CX0 4 f fd ["row", "factor"] (PureSp K (S_rtimesI)) := by
  refine okD F sc_row_times (by walk_at "ln") fun _ _ _ _ _ _ hr ds Q h => ?_
  obtain ⟨a, c, rfl, ha, c1, c2, q⟩ := h
  refine ⟨_, (dss_one (ds_ret (DF.de (cgF_L (df_compG (osc := defScope s_row_times) (N0 := ["row", "factor"]) (bs := ["thing"]) (caps := ["factor"]) (js := [1]) rfl (by decide +kernel) rfl rfl rfl (di_list (dv 0)) (fun _ _ _ _ _ => (pg_name (i := 0) (show List.Nodup [("thing" : Str), ("factor" : Str)] by decide +kernel) rfl (Or.inl (lookup_relabel_local rfl)) (.inl rfl))) lig_one (fun _ _ _ _ _ => dc_nil) (fun _ _ _ _ _ => (de_call G_multiplied (hr.mono (by decide)) rfl (da_cons (dv 0) (da_cons (dv 1) da_nil))))))))), ?_⟩
  have ll := len_ints a
  refine ⟨_, rfl, a.map Dt.int, fun i es => es = ((a.take i).map (· * c)).map Dt.int, rfl, by rw [ll]; omega, rfl, ?_, ?_⟩
  · rintro i e es hi rfl
    obtain ⟨rfl, hl⟩ := row_get hi
    refine ⟨_, rfl, _, rfl, _, _, rfl, small c1 c2 _, ?_⟩
    show List.map Dt.int (List.map (· * c) (a.take i)) ++ [_] = List.map Dt.int (List.map (· * c) (a.take (i + 1)))
    rw [take_snoc hl, List.map_append, List.map_append]
    rfl
  · rintro es rfl
    rw [ll, List.take_length]
    exact q
abbrev s_lend : Stmt := top 45
theorem sc_lend : FnScope ["way", "row", "lender"] ["way", "row", "lender"] (defScope s_lend) := by walk_at "sc"
theorem ok_lend (T : Txt K mg A) (F : Fun K "lend" "lend" s_lend f fd) : FnOk P w K mg base CX0 1 f fd ["way", "row", "lender"] (ArgSp K (S_lend A)) := by
  refine okA F sc_lend (by walk_at "ln") fun _ _ _ _ _ _ hr d0 es0 ds Q a h => ?_
  obtain ⟨n, r, l, rfl, rfl, rfl, hn, hl1, hlr, hl, q⟩ := h
  refine ⟨_, (dss_cons (ds_augA 1 ip_sub (dv 2) de_int)
  (dss_cons (ds_augA 1 ip_add (de_op o_sub (dv 2) de_int) (de_fld (dv 0)))
  (dss_one (ds_if (dt_cmp (o_eq hr) (dv 2) de_int (nomark _)) (dss_one (ds_augA 1 ip_add de_int de_int)) (dss_one (ds_augA 1 ip_add (de_op o_sub (dv 2) de_int) de_int)))))), ?_⟩
  have l1 : (r.set l (hf r l + -1)).length = r.length := List.length_set
  have l2 : ((r.set l (hf r l + -1)).set (l - 1) (hf (r.set l (hf r l + -1)) (l - 1) + n)).length = r.length := by rw [List.length_set, l1]
  generalize e1 : r.set l (hf r l + -1) = r1 at *
  generalize e2 : r1.set (l - 1) (hf r1 (l - 1) + n) = r2 at *
  have fin : ∀ es, es = (r2.set (l - 2) (hf r2 (l - 2) + 1)).map Dt.int → Q es := fun es he => by
    subst he
    refine q _ (by rw [List.length_set, l2]) fun i => ?_
    rw [hf_set (by omega), ← e2, hf_set (by omega), ← e1, hf_set hlr]
    show hf r i + pt l (-1) i + pt (l - 1) n i + pt (l - 2) 1 i = hf r i + (pt l (-1) i + (pt (l - 1) n i + (pt (l - 2) 1 i + 0)))
    omega
  refine ⟨a, _, rfl, _, rfl, (l : Int), hf r l, rfl, by omega, by rw [Int.toNat_natCast]; exact get_hf hlr, _, rfl, ?_⟩
  have es1 : (r.map Dt.int).set l (Dt.int ((fun i j => i - j) (hf r l) 1)) = r1.map Dt.int := by rw [← e1, ← set_ints]; rfl
  have es2 : (r1.map Dt.int).set (l - 1) (Dt.int ((fun i j => i + j) (hf r1 (l - 1)) n)) = r2.map Dt.int := by rw [← e2, ← set_ints]
  rw [Int.toNat_natCast, es1]
  have el : ((l : Int) - 1).toNat = l - 1 := by omega
  refine ⟨a, _, rfl, _, rfl, _, _, rfl, rfl, (l : Int) - 1, hf r1 (l - 1), rfl, by omega, by rw [el]; exact get_hf (by omega), _, rfl, _, _, _, rfl, rfl, T.cl_Falling, T.na_Falling, _, rfl, ?_⟩
  rw [el, es2]
  refine ⟨_, rfl, rfl, rfl, _, rfl, ?_⟩
  by_cases hl : l = 1
  · subst hl
    refine ifT rfl ?_
    exact ⟨a, _, rfl, 0, hf r2 0, rfl, by omega, get_hf (by omega), _, rfl, _, rfl, fin _ (by rw [← set_ints]; rfl)⟩
  · refine ifF (neI (by omega)) ?_
    have el2 : ((l : Int) - 2).toNat = l - 2 := by omega
    exact ⟨a, _, rfl, _, rfl, _, _, rfl, rfl, (l : Int) - 2, hf r2 (l - 2), rfl, by omega, by rw [el2]; exact get_hf (by omega), _, rfl, _, rfl, fin _ (by rw [el2, ← set_ints])⟩
abbrev s_lender_above : Stmt := top 44
theorem sc_lender_above : FnScope ["row", "place", "lender"] ["row", "place"] (defScope s_lender_above) := by walk_at "sc"
theorem ok_lender_above (T : Txt K mg A) (F : Fun K "lender_above" "lender_above" s_lender_above f fd) : FnOk P w K mg base (CX1 P w) 1 f fd ["row", "place"] (PureSpX K (S_lender A)) := by
  refine okDX F sc_lender_above (by walk_at "ln") fun _ _ _ _ _ _ hr ds Q R h rz => ?_
  obtain ⟨r, p, rfl, hl, hp, q, hR⟩ := h
  refine ⟨_, (dss_cons (ds_forR2 (j := 2) rfl sc_lender_above.nd rfl (Or.inl rfl) own1 rfl T.range (da_cons (de_op o_add (dv 1) de_int) (da_cons (de_len rfl T.len (dv 0)) da_nil)) (dss_one (ds_if (dt_cmp (o_gt) (de_ix (dv 0) (dv 2) (fun _ _ => rfl)) de_int (nomark _)) (dss_one (ds_ret (dv 2))) dss_nil)))
  (dss_one (ds_raise rfl rfl T.gc_TooLess T.ex_TooLess de_str))), ?_⟩
  have ll := len_ints r
  walk_at "rd"
  refine ⟨_, _, fun i ρ => ∃ v, ρ = [.some (rowD r), .some (.int p), v] ∧ ∀ j, p < j → j < p + 1 + i → hf r j ≤ 0, rfl, by omega, by omega, by omega, by omega, ⟨_, rfl, fun j h1 h2 => by omega⟩, ?_, ?_⟩
  · rintro i ρ' hi ⟨v, rfl, hj⟩
    have ei : (p : Int) + 1 + i = ((p + 1 + i : Nat) : Int) := by omega
    rw [ei]
    refine ⟨_, rfl, _, rfl, _, _, _, rfl, rfl, row_at (show p + 1 + i < r.length by omega), _, _, rfl, rfl, _, rfl, ifB (fun h => ?_) (fun h => ?_)⟩
    · exact ⟨_, rfl, q (p + 1 + i) (by omega) (by omega) (fun j a b => hj j a b) (of_decide_eq_true h)⟩
    · refine ⟨_, rfl, fun j a b => ?_⟩
      rcases (by omega : j < p + 1 + i ∨ j = p + 1 + i) with z | z
      · exact hj j a z
      · subst z
        have := of_decide_eq_false h
        show r.getD (p + 1 + i) 0 ≤ 0
        omega
  · rintro ρ' ⟨v, rfl, hj⟩
    refine rz _ (hR fun i hi => ?_)
    by_cases z : i < r.length
    · exact hj i hi (by omega)
    · rw [hf_out (by omega)]; exact Int.le_refl _
abbrev s_without_debts : Stmt := top 46
theorem sc_without_debts : FnScope ["way", "row", "things", "place"] ["way", "row"] (defScope s_without_debts) := by walk_at "sc"
theorem ok_without_debts (T : Txt K mg A) (G_lend : AOk P w K mg base 1 "lend" (S_lend A)) (G_lender_above : DOkX P w K mg base 1 "lender_above" (S_lender A)) (F : Fun K "without_debts" "without_debts" s_without_debts f fd) : FnOk P w K mg base (CX1 P w) 2 f fd ["way", "row"] (FreshSpX K (S_wdX A)) := by
  refine okFX F sc_without_debts (by walk_at "ln") fun _ _ _ _ _ _ hr ds Q R h rz => ?_
  obtain ⟨n, r, o, rfl, hn, hl, hd, hdo, ho, q, hR⟩ := h
  refine ⟨_, (dss_cons (ds_setO (i := 2) sc_without_debts.nd rfl (Or.inl rfl) (df_list rfl T.n_list (dv 1)))
  (dss_cons (ds_forD (j := 3) rfl sc_without_debts.nd rfl (Or.inl rfl) own1 rfl T.range (da_cons (de_op o_sub (de_lenO 2 rfl T.len) de_int) (da_cons (de_neg de_int) (da_cons (de_neg de_int) da_nil))) (dss_one (ds_while own1 (dt_cmp (o_lt) (de_ixO 2 (dv 3) (fun _ _ => rfl)) de_int (nomark _)) (dss_one (ds_callA 2 G_lend (hr.mono (by decide)) rfl (dv 0) (da_cons (de_bor (de_callX G_lender_above (hr.mono (by decide)) rfl (da_cons (dv 2) (da_cons (dv 3) da_nil)))) da_nil))))))
  (dss_one (ds_retO 2)))), ?_⟩
  have ll := len_ints r
  have n1 : 1 ≤ n := hn.1
  have n9 : n ≤ 9 := hn.2
  have wn : ∀ i, 0 ≤ wf n i := fun i => by have := (wf_pos n1 i).1; omega
  refine ⟨_, rfl, _, rfl, _, rfl, ?_⟩
  walk_at "rd"
  refine ⟨_, _, fun i ρ => ∃ (g : List Int) (v : Sl), ρ = [.some (wayD A .falling n), .some (rowD r), .own (g.map Dt.int), v] ∧ g.length = r.length ∧ (∀ j, r.length ≤ j + i → 0 ≤ hf g j) ∧ (i < r.length → Lv n (hf r) r.length (r.length - 1 - i) (hf g)) ∧ sm (wf n) (hf g) r.length = sm (wf n) (hf r) r.length ∧ ∀ j, hf g j ≤ n + 1, rfl, by omega, by omega, by decide, by decide, ⟨r, _, rfl, rfl, fun j hj => by rw [hf_out (by omega)]; exact Int.le_refl _, fun _ => Lv.start hd (fun i hi => hf_out hi), rfl, fun j => by have := hd j; omega⟩, ?_, ?_⟩
  · rintro i ρ' hi ⟨g, v, rfl, hg, hab, hlv, hwq, hhi⟩
    obtain ⟨p, hp⟩ : ∃ p : Nat, p + i + 1 = r.length := ⟨r.length - 1 - i, by omega⟩
    have ep : ((List.map Dt.int r).length : Int) - 1 - i = p := by omega
    rw [ep]
    have lv := hlv (by omega)
    rw [show r.length - 1 - i = p by omega] at lv
    refine ⟨fun m ρ => ∃ g : List Int, ρ = [.some (wayD A .falling n), .some (rowD r), .own (g.map Dt.int), .some (.int p)] ∧ g.length = r.length ∧ Lv n (hf r) r.length p (hf g) ∧ m = (sm (far p) (hf g) r.length).toNat, ⟨_, g, rfl, hg, lv, rfl⟩, ?_⟩
    rintro m ρ' ⟨g, rfl, hg, lv, rfl⟩
    have lg := len_ints g
    refine ⟨_, rfl, _, rfl, _, _, rfl, atI_row (show (0 : Int) ≤ p by omega) (by omega), _, _, rfl, rfl, _, rfl, ?_⟩
    rw [Int.toNat_natCast]
    refine ifB (fun h => ?_) (fun h => ?_)
    · have hneg : hf g p < 0 := of_decide_eq_true h
      refine ⟨_, rfl, _, rfl, ?_⟩
      refine ⟨_, rfl, _, rfl, g, p, rfl, by omega, by omega, fun l h1 h2 h3 h4 => ?_, fun h0 => ?_⟩
      · have g0 : ∀ i, p < i → i < l → hf g i = 0 := fun i a b => by have := h3 i a b; have := lv.ab i a; omega
        obtain ⟨lv', dec⟩ := lv.lend n1 n9 hd hneg h1 (by omega) g0 h4
        refine ⟨rfl, n, g, l, rfl, rfl, rfl, hn, by omega, by omega, by omega, fun g' hg' he => ?_⟩
        have ef : hf g' = fun i => hf g i + csum (lnd n l) i := funext he
        have nn : 0 ≤ sm (far p) (fun i => hf g i + csum (lnd n l) i) r.length := by
          exact far_sm lv'.ab r.length
        exact ⟨(sm (far p) (hf g') r.length).toNat, by rw [ef]; omega, g', rfl, by omega, by rw [ef]; exact lv', rfl⟩
      · refine rz _ (hR ?_)
        exact lv.less n1 hneg (by omega) (fun i hi => by have := h0 i hi; have := lv.ab i hi; omega) hdo (ho p (by omega))
    · have hnn : ¬ hf g p < 0 := of_decide_eq_false h
      refine ⟨g, _, rfl, hg, fun j hj => ?_, fun hi2 => ?_, lv.wq, lv.hi⟩
      · rcases (by omega : j = p ∨ p < j) with z | z
        · rw [z]; omega
        · exact lv.ab j z
      · obtain ⟨p', rfl⟩ : ∃ p', p = p' + 1 := ⟨p - 1, by omega⟩
        rw [show r.length - 1 - (i + 1) = p' by omega]
        exact lv.next hd (by omega)
  · rintro ρ' ⟨g, v, rfl, hg, hab, _, hwq, hhi⟩
    have e : (((List.map Dt.int r).length : Int) - 1 - (-1)).toNat = r.length := by omega
    rw [e] at hab
    refine ⟨_, rfl, q g hg (by unfold hw; rw [hg]; exact hwq) fun z hz => ?_⟩
    obtain ⟨i, hi⟩ := List.mem_iff_getElem?.mp hz
    have e2 : hf g i = z := by unfold hf; rw [List.getD_eq_getElem?_getD, hi]; rfl
    rw [← e2]
    exact ⟨hab i (by omega), hhi i⟩
abbrev s_minus : Stmt := top 50
theorem sc_minus : FnScope ["way", "one", "other", "difference"] ["way", "one", "other"] (defScope s_minus) := by walk_at "sc"
theorem ok_minus (T : Txt K mg A) (G_held_to_be_writings : DOk P w K mg base 4 "held_to_be_writings" (S_heldF A)) (G_row_plus : DOk P w K mg base 4 "row_plus" (S_rplusI)) (G_row_times : DOk P w K mg base 4 "row_times" (S_rtimesI)) (G_written_row : FOk P w K mg base 5 "written_row" (S_wrowF A)) (G_without_debts : FOkX P w K mg base 2 "without_debts" (S_wdX A)) (F : Fun K "minus" "minus" s_minus f fd) : FnOk P w K mg base CX0 6 f fd ["way", "one", "other"] (FreshSp K (S_minusF A)) := by
  refine okF F sc_minus (by walk_at "ln") fun _ _ _ _ _ _ hr ds Q h => ?_
  obtain ⟨n, a, b, rfl, hn, hLa, hLb, la, lb, hle, q⟩ := h
  refine ⟨_, (dss_cons (ds_expr (de_call G_held_to_be_writings (hr.mono (by decide)) rfl (da_cons (dv 0) (da_cons (de_lst (da_cons (dv 1) (da_cons (dv 2) da_nil))) da_nil))))
  (dss_cons (ds_set (i := 3) sc_minus.nd rfl (Or.inl rfl) (de_call G_row_plus (hr.mono (by decide)) rfl (da_cons (dv 1) (da_cons (de_call G_row_times (hr.mono (by decide)) rfl (da_cons (dv 2) (da_cons (de_neg de_int) da_nil))) da_nil))))
  (dss_cons (ds_if (dt_val (de_isiO T.isinstance T.gc_Falling (dv 0))) (dss_one (ds_retF (df_call G_written_row (hr.mono (by decide)) rfl (da_cons (dv 0) (da_cons (DF.de (df_callX G_without_debts (hr.mono (by decide)) rfl (da_cons (dv 0) (da_cons (dv 3) da_nil)))) da_nil))))) dss_nil)
  (dss_one (ds_retF (df_call G_written_row (hr.mono (by decide)) rfl (da_cons (dv 0) (da_cons (dv 3) da_nil)))))))), ?_⟩
  have n1 : 1 ≤ n := hn.1
  have n9 : n ≤ 9 := hn.2
  have li := itim_len b (-1)
  have hl := rsum_len a (itim b (-1))
  have hww : hw n (rsum a (itim b (-1))) = hw n a - hw n b := by rw [hw_rsum, hw_itim]; omega
  refine ⟨_, rfl, _, rfl, _, rfl, rfl, n, [a, b], rfl, fun r' h' => ?_, ?_⟩
  · rcases List.mem_cons.mp h' with rfl | h'
    · exact ⟨hLa, by omega⟩
    · rw [List.mem_singleton.mp h']; exact ⟨hLb, by omega⟩
  refine ⟨_, rfl, _, rfl, _, rfl, b, -1, rfl, by omega, by decide, by decide, a, itim b (-1), rfl, by omega, by omega, ?_⟩
  refine ⟨_, rfl, _, _, _, _, rfl, T.isi_Falling, T.ki_Falling_Falling, _, rfl, ifT rfl ?_⟩
  refine ⟨_, rfl, _, rfl, _, rfl, n, rsum a (itim b (-1)), hf a, rfl, hn, by omega, fun i => ?_, fun i => ?_, fun p _ => pre_all n1 hLa.lg p, fun r' hl' hw' hz => ?_, fun h => by omega⟩
  · have f1 := fig_fall hn hLa i
    have f2 := fig_fall hn hLb i
    rw [rsub_hf]
    omega
  · have f2 := fig_fall hn hLb i
    rw [rsub_hf]
    omega
  · exact ⟨n, r', rfl, hn, by omega, fun z h => (hz z h).1, pot_small (B := 10) (fun z h => by have := hz z h; omega) (by decide) (by decide) (by omega), fun r hr hwr _ => q r hr (by rw [hwr, hw', hww])⟩
abbrev s_law_number : Stmt := top 62
theorem sc_law_number : FnScope ["_law_most", "_law_row", "_law_lower", "_law_here", "_law_total", "_law_thing", "_law_ahead"] ["_law_most", "_law_row"] (defScope s_law_number) := by walk_at "sc"
theorem ok_law_number (T : Txt K mg A) (F : Fun K "_law_number" "_law_number" s_law_number f fd) : FnOk P w K mg base CX0 1 f fd ["_law_most", "_law_row"] (PureSp K (S_num66)) := by
  refine okD F sc_law_number (by walk_at "ln") fun _ _ _ _ _ _ hr ds Q h => ?_
  obtain ⟨n, r, rfl, hn, hl, hL, q⟩ := h
  refine ⟨_, (dss_cons (ds_set (i := 2) sc_law_number.nd rfl (Or.inl rfl) de_int)
  (dss_cons (ds_set (i := 3) sc_law_number.nd rfl (Or.inl rfl) de_int)
  (dss_cons (ds_set (i := 4) sc_law_number.nd rfl (Or.inl rfl) de_int)
  (dss_cons (ds_for (j := 5) rfl sc_law_number.nd rfl (Or.inl rfl) PassesOwn.never (dv 1) (dss_cons (ds_set (i := 4) sc_law_number.nd rfl (Or.inl rfl) (de_op o_add (dv 4) (de_op o_mul (dv 5) (dv 3))))
  (dss_cons (ds_set (i := 6) sc_law_number.nd rfl (Or.inl rfl) (dv 3))
  (dss_cons (ds_set (i := 3) sc_law_number.nd rfl (Or.inl rfl) (de_op o_add (de_op o_mul (dv 0) (dv 3)) (dv 2)))
  (dss_one (ds_set (i := 2) sc_law_number.nd rfl (Or.inl rfl) (dv 6)))))))
  (dss_one (ds_ret (dv 4))))))), ?_⟩
  have n1 : 1 ≤ n := hn.1
  have n9 : n ≤ 9 := hn.2
  have ll := len_ints r
  refine ⟨_, rfl, _, fun i ρ => ∃ v5 v6 : Sl, ρ = [.some (.int n), .some (rowD r), .some (.int (wtF n i).1), .some (.int (wtF n i).2), .some (.int (sm (wf n) (hf r) i)), v5, v6], rfl, ⟨_, _, rfl⟩, ?_, ?_⟩
  · rintro i e ρ' he ⟨v5, v6, rfl⟩
    obtain ⟨rfl, hi⟩ := get_ints he
    have f := fig_fall hn hL i
    have f : 0 ≤ r.getD i 0 ∧ r.getD i 0 ≤ n := f
    refine ⟨_, rfl, _, rfl, _, rfl, _, _, rfl, rfl, small' (by omega) (by omega) _, _, _, rfl, rfl, ?_⟩
    refine ⟨_, rfl, ?_⟩
    refine ⟨_, rfl, _, rfl, _, _, rfl, rfl, small' (by omega) (by omega) _, _, rfl, _, _, rfl, rfl, ?_⟩
    exact ⟨_, rfl, _, _, rfl⟩
  · rintro ρ' ⟨v5, v6, rfl⟩
    rw [ll]
    exact ⟨_, rfl, q⟩
abbrev s_law_back : Stmt := top 63
theorem sc_law_back : FnScope ["_law_way", "_law_most", "_law_one", "_law_other", "_law_found", "_law_high", "_law_low"] ["_law_way", "_law_most", "_law_one", "_law_other"] (defScope s_law_back) := by walk_at "sc"
theorem ok_law_back (T : Txt K mg A) (G_plus : FOk P w K mg base 6 "plus" (S_plusF A)) (G__law_legal : DOk P w K mg base 1 "_law_legal" (S_legL)) (G_minus : FOk P w K mg base 6 "minus" (S_minusF A)) (G__law_number : DOk P w K mg base 1 "_law_number" (S_num66)) (F : Fun K "_law_back" "_law_back" s_law_back f fd) : FnOk P w K mg base CX0 7 f fd ["_law_way", "_law_most", "_law_one", "_law_other"] (PureSp K (S_back A)) := by
  refine okD F sc_law_back (by walk_at "ln") fun _ _ _ _ _ _ hr ds Q h => ?_
  obtain ⟨n, a, b, rfl, hn, ha, hb, q⟩ := h
  refine ⟨_, (dss_cons (ds_set (i := 4) sc_law_back.nd rfl (Or.inl rfl) (DF.de (df_call G_plus (hr.mono (by decide)) rfl (da_cons (dv 0) (da_cons (dv 2) (da_cons (dv 3) da_nil))))))
  (dss_join (ds_if (DW.dt (dw_or (dt_not (dt_val (de_call G__law_legal (hr.mono (by decide)) rfl (da_cons (dv 1) (da_cons (dv 4) da_nil))))) (dw_or (dt_cmp (o_ne hr) (DF.de (df_call G_minus (hr.mono (by decide)) rfl (da_cons (dv 0) (da_cons (dv 4) (da_cons (dv 3) da_nil))))) (dv 2) (nomark _)) (dw_or1 (dt_cmp (o_ne hr) (DF.de (df_call G_minus (hr.mono (by decide)) rfl (da_cons (dv 0) (da_cons (dv 4) (da_cons (dv 2) da_nil))))) (dv 3) (nomark _)))))) (dss_one (ds_ret de_bl)) dss_nil)
  (dss_cons (ds_if (dt_cmp (o_ne hr) (de_call G__law_number (hr.mono (by decide)) rfl (da_cons (dv 1) (da_cons (dv 4) da_nil))) (de_op o_add (de_call G__law_number (hr.mono (by decide)) rfl (da_cons (dv 1) (da_cons (dv 2) da_nil))) (de_call G__law_number (hr.mono (by decide)) rfl (da_cons (dv 1) (da_cons (dv 3) da_nil)))) (nomark _)) (dss_one (ds_ret de_bl)) dss_nil)
  (dss_cons (ds_set (i := 5) sc_law_back.nd rfl (Or.inl rfl) (dv 2))
  (dss_cons (ds_set (i := 6) sc_law_back.nd rfl (Or.inl rfl) (dv 3))
  (dss_join (ds_if (dt_cmp (o_lt) (de_call G__law_number (hr.mono (by decide)) rfl (da_cons (dv 1) (da_cons (dv 2) da_nil))) (de_call G__law_number (hr.mono (by decide)) rfl (da_cons (dv 1) (da_cons (dv 3) da_nil))) (nomark _)) (dss_cons (ds_set (i := 5) sc_law_back.nd rfl (Or.inl rfl) (dv 3))
  (dss_one (ds_set (i := 6) sc_law_back.nd rfl (Or.inl rfl) (dv 2)))) dss_nil)
  (dss_one (ds_ret (de_cmp (o_eq hr) (DF.de (df_call G_plus (hr.mono (by decide)) rfl (da_cons (dv 0) (da_cons (DF.de (df_call G_minus (hr.mono (by decide)) rfl (da_cons (dv 0) (da_cons (dv 5) (da_cons (dv 6) da_nil))))) (da_cons (dv 6) da_nil))))) (dv 5) (nomark _)))))))))), ?_⟩
  have n1 : 1 ≤ n := hn.1
  have n9 : n ≤ 9 := hn.2
  have la := ha.len hn
  have lb := hb.len hn
  have na := ha.nn n1
  have nb := hb.nn n1
  refine ⟨_, rfl, _, rfl, _, rfl, n, a, b, rfl, hn, ha.1, hb.1, by omega, by omega, fun r hr hw => ?_⟩
  have hW : Wb n 14 r := ⟨hr, by rw [hw]; have w : 2 * wf n 12 ≤ wf n 14 := wf_dbl n1 12; have := ha.2; have := hb.2; omega⟩
  have lr := hW.len hn
  refine ⟨fun ρ => ρ = [.some (wayD A .falling n), .some (.int n), .some (rowD a), .some (rowD b), .some (rowD r), .none, .none], ?_, ?_⟩
  · refine ⟨_, rfl, _, rfl, n, r, rfl, hr, by omega, _, rfl, ifF rfl ?_⟩
    refine ⟨_, rfl, _, rfl, _, rfl, n, r, b, rfl, hn, hr, hb.1, by omega, by omega, by omega, fun s hs hws => ?_⟩
    rw [uniqF n1 hs ha.1 (by omega)]
    refine ⟨_, rfl, okE_row _, okE_row _, _, rfl, iteNE (eq_row _) ?_⟩
    refine ⟨_, rfl, _, rfl, _, rfl, n, r, a, rfl, hn, hr, ha.1, by omega, by omega, by omega, fun s hs hws => ?_⟩
    rw [uniqF n1 hs hb.1 (by omega)]
    refine ⟨_, rfl, okE_row _, okE_row _, _, rfl, iteNE (eq_row _) ?_⟩
    rfl
  rintro ρ rfl
  refine ⟨_, rfl, _, rfl, n, r, rfl, hn, by omega, hr, _, rfl, _, rfl, n, a, rfl, hn, by omega, ha.1, _, rfl, _, rfl, n, b, rfl, hn, by omega, hb.1, _, _, rfl, rfl, rfl, rfl, _, rfl, iteNE (eqI hw) ?_⟩
  refine ⟨_, rfl, ?_⟩
  refine ⟨_, rfl, ?_⟩
  refine ⟨fun ρ => ∃ x y : List Int, ρ = [.some (wayD A .falling n), .some (.int n), .some (rowD a), .some (rowD b), .some (rowD r), .some (rowD x), .some (rowD y)] ∧ Wb n 12 x ∧ Wb n 12 y ∧ My.hw n y ≤ My.hw n x, ?_, ?_⟩
  · refine ⟨_, rfl, _, rfl, n, a, rfl, hn, by omega, ha.1, _, rfl, _, rfl, n, b, rfl, hn, by omega, hb.1, _, _, rfl, rfl, _, rfl, ifB (fun h => ?_) (fun h => ?_)⟩
    · have h := of_decide_eq_true h
      exact ⟨_, rfl, _, rfl, b, a, rfl, hb, ha, by omega⟩
    · have h := of_decide_eq_false h
      exact ⟨a, b, rfl, ha, hb, by omega⟩
  rintro ρ ⟨x, y, rfl, hx, hy, hxy⟩
  have lx := hx.len hn
  have ly := hy.len hn
  have ny := hy.nn n1
  refine ⟨_, rfl, _, rfl, _, rfl, _, rfl, n, x, y, rfl, hn, hx.1, hy.1, by omega, by omega, hxy, fun s hs hws => ?_⟩
  have hS : Wb n 12 s := ⟨hs, by have := hx.2; omega⟩
  have ls := hS.len hn
  refine ⟨_, rfl, n, s, y, rfl, hn, hs, hy.1, by omega, by omega, fun t ht hwt => ?_⟩
  rw [uniqF n1 ht hx.1 (by omega)]
  refine ⟨_, rfl, okE_row _, okE_row _, ?_⟩
  rw [eq_row]
  exact q
abbrev s_times_in_falling : Stmt := top 48
theorem sc_times_in_falling : FnScope ["way", "one", "other", "product", "ahead", "place", "above"] ["way", "one", "other"] (defScope s_times_in_falling) := by walk_at "sc"
theorem ok_times_in_falling (T : Txt K mg A) (G_row_plus : DOk P w K mg base 4 "row_plus" (S_rplusI)) (G_row_times : DOk P w K mg base 4 "row_times" (S_rtimesI)) (G_written_row : FOk P w K mg base 5 "written_row" (S_wrowF A)) (F : Fun K "times_in_falling" "times_in_falling" s_times_in_falling f fd) : FnOk P w K mg base CX0 6 f fd ["way", "one", "other"] (FreshSp K (S_timesF A)) := by
  refine okF F sc_times_in_falling (by walk_at "ln") fun _ _ _ _ _ _ hr ds Q h => ?_
  obtain ⟨n, a, b, rfl, hn, hLa, hLb, hw, q⟩ := h
  refine ⟨_, (dss_cons (ds_setO (i := 3) sc_times_in_falling.nd rfl (Or.inl rfl) (df_lst da_nil))
  (dss_cons (ds_set (i := 4) sc_times_in_falling.nd rfl (Or.inl rfl) (de_lst da_nil))
  (dss_cons (ds_forD (j := 5) rfl sc_times_in_falling.nd rfl (Or.inl rfl) PassesOwn.never rfl T.range (da_cons (de_op o_sub (de_len rfl T.len (dv 2)) de_int) (da_cons (de_neg de_int) (da_cons (de_neg de_int) da_nil))) (dss_frz 3 (dss_cons (ds_set (i := 6) sc_times_in_falling.nd rfl (Or.inl rfl) (de_call G_row_plus (hr.mono (by decide)) rfl (da_cons (de_call G_row_times (hr.mono (by decide)) rfl (da_cons (dv 3) (da_cons (de_fld (dv 0)) da_nil))) (da_cons (dv 4) da_nil))))
  (dss_cons (ds_set (i := 4) sc_times_in_falling.nd rfl (Or.inl rfl) (dv 3))
  (dss_one (ds_setO (i := 3) sc_times_in_falling.nd rfl (Or.inl rfl) (df_call G_written_row (hr.mono (by decide)) rfl (da_cons (dv 0) (da_cons (de_call G_row_plus (hr.mono (by decide)) rfl (da_cons (dv 6) (da_cons (de_call G_row_times (hr.mono (by decide)) rfl (da_cons (dv 1) (da_cons (de_ix (dv 2) (dv 5) (fun _ _ => rfl)) da_nil))) da_nil))) da_nil)))))))))
  (dss_frz 3 (dss_one (ds_retF (df_call G_written_row (hr.mono (by decide)) rfl (da_cons (dv 0) (da_cons (de_call G_row_plus (hr.mono (by decide)) rfl (da_cons (dv 3) (da_cons (dv 4) da_nil))) da_nil))))))))), ?_⟩
  have l1 := len_ints a
  have l2 := len_ints b
  have n1 : 1 ≤ n := hn.1
  have n9 : n ≤ 9 := hn.2
  have fa := fig_fall hn hLa
  have fo := fig_fall hn hLb
  have la := (fb_le a.length n1 fa a.length).2.2
  rw [← fb_all] at la
  walk_at "rd"
  refine ⟨_, _, fun i ρ => ∃ (r s : List Int) (v5 v6 : Sl), ρ = [.some (wayD A .falling n), .some (rowD a), .some (rowD b), .own (r.map Dt.int), .some (rowD s), v5, v6] ∧ Legal .falling n r ∧ Legal .falling n s ∧ My.hw n r = My.hw n a * (fb n b b.length i).2 ∧ My.hw n s = My.hw n a * (fb n b b.length i).1 ∧ r.length ≤ 104 ∧ s.length ≤ 104, rfl, by omega, by omega, by decide, by decide, ⟨[], [], _, _, rfl, legal_nil _ n, legal_nil _ n, (Int.mul_zero _).symm, (Int.mul_zero _).symm, by decide, by decide⟩, ?_, ?_⟩
  · rintro i ρ' hi ⟨r, s, v5, v6, rfl, hr, hs, hwr, hws, hlr, hls⟩
    obtain ⟨p, hp⟩ : ∃ p : Nat, p + i + 1 = b.length := ⟨b.length - 1 - i, by omega⟩
    have ep : ((List.map Dt.int b).length : Int) - 1 - i = p := by omega
    rw [ep]
    have eb : b.length - (i + 1) = p := by omega
    have f1 := fo p
    have o1 : 0 ≤ b.getD p 0 := f1.1
    have o2 : b.getD p 0 ≤ n := f1.2
    have lr := itim_len r n
    have la2 := itim_len a (b.getD p 0)
    have hl1 := rsum_len (itim r n) s
    have hl2 := rsum_len (rsum (itim r n) s) (itim a (b.getD p 0))
    have hww : My.hw n (rsum (rsum (itim r n) s) (itim a (b.getD p 0))) = My.hw n a * (fb n b b.length (i + 1)).2 := by
      rw [hw_rsum, hw_rsum, hw_itim, hw_itim, hwr, hws]
      show _ * n + _ + _ * b.getD p 0 = My.hw n a * (hf b (b.length - (i + 1)) + n * (fb n b b.length i).2 + (fb n b b.length i).1)
      rw [eb]
      show _ * n + _ + _ * hf b p = _
      grind
    have zb : ∀ z ∈ rsum (rsum (itim r n) s) (itim a (b.getD p 0)), 0 ≤ z ∧ z ≤ 171 := fun z hz => by
      obtain ⟨u, rfl⟩ := rsum_mem hz
      rw [hf_rsum, hf_itim, hf_itim]
      obtain ⟨x1, x2⟩ := fig_fall hn hr u
      obtain ⟨y1, y2⟩ := fig_fall hn hs u
      obtain ⟨c1, c2⟩ := fa u
      have m1 := Int.mul_nonneg x1 (show 0 ≤ n by omega)
      have m2 := Int.mul_le_mul (show hf r u ≤ 9 by omega) n9 (by omega) (by omega)
      have m3 := Int.mul_nonneg c1 o1
      have m4 := Int.mul_le_mul (show hf a u ≤ 9 by omega) (show b.getD p 0 ≤ 9 by omega) o1 (by omega)
      omega
    refine ⟨_, rfl, _, rfl, _, rfl, _, _, _, rfl, rfl, T.cl_Falling, T.na_Falling, r, n, rfl, by omega, by omega, by omega, _, rfl, itim r n, s, rfl, by omega, by omega, ?_⟩
    refine ⟨_, rfl, ?_⟩
    refine ⟨_, rfl, _, rfl, _, rfl, _, rfl, _, rfl, _, _, _, rfl, rfl, row_at (show p < b.length by omega), a, b.getD p 0, rfl, by omega, by omega, by omega, _, _, rfl, by omega, by omega, ?_⟩
    refine ⟨n, _, rfl, hn, by omega, fun z hz => (zb z hz).1, pot_big zb (by decide) (by decide) (by omega), fun r' hr' hw' _ => ?_⟩
    rw [hww] at hw'
    obtain ⟨c1, c2, _⟩ := fb_le b.length n1 fo (i + 1)
    have bd := mul_wf n1 la.1 la.2 c1 c2
    rw [← hw'] at bd
    have := fall_len hn hr' bd.2
    exact ⟨_, rfl, r', r, _, _, rfl, hr', hr, hw', hwr, by omega, hlr⟩
  · rintro ρ' ⟨r, s, v5, v6, rfl, hr, hs, hwr, hws, hlr, hls⟩
    have e : (((List.map Dt.int b).length : Int) - 1 - (-1)).toNat = b.length := by omega
    rw [e] at hwr hws
    have hl := rsum_len r s
    have zb : ∀ z ∈ rsum r s, 0 ≤ z ∧ z ≤ 18 := fun z hz => by
      obtain ⟨u, rfl⟩ := rsum_mem hz
      obtain ⟨x1, x2⟩ := fig_fall hn hr u
      obtain ⟨y1, y2⟩ := fig_fall hn hs u
      omega
    refine ⟨_, rfl, _, rfl, _, rfl, _, rfl, r, s, rfl, by omega, by omega, ?_⟩
    refine ⟨n, _, rfl, hn, by omega, fun z hz => (zb z hz).1, pot_big zb (by decide) (by decide) (by omega), fun r' hr' hw' _ => ?_⟩
    rw [hw_rsum, hwr, hws, ← Int.mul_add, ← fb_all] at hw'
    exact q r' hr' hw'
abbrev s_times : Stmt := top 51
theorem sc_times : FnScope ["way", "one", "other"] ["way", "one", "other"] (defScope s_times) := by walk_at "sc"
theorem ok_times (T : Txt K mg A) (G_held_to_be_writings : DOk P w K mg base 4 "held_to_be_writings" (S_heldF A)) (G_times_in_falling : FOk P w K mg base 6 "times_in_falling" (S_timesF A)) (F : Fun K "times" "times" s_times f fd) : FnOk P w K mg base CX0 7 f fd ["way", "one", "other"] (FreshSp K (S_timesF A)) := by
  refine okF F sc_times (by walk_at "ln") fun _ _ _ _ _ _ hr ds Q h => ?_
  obtain ⟨n, a, b, rfl, hn, hLa, hLb, hw, q⟩ := h
  refine ⟨_, (dss_cons (ds_expr (de_call G_held_to_be_writings (hr.mono (by decide)) rfl (da_cons (dv 0) (da_cons (de_lst (da_cons (dv 1) (da_cons (dv 2) da_nil))) da_nil))))
  (dss_cons (ds_if (dt_val (de_isiO T.isinstance T.gc_Falling (dv 0))) (dss_one (ds_retF (df_call G_times_in_falling (hr.mono (by decide)) rfl (da_cons (dv 0) (da_cons (dv 1) (da_cons (dv 2) da_nil)))))) dss_nil)
  (dss_one ds_never))), ?_⟩
  refine ⟨_, rfl, _, rfl, _, rfl, rfl, n, [a, b], rfl, fun r' h' => ?_, ?_⟩
  · rcases List.mem_cons.mp h' with rfl | h'
    · exact ⟨hLa, by omega⟩
    · rw [List.mem_singleton.mp h']; exact ⟨hLb, by omega⟩
  refine ⟨_, rfl, _, _, _, _, rfl, T.isi_Falling, T.ki_Falling_Falling, _, rfl, ifT rfl ?_⟩
  exact ⟨_, rfl, _, rfl, _, rfl, n, a, b, rfl, hn, hLa, hLb, hw, q⟩
abbrev s_law_spread : Stmt := top 64
theorem sc_law_spread : FnScope ["_law_way", "_law_one", "_law_other", "_law_third", "_law_left"] ["_law_way", "_law_one", "_law_other", "_law_third"] (defScope s_law_spread) := by walk_at "sc"
theorem ok_law_spread (T : Txt K mg A) (G_times : FOk P w K mg base 7 "times" (S_timesF A)) (G_plus : FOk P w K mg base 6 "plus" (S_plusF A)) (F : Fun K "_law_spread" "_law_spread" s_law_spread f fd) : FnOk P w K mg base CX0 8 f fd ["_law_way", "_law_one", "_law_other", "_law_third"] (PureSp K (S_spread A)) := by
  refine okD F sc_law_spread (by walk_at "ln") fun _ _ _ _ _ _ hr ds Q h => ?_
  obtain ⟨n, a, b, c, rfl, hn, ha, hb, hc, q⟩ := h
  refine ⟨_, (dss_cons (ds_set (i := 4) sc_law_spread.nd rfl (Or.inl rfl) (DF.de (df_call G_times (hr.mono (by decide)) rfl (da_cons (dv 0) (da_cons (dv 1) (da_cons (DF.de (df_call G_plus (hr.mono (by decide)) rfl (da_cons (dv 0) (da_cons (dv 2) (da_cons (dv 3) da_nil))))) da_nil))))))
  (dss_one (ds_ret (de_cmp (o_eq hr) (dv 4) (DF.de (df_call G_plus (hr.mono (by decide)) rfl (da_cons (dv 0) (da_cons (DF.de (df_call G_times (hr.mono (by decide)) rfl (da_cons (dv 0) (da_cons (dv 1) (da_cons (dv 2) da_nil))))) (da_cons (DF.de (df_call G_times (hr.mono (by decide)) rfl (da_cons (dv 0) (da_cons (dv 1) (da_cons (dv 3) da_nil))))) da_nil))))) (nomark _))))), ?_⟩
  have n1 : 1 ≤ n := hn.1
  have la := ha.len hn
  have lb := hb.len hn
  have lc := hc.len hn
  refine ⟨_, rfl, _, rfl, _, rfl, _, rfl, _, rfl, n, b, c, rfl, hn, hb.1, hc.1, by omega, by omega, fun r1 hr1 hw1 => ?_⟩
  have h1 : Wb n 14 r1 := ⟨hr1, by rw [hw1]; have w : 2 * wf n 12 ≤ wf n 14 := wf_dbl n1 12; have := hb.2; have := hc.2; omega⟩
  have l1 := h1.len hn
  refine ⟨n, a, r1, rfl, hn, ha.1, hr1, by omega, fun r2 hr2 hw2 => ?_⟩
  refine ⟨_, rfl, _, rfl, _, rfl, _, rfl, _, rfl, n, a, b, rfl, hn, ha.1, hb.1, by omega, fun r3 hr3 hw3 => ?_⟩
  refine ⟨_, rfl, _, rfl, _, rfl, n, a, c, rfl, hn, ha.1, hc.1, by omega, fun r4 hr4 hw4 => ?_⟩
  have l3 := (wb_mul n1 ha hb hr3 hw3).len hn
  have l4 := (wb_mul n1 ha hc hr4 hw4).len hn
  refine ⟨n, r3, r4, rfl, hn, hr3, hr4, by omega, by omega, fun r5 hr5 hw5 => ?_⟩
  rw [uniqF n1 hr5 hr2 (by rw [hw5, hw3, hw4, hw2, hw1, Int.mul_add])]
  refine ⟨okE_row _, okE_row _, ?_⟩
  rw [eq_row]
  exact q
abbrev s_law_placed : Stmt := top 66
theorem sc_law_placed : FnScope ["_law_way", "_law_most", "_law_row", "_law_place", "_law_found", "_law_due"] ["_law_way", "_law_most", "_law_row", "_law_place"] (defScope s_law_placed) := by walk_at "sc"
theorem ok_law_placed (T : Txt K mg A) (G_times : FOk P w K mg base 7 "times" (S_timesF A)) (G__law_number : DOk P w K mg base 1 "_law_number" (S_num66)) (G__law_legal : DOk P w K mg base 1 "_law_legal" (S_legL)) (F : Fun K "_law_placed" "_law_placed" s_law_placed f fd) : FnOk P w K mg base CX0 8 f fd ["_law_way", "_law_most", "_law_row", "_law_place"] (PureSp K (S_placed A)) := by
  refine okD F sc_law_placed (by walk_at "ln") fun _ _ _ _ _ _ hr ds Q h => ?_
  obtain ⟨n, a, p, rfl, hn, ha, hp, q⟩ := h
  refine ⟨_, (dss_cons (ds_set (i := 4) sc_law_placed.nd rfl (Or.inl rfl) (DF.de (df_call G_times (hr.mono (by decide)) rfl (da_cons (dv 0) (da_cons (dv 2) (da_cons (de_op o_cat (DF.de (df_rep (de_lst (da_cons de_int da_nil)) (dv 3))) (de_lst (da_cons de_int da_nil))) da_nil))))))
  (dss_cons (ds_set (i := 5) sc_law_placed.nd rfl (Or.inl rfl) (de_op o_mul (de_call G__law_number (hr.mono (by decide)) rfl (da_cons (dv 1) (da_cons (dv 2) da_nil))) (de_call G__law_number (hr.mono (by decide)) rfl (da_cons (dv 1) (da_cons (de_op o_cat (DF.de (df_rep (de_lst (da_cons de_int da_nil)) (dv 3))) (de_lst (da_cons de_int da_nil))) da_nil)))))
  (dss_one (ds_ret (de_and (de_call G__law_legal (hr.mono (by decide)) rfl (da_cons (dv 1) (da_cons (dv 4) da_nil))) (de_one (de_cmp (o_eq hr) (de_call G__law_number (hr.mono (by decide)) rfl (da_cons (dv 1) (da_cons (dv 4) da_nil))) (dv 5) (nomark _)))))))), ?_⟩
  have n1 : 1 ≤ n := hn.1
  have la := ha.len hn
  have lu := unit_len p
  have hu := unit_legal n1 p
  have hU : Wb n 12 (unit p) := wb_of n1 hu (by omega)
  have eD : rowD (unit p) = Dt.lst ((List.replicate ((p : Int).toNat) [Dt.int 0]).flatten ++ [Dt.int 1]) := by
    rw [Int.toNat_natCast, rep_ints]
    show Dt.lst ((List.replicate p (0 : Int) ++ [1]).map Dt.int) = _
    rw [List.map_append]
    rfl
  have lf : (List.replicate ((p : Int).toNat) [Dt.int 0]).flatten.length = p := by rw [Int.toNat_natCast, rep_ints, List.length_map, List.length_replicate]
  refine ⟨_, rfl, _, rfl, rfl, _, rfl, _, _, rfl, rfl, by omega, by omega, (by show 1 * _ ≤ _; omega), rfl, _, _, rfl, rfl, (by rw [lf]; show p + 1 ≤ _; omega), ?_⟩
  refine ⟨n, a, unit p, by rw [eD], hn, ha.1, hu, by omega, fun r hr hw => ?_⟩
  have lr := (wb_mul n1 ha hU hr hw).len hn
  refine ⟨_, rfl, _, rfl, n, a, rfl, hn, by omega, ha.1, ?_⟩
  refine ⟨_, rfl, rfl, _, rfl, _, _, rfl, rfl, by omega, by omega, (by show 1 * _ ≤ _; omega), rfl, _, _, rfl, rfl, (by rw [lf]; show p + 1 ≤ _; omega), ?_⟩
  refine ⟨n, unit p, by rw [eD], hn, by omega, hu, _, _, rfl, rfl, mulBig (ha.bits hn) (hU.bits hn) (by decide), ?_⟩
  refine ⟨_, rfl, _, rfl, n, r, rfl, hr, by omega, _, rfl, ifT rfl ?_⟩
  refine ⟨_, rfl, _, rfl, n, r, rfl, hn, by omega, hr, _, rfl, rfl, rfl, ?_⟩
  rw [eqI hw]
  exact q
abbrev s_quotients_in_falling : Stmt := top 54
theorem sc_quotients_in_falling : FnScope ["way", "row", "many", "quotients", "rest", "ahead", "place", "total"] ["way", "row", "many"] (defScope s_quotients_in_falling) := by walk_at "sc"
theorem ok_quotients_in_falling (T : Txt K mg A) (F : Fun K "quotients_in_falling" "quotients_in_falling" s_quotients_in_falling f fd) : FnOk P w K mg base CX0 1 f fd ["way", "row", "many"] (PureSp K (S_quoF A)) := by
  refine okD F sc_quotients_in_falling (by walk_at "ln") fun _ _ _ _ _ _ hr ds Q h => ?_
  obtain ⟨n, r, m, rfl, hn, hL, hl, hm, hm2, q⟩ := h
  refine ⟨_, (dss_cons (ds_setO (i := 3) sc_quotients_in_falling.nd rfl (Or.inl rfl) (df_lst da_nil))
  (dss_cons (ds_set (i := 4) sc_quotients_in_falling.nd rfl (Or.inl rfl) de_int)
  (dss_cons (ds_set (i := 5) sc_quotients_in_falling.nd rfl (Or.inl rfl) de_int)
  (dss_cons (ds_forD (j := 6) rfl sc_quotients_in_falling.nd rfl (Or.inl rfl) PassesOwn.never rfl T.range (da_cons (de_op o_sub (de_len rfl T.len (dv 1)) de_int) (da_cons (de_neg de_int) (da_cons (de_neg de_int) da_nil))) (dss_cons (ds_set (i := 7) sc_quotients_in_falling.nd rfl (Or.inl rfl) (de_op o_add (de_op o_add (de_ix (dv 1) (dv 6) (fun _ _ => rfl)) (de_op o_mul (de_fld (dv 0)) (dv 4))) (dv 5)))
  (dss_join (ds_if (dt_cmp (o_eq hr) (dv 6) de_int (nomark _)) (dss_one (ds_augI (i := 7) ip_add sc_quotients_in_falling.nd rfl (Or.inl rfl) (dv 4))) dss_nil)
  (dss_cons (ds_app 3 (de_op o_fdivG (dv 7) (dv 2)))
  (dss_cons (ds_set (i := 5) sc_quotients_in_falling.nd rfl (Or.inl rfl) (dv 4))
  (dss_one (ds_set (i := 4) sc_quotients_in_falling.nd rfl (Or.inl rfl) (de_op o_mod (dv 7) (dv 2)))))))))
  (dss_cons (ds_rev 3)
  (dss_frz 3 (dss_one (ds_ret (de_tup (da_cons (dv 3) (da_cons (dv 4) da_nil))))))))))), ?_⟩
  have ll := len_ints r
  have hm3 : m.natAbs < 2 ^ 9000 := Nat.lt_trans (show m.natAbs < 2 ^ 10 by omega) (Nat.pow_lt_pow_right (by decide) (by decide))
  have n1 : 1 ≤ n := hn.1
  have n9 : n ≤ 9 := hn.2
  walk_at "rd"
  refine ⟨_, _, fun i ρ => ∃ (qs : List Int) (e a : Int) (v6 v7 : Sl), ρ = [.some (wayD A .falling n), .some (rowD r), .some (.int m), .own (qs.map Dt.int), .some (.int e), .some (.int a), v6, v7] ∧ qs.length = i ∧ (∀ z ∈ qs, 0 ≤ z ∧ z ≤ 30) ∧ 0 ≤ e ∧ e < m ∧ 0 ≤ a ∧ a < m ∧ (∀ p, p + 1 + i = r.length → tz n (p + 1) (r.drop (p + 1)) = m * tz n (p + 1) qs.reverse + e * wf n (p + 1) + a * wf n p) ∧ (i = r.length → tz n 0 r = m * tz n 0 qs.reverse + e), rfl, by omega, by omega, by decide, by decide, ⟨[], 0, 0, _, _, rfl, rfl, (fun z hz => nomatch hz), Int.le_refl _, by omega, Int.le_refl _, by omega, fun p hp => ?_, fun hp => ?_⟩, ?_, ?_⟩
  · rw [List.drop_of_length_le (by omega)]
    show (0 : Int) = m * 0 + 0 * _ + 0 * _
    rw [Int.mul_zero, Int.zero_mul, Int.zero_mul]; rfl
  · rw [List.length_eq_zero_iff.mp hp.symm]
    show (0 : Int) = m * 0 + 0
    rw [Int.mul_zero]; rfl
  · rintro i ρ' hi ⟨qs, e, a, v6, v7, rfl, hq, hb, e0, e1, a0, a1, hw, _⟩
    obtain ⟨p, hp⟩ : ∃ p : Nat, p + i + 1 = r.length := ⟨r.length - 1 - i, by omega⟩
    have ep : ((List.map Dt.int r).length : Int) - 1 - i = p := by omega
    rw [ep]
    have hw := hw p (by omega)
    have hpr : p < r.length := by omega
    obtain ⟨f1, f2⟩ : 0 ≤ r.getD p 0 ∧ r.getD p 0 ≤ n := fig_fall hn hL p
    have g1 := Int.mul_le_mul_of_nonneg_right n9 e0
    have g0 := Int.mul_nonneg (show 0 ≤ n by omega) e0
    refine ⟨_, rfl, _, rfl, _, _, _, rfl, rfl, row_at hpr, _, rfl, _, _, _, rfl, rfl, T.cl_Falling, T.na_Falling, _, rfl, _, _, rfl, rfl, small' (by omega) (by omega) _, _, _, rfl, rfl, _, rfl, _, _, rfl, rfl, ?_⟩
    dsimp only
    refine ⟨fun ρ => ∃ t : Int, ρ = [.some (wayD A .falling n), .some (rowD r), .some (.int m), .own (qs.map Dt.int), .some (.int e), .some (.int a), .some (.int p), .some (.int t)] ∧ t = r.getD p 0 + n * e + a + (if p = 0 then e else 0), ?_, ?_⟩
    · refine ⟨_, rfl, rfl, rfl, _, rfl, ifB (fun h => ?_) (fun h => ?_)⟩
      · have h : (p : Int) = 0 := of_eqI h
        exact ⟨_, rfl, _, rfl, _, _, rfl, rfl, _, rfl, by rw [if_pos (by omega)]⟩
      · have h : (p : Int) ≠ 0 := of_neI h
        exact ⟨_, rfl, by rw [if_neg (by omega)]; omega⟩
    rintro ρ ⟨t, rfl, ht⟩
    have ht2 : 0 ≤ t ∧ t ≤ 30 * m := by rw [ht]; split <;> omega
    obtain ⟨d1, d2, d3⟩ := div_mod t m hm
    have qb := quo_bd (B := 30) d1 d2 d3 (by decide) ht2.2 (by omega)
    have qn := quo_nn hm d1 d3 ht2.1
    refine ⟨_, rfl, _, rfl, _, rfl, _, _, rfl, rfl, cdivG (by omega) hm3, by rw [len_ints]; omega, ?_⟩
    refine ⟨_, rfl, _, rfl, _, rfl, _, _, rfl, rfl, (by show m ≠ 0; omega), ?_⟩
    have eg : r[p] = r.getD p 0 := by rw [List.getD_eq_getElem?_getD, List.getElem?_eq_getElem hpr]; rfl
    refine ⟨qs ++ [t.fdiv m], t.fmod m, e, _, _, by rw [← app_ints]; rfl, by rw [List.length_append, hq]; rfl, fun z hz => ?_, d2, d3, e0, e1, fun p' hp' => ?_, fun hp' => ?_⟩
    · rcases List.mem_append.mp hz with hz | hz
      · exact hb z hz
      · rw [List.mem_singleton.mp hz]; exact ⟨qn, qb.2⟩
    · obtain rfl : p = p' + 1 := by omega
      rw [List.drop_eq_getElem_cons hpr, List.reverse_append]
      show r[p' + 1] * wf n (p' + 1) + tz n (p' + 1 + 1) (r.drop (p' + 1 + 1)) = m * (t.fdiv m * wf n (p' + 1) + tz n (p' + 1 + 1) qs.reverse) + _ + _
      rw [hw, eg, wf_2]
      rw [if_neg (by omega)] at ht
      generalize t.fdiv m = Y at *
      generalize t.fmod m = Z at *
      generalize r.getD (p' + 1) 0 = D at *
      have : D + n * e + a = m * Y + Z := by omega
      grind
    · obtain rfl : p = 0 := by omega
      rw [if_pos rfl] at ht
      rw [List.reverse_append]
      have er : r = r.getD 0 0 :: r.drop (0 + 1) := by rw [← eg, ← List.drop_eq_getElem_cons hpr]; rfl
      have e4 : tz n 0 r = r.getD 0 0 * wf n 0 + tz n (0 + 1) (r.drop (0 + 1)) := by
        have : tz n 0 (r.getD 0 0 :: r.drop (0 + 1)) = r.getD 0 0 * wf n 0 + tz n (0 + 1) (r.drop (0 + 1)) := rfl
        rw [← er] at this
        exact this
      rw [e4, hw]
      show _ = m * (t.fdiv m * wf n 0 + tz n (0 + 1) qs.reverse) + _
      rw [wf_0, show wf n (0 + 1) = n + 1 from wf_1 n]
      generalize t.fdiv m = Y at *
      generalize t.fmod m = Z at *
      generalize r.getD 0 0 = D at *
      have : D + n * e + a + e = m * Y + Z := by omega
      grind
  · rintro ρ' ⟨qs, e, a, v6, v7, rfl, hq, hb, e0, e1, _, _, _, hw⟩
    have e : (((List.map Dt.int r).length : Int) - 1 - (-1)).toNat = r.length := by omega
    rw [e] at hq hw
    have hw := hw rfl
    refine ⟨_, rfl, _, rfl, _, rfl, _, rfl, rfl, ?_⟩
    rw [← List.map_reverse]
    refine q qs.reverse _ ⟨by rw [List.length_reverse]; exact hq, fun z hz => hb z (List.mem_reverse.mp hz), e0, e1, ?_⟩
    rw [tz_hw, tz_hw]
    exact hw
abbrev s_quotients_and_rest : Stmt := top 55
theorem sc_quotients_and_rest : FnScope ["way", "row", "many"] ["way", "row", "many"] (defScope s_quotients_and_rest) := by walk_at "sc"
theorem ok_quotients_and_rest (T : Txt K mg A) (G_quotients_in_falling : DOk P w K mg base 1 "quotients_in_falling" (S_quoF A)) (F : Fun K "quotients_and_rest" "quotients_and_rest" s_quotients_and_rest f fd) : FnOk P w K mg base CX0 2 f fd ["way", "row", "many"] (PureSp K (S_quoF A)) := by
  refine okD F sc_quotients_and_rest (by walk_at "ln") fun _ _ _ _ _ _ hr ds Q h => ?_
  obtain ⟨n, r, m, rfl, hn, hL, hl, hm, hm2, q⟩ := h
  refine ⟨_, (dss_cons (ds_if (dt_val (de_isiO T.isinstance T.gc_Falling (dv 0))) (dss_one (ds_ret (de_call G_quotients_in_falling (hr.mono (by decide)) rfl (da_cons (dv 0) (da_cons (dv 1) (da_cons (dv 2) da_nil)))))) dss_nil)
  (dss_one ds_never)), ?_⟩
  refine ⟨_, rfl, _, _, _, _, rfl, T.isi_Falling, T.ki_Falling_Falling, _, rfl, ifT rfl ?_⟩
  exact ⟨_, rfl, _, rfl, _, rfl, n, r, m, rfl, hn, hL, hl, hm, hm2, q⟩
abbrev s_shared : Stmt := top 56
theorem sc_shared : FnScope ["way", "row", "many", "parts"] ["way", "row", "many"] (defScope s_shared) := by walk_at "sc"
theorem ok_shared (T : Txt K mg A) (G_held_to_be_writings : DOk P w K mg base 4 "held_to_be_writings" (S_heldF A)) (G_quotients_and_rest : DOk P w K mg base 2 "quotients_and_rest" (S_quoF A)) (G_written_row : FOk P w K mg base 5 "written_row" (S_wrowF A)) (F : Fun K "shared" "shared" s_shared f fd) : FnOk P w K mg base CX0 6 f fd ["way", "row", "many"] (TldSp K (.t true false) (S_sharedF A)) := by
  refine okT F sc_shared (by walk_at "ln") fun _ _ _ _ _ _ hr ds Q h => ?_
  obtain ⟨n, r, m, rfl, hn, hL, hl, hm, hm2, q⟩ := h
  refine ⟨_, (dss_cons (ds_if (dt_val (de_isiO T.isinstance T.gc_Pairs (dv 0))) (dss_one ds_never) dss_nil)
  (dss_cons (ds_expr (de_call G_held_to_be_writings (hr.mono (by decide)) rfl (da_cons (dv 0) (da_cons (de_lst (da_cons (dv 1) da_nil)) da_nil))))
  (dss_cons (ds_if (dt_cmp (o_lt) (dv 2) de_int (nomark _)) (dss_one ds_never) dss_nil)
  (dss_cons (ds_set (i := 3) sc_shared.nd rfl (Or.inl rfl) (de_call G_quotients_and_rest (hr.mono (by decide)) rfl (da_cons (dv 0) (da_cons (dv 1) (da_cons (dv 2) da_nil)))))
  (dss_one (ds_retT (dp_f (df_call G_written_row (hr.mono (by decide)) rfl (da_cons (dv 0) (da_cons (de_ix (dv 3) de_int (fun _ _ => rfl)) da_nil)))) (dp_d (de_ix (dv 3) de_int (fun _ _ => rfl))))))))), ?_⟩
  refine ⟨_, rfl, _, _, _, _, rfl, T.isi_Falling, T.ki_Falling_Pairs, _, rfl, ifF rfl ?_⟩
  refine ⟨_, rfl, _, rfl, rfl, n, [r], rfl, fun r' h' => by rw [List.mem_singleton.mp h']; exact ⟨hL, by omega⟩, ?_⟩
  refine ⟨_, rfl, _, _, rfl, rfl, _, rfl, ifF (decide_eq_false (by omega)) ?_⟩
  refine ⟨_, rfl, _, rfl, _, rfl, n, r, m, rfl, hn, hL, hl, hm, hm2, fun qs e hq => ?_⟩
  obtain ⟨q1, q2, q3, q4, q5⟩ := hq
  refine ⟨_, rfl, _, rfl, _, _, _, rfl, rfl, rfl, n, qs, rfl, hn, by omega, fun z hz => (q2 z hz).1, pot_small (B := 30) q2 (by decide) (by decide) (by omega), fun s hs hws _ => ?_⟩
  exact ⟨_, rfl, _, _, _, rfl, rfl, rfl, q s e hs q3 q4 (by rw [hws]; exact q5)⟩
abbrev s_law_shared : Stmt := top 65
theorem sc_law_shared : FnScope ["_law_way", "_law_most", "_law_row", "_law_many", "_law_found", "_law_again", "_law_k", "_law_sixteen", "_law_rest"] ["_law_way", "_law_most", "_law_row", "_law_many"] (defScope s_law_shared) := by walk_at "sc"
theorem ok_law_shared (T : Txt K mg A) (G_shared : TOk P w K mg base 6 "shared" (.t true false) (S_sharedF A)) (G_plus : FOk P w K mg base 6 "plus" (S_plusF A)) (G_fallen : FOkX P w K mg base 4 "fallen" (S_fallenX A)) (G__law_legal : DOk P w K mg base 1 "_law_legal" (S_legL)) (F : Fun K "_law_shared" "_law_shared" s_law_shared f fd) : FnOk P w K mg base CX0 7 f fd ["_law_way", "_law_most", "_law_row", "_law_many"] (PureSp K (S_shr A)) := by
  refine okD F sc_law_shared (by walk_at "ln") fun _ _ _ _ _ _ hr ds Q h => ?_
  obtain ⟨n, r, m, rfl, hn, hW, m1, m2, q⟩ := h
  refine ⟨_, (dss_cons (ds_set (i := 4) sc_law_shared.nd rfl (Or.inl rfl) (de_call G_shared.dok (hr.mono (by decide)) rfl (da_cons (dv 0) (da_cons (dv 2) (da_cons (dv 3) da_nil)))))
  (dss_cons (ds_set (i := 5) sc_law_shared.nd rfl (Or.inl rfl) (de_lst da_nil))
  (dss_cons (ds_forR (j := 6) rfl sc_law_shared.nd rfl (Or.inl rfl) PassesOwn.never rfl T.range (de_op o_mod (dv 3) de_int) (dss_one (ds_set (i := 5) sc_law_shared.nd rfl (Or.inl rfl) (DF.de (df_call G_plus (hr.mono (by decide)) rfl (da_cons (dv 0) (da_cons (dv 5) (da_cons (de_ix (dv 4) de_int (fun _ _ => rfl)) da_nil))))))))
  (dss_cons (ds_set (i := 7) sc_law_shared.nd rfl (Or.inl rfl) (de_lst da_nil))
  (dss_cons (ds_forR (j := 6) rfl sc_law_shared.nd rfl (Or.inl rfl) PassesOwn.never rfl T.range de_int (dss_one (ds_set (i := 7) sc_law_shared.nd rfl (Or.inl rfl) (DF.de (df_call G_plus (hr.mono (by decide)) rfl (da_cons (dv 0) (da_cons (dv 7) (da_cons (de_ix (dv 4) de_int (fun _ _ => rfl)) da_nil))))))))
  (dss_cons (ds_forR (j := 6) rfl sc_law_shared.nd rfl (Or.inl rfl) PassesOwn.never rfl T.range (de_op o_fdiv (dv 3) de_int) (dss_one (ds_set (i := 5) sc_law_shared.nd rfl (Or.inl rfl) (DF.de (df_call G_plus (hr.mono (by decide)) rfl (da_cons (dv 0) (da_cons (dv 5) (da_cons (dv 7) da_nil))))))))
  (dss_cons (ds_set (i := 8) sc_law_shared.nd rfl (Or.inl rfl) (DF.de (df_callX G_fallen (hr.mono (by decide)) rfl (da_cons (dv 0) (da_cons (de_lst (da_cons (de_ix (dv 4) de_int (fun _ _ => rfl)) da_nil)) da_nil)))))
  (dss_join (ds_if (DW.dt (dw_or (dt_not (dt_chain (o_le) (o_lt) de_int (de_ix (dv 4) de_int (fun _ _ => rfl)) (dv 3))) (dw_or1 (dt_not (dt_val (de_call G__law_legal (hr.mono (by decide)) rfl (da_cons (dv 1) (da_cons (de_ix (dv 4) de_int (fun _ _ => rfl)) da_nil)))))))) (dss_one (ds_ret de_bl)) dss_nil)
  (dss_one (ds_ret (de_cmp (o_eq hr) (DF.de (df_call G_plus (hr.mono (by decide)) rfl (da_cons (dv 0) (da_cons (dv 5) (da_cons (dv 8) da_nil))))) (dv 2) (nomark _)))))))))))), ?_⟩
  have n1 : 1 ≤ n := hn.1
  have lr := hW.len hn
  refine ⟨_, rfl, _, rfl, _, rfl, n, r, m, rfl, hn, hW.1, by omega, m1, by omega, fun s e hs e0 e1 hw => ?_⟩
  have ns := hs.lg.nonneg n1
  have k1 := Int.mul_le_mul_of_nonneg_right m1 ns
  have hS : Wb n 25 s := ⟨hs, by have := hW.2; omega⟩
  have ls := hS.len hn
  have x0 := Int.fmod_nonneg_of_pos m (show (0 : Int) < 16 by decide)
  have x1 := Int.fmod_lt_of_pos m (show (0 : Int) < 16 by decide)
  have xy := Int.mul_fdiv_add_fmod m 16
  have bnd : ∀ (t : Int) (g : List Int), t ≤ m → Legal .falling n g → My.hw n g = t * My.hw n s → g.length ≤ 26 := fun t g ht hg he => by
    have k := Int.mul_le_mul_of_nonneg_right ht ns
    exact Wb.len ⟨hg, by rw [he]; have := hW.2; omega⟩ hn
  refine ⟨rfl, ?_⟩
  refine ⟨_, rfl, _, _, rfl, rfl, cmodN (by decide), _, fun i ρ => ∃ (g : List Int) (v6 : Sl), ρ = [.some (wayD A .falling n), .some (.int n), .some (rowD r), .some (.int m), .some (.tup [rowD s, .int e]), .some (rowD g), v6, .none, .none] ∧ Legal .falling n g ∧ My.hw n g = (i : Int) * My.hw n s, rfl, by omega, by omega, ⟨[], _, rfl, legal_nil _ n, by show (0 : Int) = 0 * _; rw [Int.zero_mul]⟩, ?_, ?_⟩
  · rintro i ρ' hi ⟨g, v6, rfl, hg, he⟩
    have lg := bnd i g (by omega) hg he
    refine ⟨_, rfl, _, rfl, _, rfl, _, _, _, rfl, rfl, rfl, n, g, s, rfl, hn, hg, hs, by omega, by omega, fun g' hg' hw' => ⟨g', _, rfl, hg', ?_⟩⟩
    rw [hw', he]
    show _ = ((i : Int) + 1) * _
    rw [Int.add_mul, Int.one_mul]
  rintro ρ' ⟨g0, v6, rfl, hg0, he0⟩
  rw [Int.toNat_of_nonneg x0] at he0
  refine ⟨rfl, ?_⟩
  refine ⟨_, fun i ρ => ∃ (t : List Int) (v6 : Sl), ρ = [.some (wayD A .falling n), .some (.int n), .some (rowD r), .some (.int m), .some (.tup [rowD s, .int e]), .some (rowD g0), v6, .some (rowD t), .none] ∧ Legal .falling n t ∧ My.hw n t = (i : Int) * My.hw n s, rfl, by decide, by decide, ⟨[], _, rfl, legal_nil _ n, by show (0 : Int) = 0 * _; rw [Int.zero_mul]⟩, ?_, ?_⟩
  · rintro i ρ' hi ⟨t, v6, rfl, ht, he⟩
    have lt : t.length ≤ 34 := Wb.len (M := 33) ⟨ht, by
      rw [he]
      have k := Int.mul_le_mul_of_nonneg_right (show (i : Int) ≤ 16 by omega) ns
      have w : 16 * wf n 25 ≤ wf n 33 := wf_16 n1 25
      have := hS.2
      omega⟩ hn
    refine ⟨_, rfl, _, rfl, _, rfl, _, _, _, rfl, rfl, rfl, n, t, s, rfl, hn, ht, hs, by omega, by omega, fun g' hg' hw' => ⟨g', _, rfl, hg', ?_⟩⟩
    rw [hw', he]
    show _ = ((i : Int) + 1) * _
    rw [Int.add_mul, Int.one_mul]
  rintro ρ' ⟨t, v6', rfl, ht, het⟩
  have het : My.hw n t = 16 * My.hw n s := het
  have lt : t.length ≤ 34 := Wb.len (M := 33) ⟨ht, by
    rw [het]
    have w : 16 * wf n 25 ≤ wf n 33 := wf_16 n1 25
    have := hS.2
    omega⟩ hn
  refine ⟨_, rfl, _, _, rfl, rfl, cdivN (by decide), _, fun i ρ => ∃ (g : List Int) (v6 : Sl), ρ = [.some (wayD A .falling n), .some (.int n), .some (rowD r), .some (.int m), .some (.tup [rowD s, .int e]), .some (rowD g), v6, .some (rowD t), .none] ∧ Legal .falling n g ∧ My.hw n g = (m.fmod 16 + 16 * (i : Int)) * My.hw n s, rfl, by omega, by omega, ⟨g0, _, rfl, hg0, by rw [he0]; show _ = (_ + 16 * (0 : Int)) * _; rw [Int.mul_zero, Int.add_zero]⟩, ?_, ?_⟩
  · rintro i ρ' hi ⟨g, v6, rfl, hg, he⟩
    have lg := bnd _ g (by omega) hg he
    refine ⟨_, rfl, _, rfl, _, rfl, n, g, t, rfl, hn, hg, ht, by omega, by omega, fun g' hg' hw' => ⟨g', _, rfl, hg', ?_⟩⟩
    rw [hw', he, het, ← Int.add_mul]
    show _ = (m.fmod 16 + 16 * ((i : Int) + 1)) * _
    rw [show m.fmod 16 + 16 * ((i : Int) + 1) = m.fmod 16 + 16 * i + 16 by omega]
  rintro ρ' ⟨g, v6'', rfl, hg, he⟩
  rw [Int.toNat_of_nonneg (by omega), show m.fmod 16 + 16 * m.fdiv 16 = m by omega] at he
  have lg := bnd m g (Int.le_refl _) hg he
  have hz : ∀ z ∈ [e], 0 ≤ z ∧ z ≤ 200 := fun z hz => by rw [List.mem_singleton.mp hz]; omega
  refine ⟨_, rfl, _, rfl, _, _, _, rfl, rfl, rfl, rfl,   .falling, n, [e], rfl, hn, (by show 1 ≤ 1000; decide), .inr (.inr ⟨rfl, fun z h => (hz z h).1, fig_pot hz (by show 1 ≤ 120; decide), fun ss u F => ?_⟩)⟩
  have eu : My.hw n u = e := by
    rw [F.eqw]
    show (0 : Int) + e * wf n 0 = e
    rw [wf_0]; omega
  have lu : u.length ≤ 61 := F.len
  refine ⟨fun ρ => ρ = [.some (wayD A .falling n), .some (.int n), .some (rowD r), .some (.int m), .some (.tup [rowD s, .int e]), .some (rowD g), v6'', .some (rowD t), .some (rowD u)], ?_, ?_⟩
  · refine ⟨_, rfl, _, _, _, rfl, rfl, rfl, _, _, rfl, rfl, _, rfl, ifT (decide_eq_true e0) ?_⟩
    refine ⟨_, rfl, _, _, rfl, rfl, _, rfl, ?_⟩
    rw [decide_eq_true e1]
    refine ifF rfl ?_
    exact ⟨_, rfl, _, rfl, _, _, _, rfl, rfl, rfl, n, s, rfl, hs, by omega, _, rfl, ifF rfl rfl⟩
  rintro ρ rfl
  refine ⟨_, rfl, _, rfl, _, rfl, n, g, u, rfl, hn, hg, F.leg, by omega, by omega, fun v hv hwv => ?_⟩
  rw [uniqF n1 hv hW.1 (by rw [hwv, he, eu, hw])]
  refine ⟨_, rfl, okE_row _, okE_row _, ?_⟩
  rw [eq_row]
  exact q
abbrev s_bounded : Stmt := top 20
theorem sc_bounded : FnScope ["number", "least", "most"] ["number", "least", "most"] (defScope s_bounded) := by walk_at "sc"
theorem ok_bounded (T : Txt K mg A) (G_is_whole : DOk P w K mg base 1 "is_whole" (S_whole)) (F : Fun K "bounded" "bounded" s_bounded f fd) : FnOk P w K mg base CX0 2 f fd ["number", "least", "most"] (PureSp K (S_bounded)) := by
  refine okD F sc_bounded (by walk_at "ln") fun _ _ _ _ _ _ hr ds Q h => ?_
  obtain ⟨n, lo, hi, rfl, h1, h2, q⟩ := h
  refine ⟨_, (dss_cons (ds_if (DW.dt (dw_or (dt_not (dt_val (de_call G_is_whole (hr.mono (by decide)) rfl (da_cons (dv 0) da_nil)))) (dw_or (dt_cmp (o_lt) (dv 0) (dv 1) (nomark _)) (dw_or1 (dt_cmp (o_gt) (dv 0) (dv 2) (nomark _)))))) (dss_one ds_never) dss_nil)
  (dss_one (ds_ret (dv 0)))), ?_⟩
  walk_at "rd"
  rw [decide_eq_false (by omega : ¬ n < lo)]
  walk_at "rd"
  rw [decide_eq_false (by omega : ¬ hi < n)]
  walk_at "rd"
  exact q
abbrev s_Falling_init : Stmt := inClass (top 22) 0
theorem sc_Falling_init : FnScope ["self", "most"] ["self", "most"] (defScope s_Falling_init) := by walk_at "sc"
theorem ok_Falling_init (T : Txt K mg A) (G_bounded : DOk P w K mg base 2 "bounded" (S_bounded)) (F : Fun K "__init__" "Falling.__init__" s_Falling_init f fd) : FnOk P w K mg base CX0 3 f fd ["self", "most"] (spInitW A.Falling "most" (Kd.ok .falling)) := by
  refine init_ok F sc_Falling_init T.cl_Falling T.na_Falling (fun cdv A outer s H E hr => ?_)
  obtain ⟨te, p, l⟩ := ((de_call G_bounded (hr.mono (by decide)) rfl (da_cons (dv 1) (da_cons de_int (da_cons de_int da_nil)))) : DE (cxOf CX0 P w K mg base ["self", "most"] "Falling.__init__" (defScope s_Falling_init) f cdv A outer s H E).nox _ _)
  refine ⟨te, _, pss_one (ps_fld (pv 0) p rfl), l, fun i hi => ?_⟩
  exact ⟨_, rfl, _, _, _, rfl, hi.1, hi.2, rfl⟩
abbrev s_law : Stmt := top 67
theorem sc_law : FnScope ["_law_script", "_law_mixed_here", "_law_most", "_law_way", "_law_cells", "_law_three", "_law_k", "_law_one", "_law_other", "_law_third", "_law_kept", "_law_many", "_law_product", "_law_due"] ["_law_script"] (defScope s_law) := by walk_at "sc"
theorem ok_law (T : Txt K mg A) (G__law_mixed : DOk P w K mg base 1 "_law_mixed" (S_mixed)) (G__law_cell_at : DOk P w K mg base 1 "_law_cell_at" (S_cell)) (G__law_figures : FOk P w K mg base 2 "_law_figures" (S_figs66)) (G__law_back : DOk P w K mg base 7 "_law_back" (S_back A)) (G__law_spread : DOk P w K mg base 8 "_law_spread" (S_spread A)) (G__law_placed : DOk P w K mg base 8 "_law_placed" (S_placed A)) (G_times : FOk P w K mg base 7 "times" (S_timesF A)) (G__law_number : DOk P w K mg base 1 "_law_number" (S_num66)) (G__law_legal : DOk P w K mg base 1 "_law_legal" (S_legL)) (G__law_shared : DOk P w K mg base 7 "_law_shared" (S_shr A)) (M_Falling : KOk P w K mg base 3 "Falling" A.Falling "most" (Kd.ok .falling)) (F : Fun K "law" "law" s_law f fd) : FnOk P w K mg base CX0 9 f fd ["_law_script"] (PureSp K (S_law)) := by
  refine okD F sc_law (by walk_at "ln") fun _ _ _ _ _ _ hr ds Q h => ?_
  obtain ⟨ns, rfl, hns, q⟩ := h
  refine ⟨_, (dss_cons (ds_set (i := 1) sc_law.nd rfl (Or.inl rfl) (de_call G__law_mixed (hr.mono (by decide)) rfl (da_cons (de_call G__law_cell_at (hr.mono (by decide)) rfl (da_cons (dv 0) (da_cons de_int da_nil))) da_nil)))
  (dss_cons (ds_set (i := 2) sc_law.nd rfl (Or.inl rfl) (de_op o_add de_int (de_op o_mod (dv 1) de_int)))
  (dss_cons (ds_set (i := 3) sc_law.nd rfl (Or.inl rfl) (de_make M_Falling (hr.mono (by decide)) rfl (da_cons (dv 2) da_nil)))
  (dss_cons (ds_set (i := 4) sc_law.nd rfl (Or.inr rfl) (de_slice (dv 0) (do_some de_int) (do_some de_int)))
  (dss_cons (ds_setO (i := 5) sc_law.nd rfl (Or.inl rfl) (df_lst da_nil))
  (dss_cons (ds_forR (j := 6) rfl sc_law.nd rfl (Or.inl rfl) PassesOwn.never rfl T.range de_int (dss_one (ds_app 5 (DF.de (df_call G__law_figures (hr.mono (by decide)) rfl (da_cons (dv 2) (da_cons (DF.de (df_compG (osc := defScope s_law) (N0 := ["_law_script", "_law_mixed_here", "_law_most", "_law_way", "_law_cells", "_law_three", "_law_k", "_law_one", "_law_other", "_law_third", "_law_kept", "_law_many", "_law_product", "_law_due"]) (bs := ["_law_j"]) (caps := ["_law_cells"]) (js := [4]) rfl (by decide +kernel) rfl rfl rfl (di_range3 rfl T.range (da_cons (dv 6) (da_cons (de_len rfl T.len (dv 4)) (da_cons de_int da_nil)))) (fun _ _ _ _ _ => (pg_name (i := 0) (show List.Nodup [("_law_j" : Str), ("_law_cells" : Str)] by decide +kernel) rfl (Or.inl (lookup_relabel_local rfl)) (.inl rfl))) lig_one (fun _ _ _ _ _ => dc_nil) (fun _ _ _ _ _ => (de_ix (dv 1) (dv 0) (fun _ _ => rfl))))) da_nil)))))))
  (dss_frz 5 (dss_cons (ds_unp3 (i := 7) (j := 8) (m := 9) rfl sc_law.nd rfl rfl rfl (Or.inl rfl) (Or.inl rfl) (Or.inl rfl) (dv 5))
  (dss_cons (ds_set (i := 10) sc_law.nd rfl (Or.inl rfl) (de_lst (da_cons (DF.de (df_list rfl T.n_list (dv 7))) (da_cons (DF.de (df_list rfl T.n_list (dv 8))) (da_cons (DF.de (df_list rfl T.n_list (dv 9))) da_nil)))))
  (dss_join (ds_if (DW.dt (dw_or (dt_not (dt_val (de_call G__law_back (hr.mono (by decide)) rfl (da_cons (dv 3) (da_cons (dv 2) (da_cons (dv 7) (da_cons (dv 8) da_nil))))))) (dw_or1 (dt_not (dt_val (de_call G__law_back (hr.mono (by decide)) rfl (da_cons (dv 3) (da_cons (dv 2) (da_cons (dv 9) (da_cons (dv 7) da_nil)))))))))) (dss_one (ds_ret de_bl)) dss_nil)
  (dss_join (ds_if (DW.dt (dw_or (dt_not (dt_val (de_call G__law_spread (hr.mono (by decide)) rfl (da_cons (dv 3) (da_cons (dv 7) (da_cons (dv 8) (da_cons (dv 9) da_nil))))))) (dw_or1 (dt_not (dt_val (de_call G__law_placed (hr.mono (by decide)) rfl (da_cons (dv 3) (da_cons (dv 2) (da_cons (dv 8) (da_cons (de_op o_mod (de_op o_fdiv (dv 1) de_int) de_int) da_nil)))))))))) (dss_one (ds_ret de_bl)) dss_nil)
  (dss_cons (ds_set (i := 11) sc_law.nd rfl (Or.inl rfl) (de_op o_add de_int (de_op o_mod (de_call G__law_mixed (hr.mono (by decide)) rfl (da_cons (de_call G__law_cell_at (hr.mono (by decide)) rfl (da_cons (dv 0) (da_cons de_int da_nil))) da_nil)) de_int)))
  (dss_cons (ds_set (i := 12) sc_law.nd rfl (Or.inl rfl) (DF.de (df_call G_times (hr.mono (by decide)) rfl (da_cons (dv 3) (da_cons (dv 7) (da_cons (dv 9) da_nil))))))
  (dss_cons (ds_set (i := 13) sc_law.nd rfl (Or.inl rfl) (de_op o_mul (de_call G__law_number (hr.mono (by decide)) rfl (da_cons (dv 2) (da_cons (dv 7) da_nil))) (de_call G__law_number (hr.mono (by decide)) rfl (da_cons (dv 2) (da_cons (dv 9) da_nil)))))
  (dss_join (ds_if (DW.dt (dw_or (dt_not (dt_val (de_call G__law_legal (hr.mono (by decide)) rfl (da_cons (dv 2) (da_cons (dv 12) da_nil))))) (dw_or1 (dt_cmp (o_ne hr) (de_call G__law_number (hr.mono (by decide)) rfl (da_cons (dv 2) (da_cons (dv 12) da_nil))) (dv 13) (nomark _))))) (dss_one (ds_ret de_bl)) dss_nil)
  (dss_one (ds_ret (de_and (de_call G__law_shared (hr.mono (by decide)) rfl (da_cons (dv 3) (da_cons (dv 2) (da_cons (dv 12) (da_cons (dv 11) da_nil))))) (de_one (de_cmp (o_eq hr) (de_lst (da_cons (dv 7) (da_cons (dv 8) (da_cons (dv 9) da_nil)))) (dv 10) (nomark _))))))))))))))))))))), ?_⟩
  refine ⟨_, rfl, ns, 0, rfl, Int.le_refl _, fun z => ⟨z, rfl, fun m hm => ?_⟩⟩
  refine ⟨_, rfl, _, _, rfl, rfl, cmodN (by decide), _, _, rfl, rfl, ?_⟩
  obtain ⟨n, en⟩ : ∃ n : Int, n = 1 + m.fmod 9 := ⟨_, rfl⟩
  have a0 := Int.fmod_nonneg_of_pos m (show (0 : Int) < 9 by decide)
  have a1 := Int.fmod_lt_of_pos m (show (0 : Int) < 9 by decide)
  have n1 : 1 ≤ n := by omega
  have n9 : n ≤ 9 := by omega
  have hn : Kd.falling.ok n := ⟨n1, n9⟩
  dsimp only
  rw [← en]
  refine ⟨_, rfl, n, rfl, hn, ?_⟩
  obtain ⟨cs, ec, lc, _⟩ := cut_ints ns (some 2) (some 38)
  have lcs : cs.length ≤ 36 := by
    have z := cut_some (ns.map Dt.int) 2 38
    have z : (cutD (ns.map Dt.int) (some 2) (some 38)).length ≤ 38 - 2 := z
    rw [ec, len_ints] at z
    omega
  have ll := len_ints cs
  refine ⟨_, rfl, _, rfl, _, rfl, _, rfl, ?_⟩
  rw [ec]
  refine ⟨rfl, _, rfl, ?_⟩
  refine ⟨_, fun i ρ => ∃ (rs : List (List Int)) (v6 : Sl), ρ = [.some (.scr ns), .some (.int m), .some (.int n), .some (wayD A .falling n), .some (rowD cs), .own (rs.map rowD), v6, .none, .none, .none, .none, .none, .none, .none] ∧ rs.length = i ∧ ∀ r ∈ rs, Wb n 12 r, rfl, by decide, by decide, ⟨[], _, rfl, rfl, fun r h => nomatch h⟩, ?_, ?_⟩
  · rintro i ρ' hi ⟨rs, v6, rfl, hrs, hb⟩
    have hi : i < 3 := hi
    refine ⟨_, rfl, _, rfl, ?_⟩
    refine ⟨_, rfl, _, rfl, _, rfl, i, _, rfl, by omega, by omega, by omega, by omega, fun j es => ∃ zs : List Int, es = zs.map Dt.int ∧ zs.length = j, ⟨[], rfl, rfl⟩, ?_, ?_⟩
    · rintro j e es hj rfl ⟨zs, rfl, hz⟩
      refine ⟨_, rfl, ?_⟩
      refine ⟨_, rfl, _, rfl, _, _, _, rfl, rfl, atI_row (by omega) (by omega), ?_⟩
      exact ⟨zs ++ [_], app_ints zs _, by rw [List.length_append, hz]; rfl⟩
    · rintro es ⟨zs, rfl, hz⟩
      refine ⟨n, zs, rfl, hn, by omega, fun r hr => ?_⟩
      refine ⟨by rw [List.length_map]; omega, rs ++ [r], _, by rw [List.map_append]; rfl, by rw [List.length_append, hrs]; rfl, fun r' h' => ?_⟩
      rcases List.mem_append.mp h' with h' | h'
      · exact hb r' h'
      · rw [List.mem_singleton.mp h']; exact hr
  rintro ρ' ⟨rs, v6, rfl, hrs, hb⟩
  have hrs : rs.length = 3 := hrs
  match rs, hrs, hb with
  | [a, b, c], _, hb =>
  have ha := hb a (List.mem_cons_self ..)
  have hc := hb c (List.mem_cons_of_mem _ (List.mem_cons_of_mem _ (List.mem_cons_self ..)))
  have hb := hb b (List.mem_cons_of_mem _ (List.mem_cons_self ..))
  have la := ha.len hn
  have lb := hb.len hn
  have lc := hc.len hn
  have ok3 : okE 40 (.lst [rowD a, rowD b, rowD c]) = true := by
    show (okE 39 (rowD a) && (okE 39 (rowD b) && (okE 39 (rowD c) && true))) = true
    rw [okE_row9, okE_row9, okE_row9]
    rfl
  refine ⟨_, rfl, ?_⟩
  refine ⟨_, rfl, rowD a, rowD b, rowD c, rfl, ?_⟩
  refine ⟨_, rfl, _, rfl, _, rfl, _, rfl, _, rfl, _, rfl, rfl, ?_⟩
  refine ⟨fun ρ => ρ = [.some (.scr ns), .some (.int m), .some (.int n), .some (wayD A .falling n), .some (rowD cs), .some (.lst [rowD a, rowD b, rowD c]), v6, .some (rowD a), .some (rowD b), .some (rowD c), .some (.lst [rowD a, rowD b, rowD c]), .none, .none, .none], ?_, ?_⟩
  · refine ⟨_, rfl, _, rfl, _, rfl, _, rfl, n, a, b, rfl, hn, ha, hb, _, rfl, ifF rfl ?_⟩
    exact ⟨_, rfl, _, rfl, _, rfl, _, rfl, n, c, a, rfl, hn, hc, ha, _, rfl, ifF rfl rfl⟩
  rintro ρ rfl
  refine ⟨fun ρ => ρ = [.some (.scr ns), .some (.int m), .some (.int n), .some (wayD A .falling n), .some (rowD cs), .some (.lst [rowD a, rowD b, rowD c]), v6, .some (rowD a), .some (rowD b), .some (rowD c), .some (.lst [rowD a, rowD b, rowD c]), .none, .none, .none], ?_, ?_⟩
  · refine ⟨_, rfl, _, rfl, _, rfl, _, rfl, n, a, b, c, rfl, hn, ha, hb, hc, _, rfl, ifF rfl ?_⟩
    have b0 := Int.fmod_nonneg_of_pos (m.fdiv 9) (show (0 : Int) < 12 by decide)
    have b1 := Int.fmod_lt_of_pos (m.fdiv 9) (show (0 : Int) < 12 by decide)
    obtain ⟨p, hp⟩ : ∃ p : Nat, (p : Int) = (m.fdiv 9).fmod 12 := ⟨((m.fdiv 9).fmod 12).toNat, by omega⟩
    refine ⟨_, rfl, _, rfl, _, rfl, _, rfl, _, _, rfl, rfl, cdivN (by decide), _, _, rfl, rfl, cmodN (by decide), ?_⟩
    exact ⟨n, b, p, by rw [hp], hn, hb, by omega, _, rfl, ifF rfl rfl⟩
  rintro ρ rfl
  refine ⟨_, rfl, ns, 1, rfl, by decide, fun z2 => ⟨z2, rfl, fun m2 hm2 => ?_⟩⟩
  refine ⟨_, _, rfl, rfl, cmodN (by decide), _, _, rfl, rfl, ?_⟩
  obtain ⟨k, ek⟩ : ∃ k : Int, k = 1 + m2.fmod 200 := ⟨_, rfl⟩
  have d0 := Int.fmod_nonneg_of_pos m2 (show (0 : Int) < 200 by decide)
  have d1 := Int.fmod_lt_of_pos m2 (show (0 : Int) < 200 by decide)
  dsimp only
  rw [← ek]
  refine ⟨_, rfl, _, rfl, _, rfl, n, a, c, rfl, hn, ha.1, hc.1, by omega, fun r hr hw => ?_⟩
  have hP : Wb n 25 r := wb_mul n1 ha hc hr hw
  have lr := hP.len hn
  refine ⟨_, rfl, _, rfl, n, a, rfl, hn, by omega, ha.1, _, rfl, _, rfl, n, c, rfl, hn, by omega, hc.1, _, _, rfl, rfl, mulBig (ha.bits hn) (hc.bits hn) (by decide), ?_⟩
  refine ⟨fun ρ => ρ = [.some (.scr ns), .some (.int m), .some (.int n), .some (wayD A .falling n), .some (rowD cs), .some (.lst [rowD a, rowD b, rowD c]), v6, .some (rowD a), .some (rowD b), .some (rowD c), .some (.lst [rowD a, rowD b, rowD c]), .some (.int k), .some (rowD r), .some (.int (My.hw n a * My.hw n c))], ?_, ?_⟩
  · refine ⟨_, rfl, _, rfl, n, r, rfl, hr, by omega, _, rfl, ifF rfl ?_⟩
    refine ⟨_, rfl, _, rfl, n, r, rfl, hn, by omega, hr, _, rfl, rfl, rfl, _, rfl, iteNE (eqI hw) ?_⟩
    rfl
  rintro ρ rfl
  refine ⟨_, rfl, _, rfl, _, rfl, _, rfl, n, r, k, rfl, hn, hP, by omega, by omega, _, rfl, ifT rfl ?_⟩
  refine ⟨_, rfl, _, rfl, _, rfl, rfl, _, rfl, ok3, ok3, ?_⟩
  rw [eqD_self 40 ok3]
  exact q
end
def BA (n q : Str) (st : Stmt) (ps : List Str) (us : List Value) : Prop := ∀ (kV doc pm : Value) (an : Option Addr) (cdv ct : Value), bindArgs (PySem.W.fnOf n q (defArgs st) (defBody st) (defScope st) .none kV doc pm an cdv ct) ⟨us, []⟩ = pure (ps.zip us)
def BZ (n q : Str) (st : Stmt) (ps : List Str) : Prop := ∀ us : List Value, us.length = ps.length → BA n q st ps us
theorem bz1 {n q : Str} {st : Stmt} {ps : List Str} (hl : ps.length = 1) (h : ∀ u0 : Value, BA n q st ps [u0]) : BZ n q st ps := fun us e => match us, e.trans hl with | [_], _ => h _
theorem bz2 {n q : Str} {st : Stmt} {ps : List Str} (hl : ps.length = 2) (h : ∀ u0 u1 : Value, BA n q st ps [u0, u1]) : BZ n q st ps := fun us e => match us, e.trans hl with | [_, _], _ => h _ _
theorem bz3 {n q : Str} {st : Stmt} {ps : List Str} (hl : ps.length = 3) (h : ∀ u0 u1 u2 : Value, BA n q st ps [u0, u1, u2]) : BZ n q st ps := fun us e => match us, e.trans hl with | [_, _, _], _ => h _ _ _
theorem bz4 {n q : Str} {st : Stmt} {ps : List Str} (hl : ps.length = 4) (h : ∀ u0 u1 u2 u3 : Value, BA n q st ps [u0, u1, u2, u3]) : BZ n q st ps := fun us e => match us, e.trans hl with | [_, _, _, _], _ => h _ _ _ _
section
variable (K : PySem.W.Frag)
def FX (n q : Str) (st : Stmt) (f : Addr) : Prop := ∃ oc od kV dc pm an cd ct sl, K.lookup f = some ⟨oc, od, .func (PySem.W.fnOf n q (defArgs st) (defBody st) (defScope st) .none kV dc pm an cd ct), sl⟩ ∧ PySem.W.codeIn K cd q = true ∧ PySem.W.keepIn K (.ref f) = true
def FD (n : Str) (st : Stmt) (f : Addr) : Prop := PySem.W.nsIn K mainGlobals n = some (some (.ref f)) ∧ FX K n n st f
def FM (n q : Str) (st : Stmt) (f : Addr) : Prop := PySem.W.isFn K (.ref f) = true ∧ FX K n q st f
def Fi (C : Addr) (n : Str) (f : Addr) : Prop := PySem.W.findIn K (.ref C) n = some (some (.ref f))
def Ki (C D : Addr) (b : Bool) : Prop := PySem.W.kitOne K (.ref C) (.ref D) = some b
def Gc (n : Str) (C : Addr) : Prop := PySem.W.nsIn K mainGlobals n = some (some (.ref C))
def Zn (n : Str) : Prop := PySem.W.nsIn K mainGlobals n = some none
structure ClR (C : Addr) (x : Str) : Prop where
  cls : Cls K C
  mks : PySem.W.makesIn K C = true
  kc : PySem.W.keepIn K (.ref C) = true
  na : PySem.W.findIn K (.ref C) x = some none
structure IR (C : Addr) : Prop where
  ia : PySem.W.findIn K (.ref C) "__class__" = some (some (.builtin "object.__class__"))
  im : PySem.W.mroIn K C (.type "object") = some true
variable {K} {n q : Str} {st : Stmt} {f : Addr}
theorem FX.mk {oc od kV dc pm an cd ct sl} (l : K.lookup f = some ⟨oc, od, .func (PySem.W.fnOf n q (defArgs st) (defBody st) (defScope st) .none kV dc pm an cd ct), sl⟩) (c : PySem.W.codeIn K cd q = true) (k : PySem.W.keepIn K (.ref f) = true) : FX K n q st f := ⟨_, _, _, _, _, _, _, _, _, l, c, k⟩
theorem FX.get (r : FX K n q st f) (ps : List Str) (h : BZ n q st ps) : ∃ fd, Fun K n q st f fd ∧ Binds K fd ps [] :=
  let ⟨_, _, _, _, _, _, _, _, _, l, c, k⟩ := r; ⟨_, fun_mk l c k, (fun_mk l c k).binds fun a b c d e f us z => h us z a b c d e f⟩
theorem FD.get (r : FD K n st f) {h : Heap} {mg : Str → Option Value} (X : K.In h) (G : h.Ns mainGlobals mg) (ps : List Str) (h : BZ n n st ps) : ∃ fd, mg n = some (.ref f) ∧ Fun K n n st f fd ∧ Binds K fd ps [] :=
  let ⟨fd, F, b⟩ := r.2.get ps h; ⟨fd, PySem.W.mg_of X G r.1, F, b⟩
theorem mkr (l : PySem.W.OpenLaw) (w : World) (base : Heap) {mg : Str → Option Value} {C : Addr} {k : Nat} {fd : FuncData} {ps : List Str} {S : DSp} (c : Cls K C) (a : Fi K C n f) (r : FM K n q st f) (F : Fun K n q st f fd) (b : Binds K fd ps []) (o : FnOk l.prog w K mg base CX0 k f fd ps (PureSp K S)) : MOk l.prog w K mg base k C n S := .mk c ⟨_, _, _, ⟨a, r.1, F.kp⟩, b, o⟩
theorem FM.get (r : FM K n q st f) (ps : List Str) (h : BZ n q st ps) : ∃ fd, Fun K n q st f fd ∧ Binds K fd ps [] := r.2.get ps h
end

theorem all_mk {l : PySem.W.OpenLaw} {w : World} {K : PySem.W.Frag} {h : Heap} {mg : Str → Option Value} {fa : Addr} (X : K.In h) (G : h.Ns mainGlobals mg) (hfa : mg "law" = some (.ref fa))
 {C_Falling C_Pairs C_TooLess f1 f2 f3 f4 f5 f6 f7 f8 f9 f10 f11 f12 f13 f14 f15 f16 f17 f18 f19 f20 f21 f22 f23 f24 f25 f26 f27 f28 f29 f30 f31 f32 f33 f34 f35 f36 f37 f38 f39 f40 f41 f42 f43 f44 : Addr}
 (aC_Falling : Gc K "Falling" C_Falling)
 (aC_Pairs : Gc K "Pairs" C_Pairs)
 (aC_TooLess : Gc K "TooLess" C_TooLess)
 (r1 : FD K "_law_mixed" s_law_mixed f1)
 (r2 : FD K "_law_cell_at" s_law_cell_at f2)
 (r3 : FD K "_law_figures" s_law_figures f3)
 (r4 : FD K "has_mosts_above_noughts_alone" s_has_mosts_above_noughts_alone f4)
 (a5_Falling : Fi K C_Falling "low" f5)
 (a5_Pairs : Fi K C_Pairs "low" f5)
 (r5 : FM K "low" "Way.low" s_Way_low f5)
 (a6_Falling : Fi K C_Falling "high" f6)
 (r6 : FM K "high" "Falling.high" s_Falling_high f6)
 (r7 : FD K "has_figures_alone" s_has_figures_alone f7)
 (r8 : FD K "is_writing" s_is_writing f8)
 (r9 : FD K "held_to_be_writings" s_held_to_be_writings f9)
 (r10 : FD K "held_to_be_a_heap" s_held_to_be_a_heap f10)
 (r11 : FD K "step_at" s_step_at f11)
 (r12 : FD K "how_often" s_how_often f12)
 (r13 : FD K "changes" s_changes f13)
 (r14 : FD K "do_steps" s_do_steps f14)
 (r15 : FD K "trimmed" s_trimmed f15)
 (r16 : FD K "steps_and_writing" s_steps_and_writing f16)
 (r17 : FD K "fallen" s_fallen f17)
 (r18 : FD K "written_row" s_written_row f18)
 (r19 : FD K "is_whole" s_is_whole f19)
 (r20 : FD K "as_pair" s_as_pair f20)
 (r21 : FD K "added" s_added f21)
 (r22 : FD K "thing_at" s_thing_at f22)
 (r23 : FD K "row_plus" s_row_plus f23)
 (r24 : FD K "plus" s_plus f24)
 (r25 : FD K "_law_legal" s_law_legal f25)
 (r26 : FD K "multiplied" s_multiplied f26)
 (r27 : FD K "row_times" s_row_times f27)
 (r28 : FD K "lend" s_lend f28)
 (r29 : FD K "lender_above" s_lender_above f29)
 (r30 : FD K "without_debts" s_without_debts f30)
 (r31 : FD K "minus" s_minus f31)
 (r32 : FD K "_law_number" s_law_number f32)
 (r33 : FD K "_law_back" s_law_back f33)
 (r34 : FD K "times_in_falling" s_times_in_falling f34)
 (r35 : FD K "times" s_times f35)
 (r36 : FD K "_law_spread" s_law_spread f36)
 (r37 : FD K "_law_placed" s_law_placed f37)
 (r38 : FD K "quotients_in_falling" s_quotients_in_falling f38)
 (r39 : FD K "quotients_and_rest" s_quotients_and_rest f39)
 (r40 : FD K "shared" s_shared f40)
 (r41 : FD K "_law_shared" s_law_shared f41)
 (r42 : FD K "bounded" s_bounded f42)
 (a43_Falling : Fi K C_Falling "__init__" f43)
 (r43 : FM K "__init__" "Falling.__init__" s_Falling_init f43)
 (r44 : FD K "law" s_law f44)
 (c_Falling : ClR K C_Falling "most")
 (c_Pairs : ClR K C_Pairs "most")
 (i_Falling : IR K C_Falling)
 (ki_Falling_Falling : Ki K C_Falling C_Falling true)
 (ki_Falling_Pairs : Ki K C_Falling C_Pairs false)
 (i_Pairs : IR K C_Pairs)
 (ki_Pairs_Falling : Ki K C_Pairs C_Falling false)
 (ki_Pairs_Pairs : Ki K C_Pairs C_Pairs true)
 (in_ : PySem.W.specialIn K (.builtin "object.__class__") "__get__" = some (some (.builtin "getset_descriptor.__get__")))
 (it_ : PySem.W.takesIn K (.builtin "object.__class__") = some true)
 (ex_TooLess : ExcK K C_TooLess)
 (ix_TooLess : IsxOk K C_TooLess)
 (kx_TooLess_TooLess : Ki K C_TooLess C_TooLess true)
 (z_isinstance : Zn K "isinstance")
 (z_int : Zn K "int")
 (z_bool : Zn K "bool")
 (z_tuple : Zn K "tuple")
 (z_list : Zn K "list")
 (z_len : Zn K "len")
 (z_range : Zn K "range")
 (z_enumerate : Zn K "enumerate")
 (z_min : Zn K "min")
 (z_max : Zn K "max") :
 ∃ fd : FuncData, (∀ (s : Shared) (v : Value), BindsTo s fd ⟨[v], []⟩ [("_law_script", v)]) ∧ ∀ base : Heap, K.In base → base.Ns mainGlobals mg → FnOk l.prog w K mg base CX0 9 fa fd ["_law_script"] (PureSp K (S_law)) := by
  have mn {n : Str} (z : Zn K n) := PySem.W.mg_none_of X G z
  have mo {n : Str} {C : Addr} (z : Gc K n C) := PySem.W.mg_of X G z
  let A : Adr := ⟨0, 0, 0, 0, C_Falling, C_Pairs, C_TooLess⟩
  have T : Txt K mg A := ⟨kitT K, mn z_isinstance, mn z_int, mn z_bool, mn z_tuple, mn z_list, mn z_len, mn z_range, mn z_enumerate, mn z_min, mn z_max, c_Falling.cls, c_Falling.na, c_Pairs.cls, c_Pairs.na, mo aC_Falling, mo aC_Pairs, ⟨c_Falling.cls, i_Falling.1, in_, it_, i_Falling.2⟩, ki_Falling_Falling, ki_Falling_Pairs, ⟨c_Pairs.cls, i_Pairs.1, in_, it_, i_Pairs.2⟩, ki_Pairs_Falling, ki_Pairs_Pairs, mo aC_TooLess, ex_TooLess, ix_TooLess, kx_TooLess_TooLess⟩
  obtain ⟨_, m1, F1, b1⟩ := r1.get X G ["_law_cell"] (bz1 rfl fun _ _ _ _ _ _ _ => rfl)
  obtain ⟨_, m2, F2, b2⟩ := r2.get X G ["_law_script", "_law_k"] (bz2 rfl fun _ _ _ _ _ _ _ _ => rfl)
  obtain ⟨_, m3, F3, b3⟩ := r3.get X G ["_law_most", "_law_cells"] (bz2 rfl fun _ _ _ _ _ _ _ _ => rfl)
  obtain ⟨_, m4, F4, b4⟩ := r4.get X G ["way", "row"] (bz2 rfl fun _ _ _ _ _ _ _ _ => rfl)
  obtain ⟨_, F5, b5⟩ := r5.get ["self", "place"] (bz2 rfl fun _ _ _ _ _ _ _ _ => rfl)
  obtain ⟨_, F6, b6⟩ := r6.get ["self", "place"] (bz2 rfl fun _ _ _ _ _ _ _ _ => rfl)
  obtain ⟨_, m7, F7, b7⟩ := r7.get X G ["way", "row"] (bz2 rfl fun _ _ _ _ _ _ _ _ => rfl)
  obtain ⟨_, m8, F8, b8⟩ := r8.get X G ["way", "row"] (bz2 rfl fun _ _ _ _ _ _ _ _ => rfl)
  obtain ⟨_, m9, F9, b9⟩ := r9.get X G ["way", "rows"] (bz2 rfl fun _ _ _ _ _ _ _ _ => rfl)
  obtain ⟨_, m10, F10, b10⟩ := r10.get X G ["way", "heap"] (bz2 rfl fun _ _ _ _ _ _ _ _ => rfl)
  obtain ⟨_, m11, F11, b11⟩ := r11.get X G ["way", "heap", "place"] (bz3 rfl fun _ _ _ _ _ _ _ _ _ => rfl)
  obtain ⟨_, m12, F12, b12⟩ := r12.get X G ["way", "heap", "step"] (bz3 rfl fun _ _ _ _ _ _ _ _ _ => rfl)
  obtain ⟨_, m13, F13, b13⟩ := r13.get X G ["way", "step"] (bz2 rfl fun _ _ _ _ _ _ _ _ => rfl)
  obtain ⟨_, m14, F14, b14⟩ := r14.get X G ["way", "heap", "step", "many"] (bz4 rfl fun _ _ _ _ _ _ _ _ _ _ => rfl)
  obtain ⟨_, m15, F15, b15⟩ := r15.get X G ["row"] (bz1 rfl fun _ _ _ _ _ _ _ => rfl)
  obtain ⟨_, m16, F16, b16⟩ := r16.get X G ["way", "heap"] (bz2 rfl fun _ _ _ _ _ _ _ _ => rfl)
  obtain ⟨_, m17, F17, b17⟩ := r17.get X G ["way", "heap"] (bz2 rfl fun _ _ _ _ _ _ _ _ => rfl)
  obtain ⟨_, m18, F18, b18⟩ := r18.get X G ["way", "row"] (bz2 rfl fun _ _ _ _ _ _ _ _ => rfl)
  obtain ⟨_, m19, F19, b19⟩ := r19.get X G ["value"] (bz1 rfl fun _ _ _ _ _ _ _ => rfl)
  obtain ⟨_, m20, F20, b20⟩ := r20.get X G ["number"] (bz1 rfl fun _ _ _ _ _ _ _ => rfl)
  obtain ⟨_, m21, F21, b21⟩ := r21.get X G ["one", "other"] (bz2 rfl fun _ _ _ _ _ _ _ _ => rfl)
  obtain ⟨_, m22, F22, b22⟩ := r22.get X G ["row", "place"] (bz2 rfl fun _ _ _ _ _ _ _ _ => rfl)
  obtain ⟨_, m23, F23, b23⟩ := r23.get X G ["one", "other"] (bz2 rfl fun _ _ _ _ _ _ _ _ => rfl)
  obtain ⟨_, m24, F24, b24⟩ := r24.get X G ["way", "one", "other"] (bz3 rfl fun _ _ _ _ _ _ _ _ _ => rfl)
  obtain ⟨_, m25, F25, b25⟩ := r25.get X G ["_law_most", "_law_row"] (bz2 rfl fun _ _ _ _ _ _ _ _ => rfl)
  obtain ⟨_, m26, F26, b26⟩ := r26.get X G ["one", "other"] (bz2 rfl fun _ _ _ _ _ _ _ _ => rfl)
  obtain ⟨_, m27, F27, b27⟩ := r27.get X G ["row", "factor"] (bz2 rfl fun _ _ _ _ _ _ _ _ => rfl)
  obtain ⟨_, m28, F28, b28⟩ := r28.get X G ["way", "row", "lender"] (bz3 rfl fun _ _ _ _ _ _ _ _ _ => rfl)
  obtain ⟨_, m29, F29, b29⟩ := r29.get X G ["row", "place"] (bz2 rfl fun _ _ _ _ _ _ _ _ => rfl)
  obtain ⟨_, m30, F30, b30⟩ := r30.get X G ["way", "row"] (bz2 rfl fun _ _ _ _ _ _ _ _ => rfl)
  obtain ⟨_, m31, F31, b31⟩ := r31.get X G ["way", "one", "other"] (bz3 rfl fun _ _ _ _ _ _ _ _ _ => rfl)
  obtain ⟨_, m32, F32, b32⟩ := r32.get X G ["_law_most", "_law_row"] (bz2 rfl fun _ _ _ _ _ _ _ _ => rfl)
  obtain ⟨_, m33, F33, b33⟩ := r33.get X G ["_law_way", "_law_most", "_law_one", "_law_other"] (bz4 rfl fun _ _ _ _ _ _ _ _ _ _ => rfl)
  obtain ⟨_, m34, F34, b34⟩ := r34.get X G ["way", "one", "other"] (bz3 rfl fun _ _ _ _ _ _ _ _ _ => rfl)
  obtain ⟨_, m35, F35, b35⟩ := r35.get X G ["way", "one", "other"] (bz3 rfl fun _ _ _ _ _ _ _ _ _ => rfl)
  obtain ⟨_, m36, F36, b36⟩ := r36.get X G ["_law_way", "_law_one", "_law_other", "_law_third"] (bz4 rfl fun _ _ _ _ _ _ _ _ _ _ => rfl)
  obtain ⟨_, m37, F37, b37⟩ := r37.get X G ["_law_way", "_law_most", "_law_row", "_law_place"] (bz4 rfl fun _ _ _ _ _ _ _ _ _ _ => rfl)
  obtain ⟨_, m38, F38, b38⟩ := r38.get X G ["way", "row", "many"] (bz3 rfl fun _ _ _ _ _ _ _ _ _ => rfl)
  obtain ⟨_, m39, F39, b39⟩ := r39.get X G ["way", "row", "many"] (bz3 rfl fun _ _ _ _ _ _ _ _ _ => rfl)
  obtain ⟨_, m40, F40, b40⟩ := r40.get X G ["way", "row", "many"] (bz3 rfl fun _ _ _ _ _ _ _ _ _ => rfl)
  obtain ⟨_, m41, F41, b41⟩ := r41.get X G ["_law_way", "_law_most", "_law_row", "_law_many"] (bz4 rfl fun _ _ _ _ _ _ _ _ _ _ => rfl)
  obtain ⟨_, m42, F42, b42⟩ := r42.get X G ["number", "least", "most"] (bz3 rfl fun _ _ _ _ _ _ _ _ _ => rfl)
  obtain ⟨_, F43, b43⟩ := r43.get ["self", "most"] (bz2 rfl fun _ _ _ _ _ _ _ _ => rfl)
  obtain ⟨a44, _, _, kV, dc, pm, an, cd, ct, _, l44, c44, k44⟩ := r44
  cases hfa.symm.trans (PySem.W.mg_of X G a44)
  have F44 := fun_mk (st := s_law) l44 c44 k44
  refine ⟨PySem.W.fnOf "law" "law" (defArgs s_law) (defBody s_law) (defScope s_law) .none kV dc pm an cd ct, fun s v => .of_eq rfl, fun base _ _ => ?_⟩
  have G__law_mixed := DOk.mk' F1 m1 b1 (ok_law_mixed (P := l.prog) (w := w) (base := base) T F1)
  have G__law_cell_at := DOk.mk' F2 m2 b2 (ok_law_cell_at (P := l.prog) (w := w) (base := base) T F2)
  have G__law_figures := FOk.mk' F3 m3 b3 (ok_law_figures T G__law_mixed F3)
  have G_has_mosts_above_noughts_alone := DOk.mk' F4 m4 b4 (ok_has_mosts_above_noughts_alone (P := l.prog) (w := w) (base := base) T F4)
  have N_Falling_low := mkr l w base T.cl_Falling a5_Falling r5 F5 b5 (ok_Way_low T F5)
  have N_Pairs_low := mkr l w base T.cl_Pairs a5_Pairs r5 F5 b5 (ok_Way_low T F5)
  have N_Falling_high := mkr l w base T.cl_Falling a6_Falling r6 F6 b6 (ok_Falling_high T F6)
  have HLo := And.intro N_Falling_low N_Falling_high
  have G_has_figures_alone := DOk.mk' F7 m7 b7 (ok_has_figures_alone (P := l.prog) (w := w) (base := base) T HLo F7)
  have G_is_writing := DOk.mk' F8 m8 b8 (ok_is_writing T G_has_mosts_above_noughts_alone G_has_figures_alone F8)
  have G_held_to_be_writings := DOk.mk' F9 m9 b9 (ok_held_to_be_writings T G_is_writing F9)
  have G_held_to_be_a_heap := DOkX.mk' F10 m10 b10 (ok_held_to_be_a_heap (P := l.prog) (w := w) (base := base) T F10)
  have G_step_at := DOk.mk' F11 m11 b11 (ok_step_at (P := l.prog) (w := w) (base := base) T F11)
  have G_how_often := DOk.mk' F12 m12 b12 (ok_how_often (P := l.prog) (w := w) (base := base) T F12)
  have G_changes := DOk.mk' F13 m13 b13 (ok_changes (P := l.prog) (w := w) (base := base) T F13)
  have G_do_steps := AOk.mk' F14 m14 b14 (ok_do_steps T G_changes F14)
  have G_trimmed := FOk.mk' F15 m15 b15 (ok_trimmed (P := l.prog) (w := w) (base := base) T F15)
  have G_steps_and_writing := TOkX.mk' F16 m16 b16 (ok_steps_and_writing T G_held_to_be_a_heap G_step_at G_how_often G_do_steps G_trimmed F16)
  have G_fallen := FOkX.mk' F17 m17 b17 (ok_fallen T G_steps_and_writing F17)
  have G_written_row := FOk.mk' F18 m18 b18 (ok_written_row T G_fallen F18)
  have G_is_whole := DOk.mk' F19 m19 b19 (ok_is_whole (P := l.prog) (w := w) (base := base) T F19)
  have G_as_pair := DOk.mk' F20 m20 b20 (ok_as_pair T G_is_whole F20)
  have G_added := DOk.mk' F21 m21 b21 (ok_added T G_is_whole G_as_pair F21)
  have G_thing_at := DOk.mk' F22 m22 b22 (ok_thing_at (P := l.prog) (w := w) (base := base) T F22)
  have G_row_plus := DOk.mk' F23 m23 b23 (ok_row_plus T G_added G_thing_at F23)
  have G_plus := FOk.mk' F24 m24 b24 (ok_plus T G_held_to_be_writings G_written_row G_row_plus F24)
  have G__law_legal := DOk.mk' F25 m25 b25 (ok_law_legal (P := l.prog) (w := w) (base := base) T F25)
  have G_multiplied := DOk.mk' F26 m26 b26 (ok_multiplied T G_is_whole G_as_pair F26)
  have G_row_times := DOk.mk' F27 m27 b27 (ok_row_times T G_multiplied F27)
  have G_lend := AOk.mk' F28 m28 b28 (ok_lend (P := l.prog) (w := w) (base := base) T F28)
  have G_lender_above := DOkX.mk' F29 m29 b29 (ok_lender_above (P := l.prog) (w := w) (base := base) T F29)
  have G_without_debts := FOkX.mk' F30 m30 b30 (ok_without_debts T G_lend G_lender_above F30)
  have G_minus := FOk.mk' F31 m31 b31 (ok_minus T G_held_to_be_writings G_row_plus G_row_times G_written_row G_without_debts F31)
  have G__law_number := DOk.mk' F32 m32 b32 (ok_law_number (P := l.prog) (w := w) (base := base) T F32)
  have G__law_back := DOk.mk' F33 m33 b33 (ok_law_back T G_plus G__law_legal G_minus G__law_number F33)
  have G_times_in_falling := FOk.mk' F34 m34 b34 (ok_times_in_falling T G_row_plus G_row_times G_written_row F34)
  have G_times := FOk.mk' F35 m35 b35 (ok_times T G_held_to_be_writings G_times_in_falling F35)
  have G__law_spread := DOk.mk' F36 m36 b36 (ok_law_spread T G_times G_plus F36)
  have G__law_placed := DOk.mk' F37 m37 b37 (ok_law_placed T G_times G__law_number G__law_legal F37)
  have G_quotients_in_falling := DOk.mk' F38 m38 b38 (ok_quotients_in_falling (P := l.prog) (w := w) (base := base) T F38)
  have G_quotients_and_rest := DOk.mk' F39 m39 b39 (ok_quotients_and_rest T G_quotients_in_falling F39)
  have G_shared := TOk.mk' F40 m40 b40 (ok_shared T G_held_to_be_writings G_quotients_and_rest G_written_row F40)
  have G__law_shared := DOk.mk' F41 m41 b41 (ok_law_shared T G_shared G_plus G_fallen G__law_legal F41)
  have G_bounded := DOk.mk' F42 m42 b42 (ok_bounded T G_is_whole F42)
  have M_Falling : KOk l.prog w K mg base 3 "Falling" A.Falling "most" (Kd.ok .falling) := ⟨_, _, _, mo aC_Falling, ⟨c_Falling.mks, a43_Falling, r43.1, c_Falling.kc⟩, b43, ok_Falling_init T G_bounded F43⟩
  exact ok_law T G__law_mixed G__law_cell_at G__law_figures G__law_back G__law_spread G__law_placed G_times G__law_number G__law_legal G__law_shared M_Falling F44
theorem walk {l : PySem.W.OpenLaw} {q : Program} {loose : List Str} {XP : (Str → Option Value) → Heap → Prop} {YP : World → Heap → Prop} {d : DefRec} {K : Params → PySem.W.Frag} (hn : l.most = some 63) (hdf : d.params.defaults = [])
    (hY : ∀ (w : World) (h : Heap), YP w h → (K w.params).In h)
    (F : ∀ (w : World) (mg : Str → Option Value) (fa : Addr) (h : Heap), (K w.params).In h → h.Ns mainGlobals mg → mg d.name = some (.ref fa) →
      ∃ fd : FuncData, (∀ (s : Shared) (u : Value), BindsTo s fd ⟨[u], []⟩ [("_law_script", u)]) ∧ ∀ base : Heap, (K w.params).In base → base.Ns mainGlobals mg → FnOk l.prog w (K w.params) mg base CX0 9 fa fd ["_law_script"] (PureSp (K w.params) (S_law))) :
    PySem.W.WalkO q loose XP YP l.row.toRowW d [] (fun f vs => PySem.call f vs) :=
  L2.walk_of (n := 63) (k := 9) (x := "_law_script") (CX := fun _ => CX0) (sp := fun w => PureSp (K w.params) (S_law)) hn (by decide) hdf ⟨rfl, by decide, by decide⟩ hY F (fun w H a ns hl _ hS => ⟨⟨H, H, Same.refl H⟩, [.scr ns], fun d => d = .bl true, rfl, allIs_cons.mpr ⟨_, _, rfl, is_scr.mpr ⟨a, rfl, hS⟩, allIs_nil.mpr rfl⟩, ⟨ns, rfl, hl, rfl⟩, fun d v W' _ i e => by subst e; exact is_bl.mp i⟩) fun _ _ _ _ _ z => z
end My
local macro_rules | `(tactic| walk_at "fx") => `(tactic| (refine' My.FX.mk ?l ?c ?k; (case l => k_is); (case c => k_is); (case k => k_is)))
local macro_rules | `(tactic| walk_at "kk") => `(tactic| first | k_is | kit_is | kts_exm | (delta L2.ExcK; k_exc) | (delta My.Fi; k_is) | (delta My.Zn; k_is) | (delta My.Gc; k_is) | (delta My.Ki; kit_is) | (delta My.FD; refine ⟨?a, ?b⟩; (case a => k_is); (case b => walk_at "fx")) | (delta My.FM; refine ⟨?a, ?b⟩; (case a => k_is); (case b => walk_at "fx")) | (refine ⟨⟨?_, ?_, ?_, ?_⟩, ?_, ?_, ?_⟩ <;> k_is) | (refine ⟨?_, ?_, ?_, ?_, ?_, ?_, ?_⟩ <;> k_is) | (refine ⟨?_, ?_⟩ <;> k_is))
open PySem PySem.W PyProof.Rows
set_option maxRecDepth 100000 in
set_option maxHeartbeats 0 in
theorem PySem.Challenge.cw_oddbases_k66_whole_falling_sums_holds : PySem.Challenge.rw_oddbases_k66_whole_falling_sums.Holds := by
  w_on; o_law
  refine holds_open (q := My.h_view_39) (loose := []) (Xt := (fun s => xlAt My.h_view_39 [] s && recOk (RowW.records (OpenRow.toRowW PySem.Challenge.rw_oddbases_k66_whole_falling_sums.row)) s)) (XP := XL My.h_view_39 []) (Yf := Hook.obs (kHook My.h_heap_39 My.myAs My.myE)) (Ya := Hook.val (kHook My.h_heap_39 My.myAs My.myE)) (YP := Hook.says (kHook My.h_heap_39 My.myAs My.myE)) (N := 8960) My.left (Hook.of _) (Hook.keeps _) (fun s e => xl_of s (Bool.and_eq_true_iff.mp e).1) XL.keeps (by rfl) (by rfl) (by rfl) (fun s e => recFacts_of (Bool.and_eq_true_iff.mp e).2) (by rfl) (by first | assumption | decide +kernel) (by decide +kernel) ⟨rfl, rfl, rfl, rfl, rfl, by decide +kernel⟩ ?hw ?hc
  case hw => w_witness2
  k_fill
  refine My.walk (l := PySem.Challenge.rw_oddbases_k66_whole_falling_sums) rfl rfl (fun w h Y => PySem.W.kIn_of Y) ?F
  case F =>
    intro w mg fa h KX G hmg
    refine' My.all_mk KX G hmg ?aC_Falling ?aC_Pairs ?aC_TooLess ?r1 ?r2 ?r3 ?r4 ?a5_Falling ?a5_Pairs ?r5 ?a6_Falling ?r6 ?r7 ?r8 ?r9 ?r10 ?r11 ?r12 ?r13 ?r14 ?r15 ?r16 ?r17 ?r18 ?r19 ?r20 ?r21 ?r22 ?r23 ?r24 ?r25 ?r26 ?r27 ?r28 ?r29 ?r30 ?r31 ?r32 ?r33 ?r34 ?r35 ?r36 ?r37 ?r38 ?r39 ?r40 ?r41 ?r42 ?a43_Falling ?r43 ?r44 ?c_Falling ?c_Pairs ?i_Falling ?ki_Falling_Falling ?ki_Falling_Pairs ?i_Pairs ?ki_Pairs_Falling ?ki_Pairs_Pairs ?in_ ?it_ ?ex_TooLess ?ix_TooLess ?kx_TooLess_TooLess ?z_isinstance ?z_int ?z_bool ?z_tuple ?z_list ?z_len ?z_range ?z_enumerate ?z_min ?z_max
    case aC_Falling | aC_Pairs | aC_TooLess | r1 | r2 | r3 | r4 | a5_Falling | a5_Pairs | r5 | a6_Falling | r6 | r7 | r8 | r9 | r10 | r11 | r12 | r13 | r14 | r15 | r16 | r17 | r18 | r19 | r20 | r21 | r22 | r23 | r24 | r25 | r26 | r27 | r28 | r29 | r30 | r31 | r32 | r33 | r34 | r35 | r36 | r37 | r38 | r39 | r40 | r41 | r42 | a43_Falling | r43 | r44 | c_Falling | c_Pairs | i_Falling | ki_Falling_Falling | ki_Falling_Pairs | i_Pairs | ki_Pairs_Falling | ki_Pairs_Pairs | in_ | it_ | ex_TooLess | ix_TooLess | kx_TooLess_TooLess | z_isinstance | z_int | z_bool | z_tuple | z_list | z_len | z_range | z_enumerate | z_min | z_max => walk_at "kk"
