import PyProof.Rows.All
import Wide.All
import OpenK.AllK
import Wide.FinOn
import Lean
import PyProof.EqAt
import PyProof.EqKinds
import PyProof.TupleCall
import PyProof.NeKinds
import PySem.Challenge.RW_oddbases_k57_numbers_as_texts
set_option Elab.async false
set_option linter.all false
set_option maxRecDepth 100000
namespace L2
open PySem PySem.Spec PyProof.Rows

abbrev Key := Sum Int Str
def keyIs : Key → Value → Bool
  | .inl k, v => Value.isInt k v
  | .inr x, v => Value.isStrOf x v
def keyH (w : World) : Key → Int
  | .inl k => hashInt k
  | .inr x => hashStr w x
theorem keyIs_shape : ∀ {k : Key} {v : Value}, keyIs k v = true → (∃ i t, k = Sum.inl i ∧ v = Value.int i t) ∨ (∃ x t, k = Sum.inr x ∧ v = Value.str x t)
  | .inl i, v, h => by
    obtain ⟨t, e⟩ := Value.isInt_shape (k := i) (v := v) h
    exact .inl ⟨i, t, rfl, e⟩
  | .inr x, v, h => by
    obtain ⟨t, e⟩ := Value.isStrOf_shape (x := x) (v := v) h
    exact .inr ⟨x, t, rfl, e⟩
theorem key_ll (a b : Int) : decide ((Sum.inl a : Key) = Sum.inl b) = (a == b) := by
  by_cases e : a = b
  · subst e; simp
  · have h : ¬ (Sum.inl a : Key) = Sum.inl b := fun q => e (Sum.inl.inj q)
    rw [decide_eq_false h]
    exact (beq_eq_false_iff_ne.mpr e).symm
theorem key_rr (a b : Str) : decide ((Sum.inr a : Key) = Sum.inr b) = decide (a = b) := by
  by_cases e : a = b
  · subst e; simp
  · have h : ¬ (Sum.inr a : Key) = Sum.inr b := fun q => e (Sum.inr.inj q)
    rw [decide_eq_false h, decide_eq_false e]
theorem key_lr (a : Int) (b : Str) : decide ((Sum.inl a : Key) = Sum.inr b) = false := decide_eq_false (fun q => nomatch q)
theorem key_rl (a : Str) (b : Int) : decide ((Sum.inr a : Key) = Sum.inl b) = false := decide_eq_false (fun q => nomatch q)

def mixKind (prog : Program) (w : World) : PySem.KeyKind prog w Key where
  is := keyIs
  hash := keyH w
  inj := fun v a b ha hb => by
    rcases keyIs_shape ha with ⟨i, t, rfl, rfl⟩ | ⟨x, t, rfl, rfl⟩
    · rcases keyIs_shape hb with ⟨j, u, rfl, e⟩ | ⟨y, u, rfl, e⟩
      · injection e with e1 _; rw [e1]
      · exact nomatch e
    · rcases keyIs_shape hb with ⟨j, u, rfl, e⟩ | ⟨y, u, rfl, e⟩
      · exact nomatch e
      · injection e with e1 _; rw [e1]
  byValue := fun k v h => by
    rcases keyIs_shape h with ⟨i, t, rfl, rfl⟩ | ⟨x, t, rfl, rfl⟩ <;> rfl
  pyHash := fun hv h => by
    rcases keyIs_shape hv with ⟨i, t, rfl, rfl⟩ | ⟨x, t, rfl, rfl⟩
    · exact wpAny_pyHash_int h
    · exact wpAny_pyHash_str h
  eqBool := fun hu hv h => by
    rcases keyIs_shape hu with ⟨i, t, rfl, rfl⟩ | ⟨x, t, rfl, rfl⟩
    · rcases keyIs_shape hv with ⟨j, u, rfl, rfl⟩ | ⟨y, u, rfl, rfl⟩
      · rw [key_ll] at h; exact wpAny_eqBool_int h
      · rw [key_lr] at h; exact SeqAt.EqAt.int_str i t y u _ _ _ _ h
    · rcases keyIs_shape hv with ⟨j, u, rfl, rfl⟩ | ⟨y, u, rfl, rfl⟩
      · rw [key_rl] at h; exact SeqAt.EqAt.str_int x t j u _ _ _ _ h
      · rw [key_rr] at h; exact wpAny_eqBool_str h
  «strs» := fun k x t v h => by
    rcases keyIs_shape h with ⟨i, u, rfl, e⟩ | ⟨y, u, rfl, e⟩
    · exact nomatch e
    · injection e with e1 _
      subst e1
      cases v <;> rfl

end L2

namespace L2
open PySem PySem.Spec PyProof.Rows

inductive V where
  | non | bl (b : Bool) | int (i : Int) | str (x : Str) | byt (b : Array UInt8) | flt (b : UInt64) | ref (a : Addr) | ty (n : String)
  deriving DecidableEq

def RelV : V → Value → Prop
  | .non, u => u = Value.none
  | .bl b, u => u = Value.bool b
  | .int i, u => ∃ t, u = Value.int i t
  | .str x, u => ∃ t, u = Value.str x t
  | .byt b, u => ∃ t, u = Value.bytes b t
  | .flt b, u => ∃ t, u = Value.float b t
  | .ref a, u => u = Value.ref a
  | .ty n, u => u = Value.type n

abbrev Vals : List V → List Value → Prop := Paired RelV
theorem Vals.length {xs : List V} {us : List Value} (r : Vals xs us) : xs.length = us.length := Paired.length r
theorem Vals.get : ∀ {xs : List V} {us : List Value} {i : Nat} {x : V}, Vals xs us → xs[i]? = some x → ∃ u, us[i]? = some u ∧ RelV x u
  | _, _, _, _, .nil, e => by simp at e
  | _, _, 0, _, .cons r _, e => by simp at e; subst e; exact ⟨_, rfl, r⟩
  | _, _, i + 1, x, .cons _ t, e => by
    obtain ⟨u, h1, h2⟩ := Vals.get (i := i) (x := x) t (by simpa using e)
    exact ⟨u, by simpa using h1, h2⟩
theorem Vals.set {x : V} {u : Value} (r : RelV x u) : ∀ {xs : List V} {us : List Value} (i : Nat), Vals xs us → Vals (xs.set i x) (us.set i u)
  | _, _, _, .nil => .nil
  | _, _, 0, .cons _ t => .cons r t
  | _, _, i + 1, .cons q t => .cons q (Vals.set r i t)
theorem Vals.append : ∀ {xs ys : List V} {us ws : List Value}, Vals xs us → Vals ys ws → Vals (xs ++ ys) (us ++ ws)
  | _, _, _, _, .nil, s => s
  | _, _, _, _, .cons r t, s => .cons r (Vals.append t s)
theorem Vals.take : ∀ {xs : List V} {us : List Value} (n : Nat), Vals xs us → Vals (xs.take n) (us.take n)
  | _, _, 0, _ => .nil
  | _, _, _ + 1, .nil => .nil
  | _, _, n + 1, .cons r t => .cons r (Vals.take n t)
theorem Vals.drop : ∀ {xs : List V} {us : List Value} (n : Nat), Vals xs us → Vals (xs.drop n) (us.drop n)
  | _, _, 0, r => r
  | _, _, _ + 1, .nil => .nil
  | _, _, n + 1, .cons _ t => Vals.drop n t
def RelO : Option V → Option Value → Prop
  | some v, some u => RelV v u
  | none, none => True
  | _, _ => False
def KV {κ : Type} : List (κ × V) → List (κ × Value) → Prop := Paired fun (p : κ × V) (q : κ × Value) => p.1 = q.1 ∧ RelV p.2 q.2

def kV : Key → V
  | .inl i => .int i
  | .inr x => .str x

inductive HO where
  /-- a list -/
  | lst (xs : List V)
  /-- a tuple (never changes) -/
  | tup (xs : List V)
  /-- a dict whose keys are ints and texts; one whose keys are tuples of ints and texts (the empty one is both) -/
  | dK (kvs : List (Key × V)) | dT (kvs : List (List Key × V))
  /-- a set of ints: its members, its size -/
  | set (S : Int → Bool) (n : Nat)
  /-- an instance of the class at C, its dict at dx, its attributes -/
  | ins (C dx : Addr) (fs : List (Str × V))
  /-- the dict of the instance at x -/
  | own (x : Addr)
  /-- the dict of an exception -/
  | xd (fs : List (Str × V))
  /-- a bound method, f of x -/
  | met (f x : Addr)
  /-- a range object lo, lo + 1, .. below hi -/
  | rng (lo hi : Int)
  /-- a thing that is known to the object (the script; a dict while a loop walks it): read, never written while it is so -/
  | frz (o : Obj) (u : HO)
  /-- a code object's table -/
  | tbl (ps : Array Value)
  /-- any other thing, by what is true of its one object (a def of one's own: SetO a S n := HO.ext fun h => ..) -/
  | ext (φ : Heap → Prop)

abbrev Hp := Addr → Option HO
def upd (H : Hp) (a : Addr) (o : HO) : Hp := fun b => if b = a then some o else H b
theorem upd_same {H : Hp} {a : Addr} {o : HO} : upd H a o a = some o := by unfold upd; rw [if_pos rfl]
theorem upd_ne {H : Hp} {a b : Addr} {o : HO} (h : b ≠ a) : upd H a o b = H b := by unfold upd; rw [if_neg h]
theorem ne_of_none {H : Hp} {a b : Addr} {o : HO} (h : H a = some o) (h' : H b = none) : a ≠ b := by
  intro e; subst e; rw [h] at h'; cases h'

section
variable (P : Program) (w : World)
def ObjOk (H : Hp) (h : Heap) (a : Addr) : HO → Prop
  | .lst xs => xs.length ≤ sizeLine ∧ ∃ (its : List Value) (n : Nat), Vals xs its ∧ h.get? a = some { cls := .type "list", data := .seq its.toArray n }
  | .tup xs => xs.length ≤ sizeLine ∧ ∃ its : List Value, Vals xs its ∧ IsTup h a its.toArray
  | .dK kvs => kvs.length ≤ sizeLine ∧ (a == sysModules) = false ∧ ∃ vs, KV kvs vs ∧ h.DictOf (mixKind P w) a vs
  | .dT kvs => kvs.length ≤ sizeLine ∧ (a == sysModules) = false ∧ ∃ xs : List (List Key × Addr × Value),
      Paired (fun (p : List Key × V) (q : List Key × Addr × Value) => p.1 = q.1 ∧ H q.2.1 = some (.tup (p.1.map kV)) ∧ RelV p.2 q.2.2) kvs xs ∧
      ∃ o es ep, h.get? a = some o ∧ o.ExactDict ∧ o.data = .dict es ep ∧ es.toList = xs.map (entryOfKey (tupleKind (mixKind P w))) ∧ (xs.map (·.1)).Nodup
  | .set S n => h.SetOf (intKind P w) a S n
  | .ins C dx fs => H dx = some (.own a) ∧ fs.length ≤ 1000 ∧ dx ≠ a ∧ h.get? a = some (PySem.W.instObj C dx) ∧
      ∃ mA, h.Ns1 dx mA ∧ (∀ f, RelO (fs.lookup f) (mA f)) ∧ PySem.Within mA (fs.map (·.1))
  | .own _ => ∃ o, h.get? a = some o
  | .xd fs => ∃ mA, h.Ns1 a mA ∧ ∀ f, RelO (fs.lookup f) (mA f)
  | .rng lo hi => ∃ t u v, h.get? a = some { cls := .type "range", data := .fields #[.int lo t, .int hi u, .int 1 v] }
  | .frz o u => h.get? a = some o ∧ ObjOk H h a u
  | .tbl ps => h.get? a = some { cls := .none, data := .fields ps }
  | .met f x => h.get? a = some (PySem.W.methodObj (.ref f) (.ref x))
  | .ext φ => φ h ∧ (∃ o, h.get? a = some o) ∧ ∀ h1 h2 : Heap, φ h1 → (∀ o, h1.get? a = some o → h2.get? a = some o) → φ h2
def HOk (H : Hp) (h : Heap) : Prop := ∀ a o, H a = some o → ObjOk P w H h a o
end

section
variable {P : Program} {w : World} {H H' : Hp} {h h' : Heap} {a : Addr} {o : HO}
theorem ObjOk.lt (x : ObjOk P w H h a o) : a < h.objs.size := by
  cases o with
  | lst xs => obtain ⟨_, _, _, _, e⟩ := x; exact Heap.lt_size e
  | tup xs => obtain ⟨_, _, _, p⟩ := x; exact p.lt
  | dK kvs => obtain ⟨_, _, _, _, o, _, _, e, _⟩ := x; exact Heap.lt_size e
  | dT kvs => obtain ⟨_, _, _, _, o, _, _, e, _⟩ := x; exact Heap.lt_size e
  | set S n => obtain ⟨o, _, _, _, e, _⟩ := x; exact Heap.lt_size e
  | ins C dx fs => obtain ⟨_, _, _, e, _⟩ := x; exact Heap.lt_size e
  | own y => obtain ⟨_, e⟩ := x; exact Heap.lt_size e
  | xd fs => obtain ⟨_, ⟨_, _, _, e, _⟩, _⟩ := x; exact Heap.lt_size e
  | rng lo hi => obtain ⟨_, _, _, e⟩ := x; exact Heap.lt_size e
  | frz ob u => obtain ⟨e, _⟩ := x; exact Heap.lt_size e
  | tbl ps => exact Heap.lt_size (show h.get? a = some _ from x)
  | met f y => exact Heap.lt_size (show h.get? a = some _ from x)
  | ext φ => obtain ⟨_, ⟨_, e⟩, _⟩ := x; exact Heap.lt_size e
theorem Paired.mapP {α β : Type} {F G : α → β → Prop} : ∀ {l₁ : List α} {l₂ : List β}, Paired F l₁ l₂ → (∀ a b, F a b → G a b) → Paired G l₁ l₂
  | _, _, .nil, _ => .nil
  | _, _, .cons r t, f => .cons (f _ _ r) (Paired.mapP t f)
theorem ObjOk.stay (x : ObjOk P w H h a o) (k : ∀ b u, (b = a ∨ H b = some (.own a)) → h.get? b = some u → h'.get? b = some u)
    (ho : ∀ b, H b = some (.own a) → H' b = some (.own a)) (ht : ∀ b xs, H b = some (.tup xs) → H' b = some (.tup xs)) : ObjOk P w H' h' a o := by
  induction o with
  | lst xs => obtain ⟨z, its, n, r, e⟩ := x; exact ⟨z, its, n, r, k _ _ (.inl rfl) e⟩
  | tup xs => obtain ⟨z, its, r, ob, e, c⟩ := x; exact ⟨z, its, r, ob, k _ _ (.inl rfl) e, c⟩
  | dK kvs => obtain ⟨z, y, vs, r, ob, es, ep, e, c⟩ := x; exact ⟨z, y, vs, r, ob, es, ep, k _ _ (.inl rfl) e, c⟩
  | dT kvs =>
    obtain ⟨z, y, xs, r, ob, es, ep, e, c⟩ := x
    exact ⟨z, y, xs, Paired.mapP r fun p q z => ⟨z.1, ht _ _ z.2.1, z.2.2⟩, ob, es, ep, k _ _ (.inl rfl) e, c⟩
  | set S n => obtain ⟨ob, es, ep, t, e, c⟩ := x; exact ⟨ob, es, ep, t, k _ _ (.inl rfl) e, c⟩
  | ins C dx fs =>
    obtain ⟨d, z, ne, e, mA, ⟨od, es, ep, e2, c⟩, r⟩ := x
    exact ⟨ho _ d, z, ne, k _ _ (.inl rfl) e, mA, ⟨od, es, ep, k _ _ (.inr d) e2, c⟩, r⟩
  | own y => obtain ⟨ob, e⟩ := x; exact ⟨ob, k _ _ (.inl rfl) e⟩
  | xd fs => obtain ⟨mA, ⟨od, es, ep, e, c⟩, r⟩ := x; exact ⟨mA, ⟨od, es, ep, k _ _ (.inl rfl) e, c⟩, r⟩
  | rng lo hi => obtain ⟨t, u, v, e⟩ := x; exact ⟨t, u, v, k _ _ (.inl rfl) e⟩
  | frz ob u ih => obtain ⟨e, q⟩ := x; exact ⟨k _ _ (.inl rfl) e, ih q⟩
  | tbl ps =>
    have e : h.get? a = some { cls := .none, data := .fields ps } := x
    show h'.get? a = some { cls := .none, data := .fields ps }
    exact k a _ (.inl rfl) e
  | met f y =>
    have e : h.get? a = some (PySem.W.methodObj (.ref f) (.ref y)) := x
    show h'.get? a = some (PySem.W.methodObj (.ref f) (.ref y))
    exact k a _ (.inl rfl) e
  | ext φ => obtain ⟨p, ⟨o, e⟩, st⟩ := x; exact ⟨st _ _ p fun o q => k _ _ (.inl rfl) q, ⟨o, k _ _ (.inl rfl) e⟩, st⟩
theorem HOk.lt (x : HOk P w H h) (e : H a = some o) : a < h.objs.size := (x a o e).lt
theorem HOk.fresh (x : HOk P w H h) (e : h.objs.size ≤ a) : H a = none := by
  cases q : H a with
  | none => rfl
  | some u => exact absurd (Nat.lt_of_lt_of_le (x.lt q) e) (Nat.lt_irrefl _)
theorem HOk.kept (x : HOk P w H h) (k : ∀ b u, h.get? b = some u → h'.get? b = some u) : HOk P w H h' := fun a o e =>
  (x a o e).stay (fun b u _ q => k b u q) (fun _ q => q) fun _ _ q => q
theorem HOk.laid (x : HOk P w H h) (k : ∀ b u, h.get? b = some u → h'.get? b = some u) (hp : h.objs.size ≤ a) (new : ObjOk P w (upd H a o) h' a o) : HOk P w (upd H a o) h' := fun b u e => by
  have hn := x.fresh hp
  by_cases hb : b = a
  · subst hb; rw [upd_same] at e; cases e; exact new
  · rw [upd_ne hb] at e
    exact (x b u e).stay (fun c v _ q => k c v q) (fun c q => by rw [upd_ne (ne_of_none q hn)]; exact q) fun c xs q => by rw [upd_ne (ne_of_none q hn)]; exact q
end

def Rd (H : Hp) (a : Addr) (u : HO) : Prop := H a = some u ∨ ∃ o, H a = some (.frz o u)
theorem Rd.of {H : Hp} {a : Addr} {u : HO} (h : H a = some u) : Rd H a u := .inl h
theorem Rd.ok {P : Program} {w : World} {H : Hp} {h : Heap} {a : Addr} {u : HO} (r : Rd H a u) (x : HOk P w H h) : ObjOk P w H h a u := by
  rcases r with r | ⟨o, r⟩
  · exact x a u r
  · obtain ⟨_, q⟩ := x a _ r
    exact q
def Mut : Option HO → Prop
  | some (.lst _) => True
  | some (.dK _) => True
  | some (.dT _) => True
  | some (.set _ _) => True
  | some (.ins _ _ _) => True
  | some (.ext _) => True
  | _ => False
section
variable {P : Program} {w : World} {H : Hp} {h h' : Heap} {x e : Addr} {o' : HO}
theorem HOk.write (ok : HOk P w H h) (mu : Mut (H x)) (he : e = x ∨ H e = some (.own x)) (k : ∀ b u, b ≠ e → h.get? b = some u → h'.get? b = some u) (heo : ∃ u, h'.get? e = some u)
    (new : ObjOk P w (upd H x o') h' x o') : HOk P w (upd H x o') h' := fun b u q => by
  have nown : ∀ c y, H c = some (.own y) → c ≠ x := fun c y r z => by subst z; rw [r] at mu; exact mu
  have ntup : ∀ c xs, H c = some (.tup xs) → c ≠ x := fun c xs r z => by subst z; rw [r] at mu; exact mu
  by_cases hb : b = x
  · subst hb; rw [upd_same] at q; cases q; exact new
  · rw [upd_ne hb] at q
    by_cases hbe : b = e
    · have q' : H b = some (.own x) := by
        rcases he with z | z
        · exact absurd (hbe.trans z) hb
        · rw [hbe]; exact z
      rw [q] at q'; cases q'
      obtain ⟨v, hv⟩ := heo
      exact ⟨v, by rw [hbe]; exact hv⟩
    · refine (ok b u q).stay (fun c v hc r => k c v ?_ r) (fun c r => by rw [upd_ne (nown c b r)]; exact r) fun c xs r => by rw [upd_ne (ntup c xs r)]; exact r
      rcases hc with rfl | hc
      · exact hbe
      · rintro rfl
        rcases he with z | z
        · exact nown c b hc z
        · rw [hc] at z; cases z; exact hb rfl
end

structure Un (fs ex : List Addr) (H H' : Hp) (h h' : Heap) : Prop where
  keep : ∀ b o, h.get? b = some o → H b = none → b ∉ fs → b ∉ ex → h'.get? b = some o
  slot : ∀ b o, h.get? b = some o → H b = none → b ∈ fs → b ∉ ex → ∃ sl, h'.get? b = some { o with slots := sl }
  free : ∀ b o, h.get? b = some o → H b = none → b ∉ ex → H' b = none
  there : ∀ b o, h.get? b = some o → b ∉ ex → ∃ o', h'.get? b = some o'
  tups : ∀ b xs, H b = some (.tup xs) → H' b = some (.tup xs)
  frzs : ∀ b o u, H b = some (.frz o u) → H' b = some (.frz o u)
  tbls : ∀ b ps, H b = some (.tbl ps) → ∃ more, H' b = some (.tbl (ps ++ more))
section
variable {fs fs' ex ex' : List Addr} {H H1 H2 : Hp} {h h1 h2 h' : Heap} {a x e : Addr} {o : HO}
theorem Un.any (u : Un fs ex H H1 h h1) {b : Addr} {ob : Obj} (q : h.get? b = some ob) (n : H b = none) (hx : b ∉ ex) : ∃ sl, h1.get? b = some { ob with slots := sl } := by
  by_cases hb : b ∈ fs
  · exact u.slot b ob q n hb hx
  · exact ⟨ob.slots, u.keep b ob q n hb hx⟩
theorem Un.trans (a : Un fs ex H H1 h h1) (b : Un fs ex H1 H2 h1 h2) : Un fs ex H H2 h h2 where
  keep := fun c ob q n hc hx => b.keep c ob (a.keep c ob q n hc hx) (a.free c ob q n hx) hc hx
  slot := fun c ob q n hc hx => by
    obtain ⟨sl, e1⟩ := a.slot c ob q n hc hx
    obtain ⟨sl', e2⟩ := b.slot c _ e1 (a.free c ob q n hx) hc hx
    exact ⟨sl', e2⟩
  free := fun c ob q n hx => by
    obtain ⟨o', e1⟩ := a.there c ob q hx
    exact b.free c o' e1 (a.free c ob q n hx) hx
  there := fun c ob q hx => by
    obtain ⟨o', e1⟩ := a.there c ob q hx
    exact b.there c o' e1 hx
  tups := fun c xs q => b.tups c xs (a.tups c xs q)
  frzs := fun c ob xs q => b.frzs c ob xs (a.frzs c ob xs q)
  tbls := fun c ps q => by
    obtain ⟨m1, e1⟩ := a.tbls c ps q
    obtain ⟨m2, e2⟩ := b.tbls c _ e1
    exact ⟨m1 ++ m2, by rw [e2, Array.append_assoc]⟩
theorem Un.kept (k : ∀ b u, h.get? b = some u → h'.get? b = some u) : Un fs ex H H h h' :=
  ⟨fun b ob q _ _ _ => k b ob q, fun b ob q _ _ _ => ⟨ob.slots, k b ob q⟩, fun _ _ _ n _ => n, fun b ob q _ => ⟨ob, k b ob q⟩, fun _ _ q => q, fun _ _ _ q => q, fun _ ps q => ⟨#[], by rw [q]; simp⟩⟩
theorem Un.refl : Un fs ex H H h h := Un.kept fun _ _ q => q
theorem Un.laid (k : ∀ b u, h.get? b = some u → h'.get? b = some u) (hp : h.objs.size ≤ a) (hn : H a = none) : Un fs ex H (upd H a o) h h' where
  keep := fun b u q _ _ _ => k b u q
  slot := fun b u q _ _ _ => ⟨u.slots, k b u q⟩
  free := fun b u q n _ => by rw [upd_ne (Nat.ne_of_lt (Nat.lt_of_lt_of_le (Heap.lt_size q) hp))]; exact n
  there := fun b u q _ => ⟨u, k b u q⟩
  tups := fun b xs q => by rw [upd_ne (ne_of_none q hn)]; exact q
  frzs := fun b u xs q => by rw [upd_ne (ne_of_none q hn)]; exact q
  tbls := fun b ps q => ⟨#[], by rw [upd_ne (ne_of_none q hn), q]; simp⟩
theorem Un.write (mu : Mut (H x)) (he : e = x ∨ H e = some (.own x)) (k : ∀ b u, b ≠ e → h.get? b = some u → h'.get? b = some u) (heo : ∃ u, h'.get? e = some u) : Un fs ex H (upd H x o) h h' := by
  have hx : ∀ b, H b = none → b ≠ x := fun b n z => by subst z; rw [n] at mu; exact mu
  have hb : ∀ b, H b = none → b ≠ e := fun b n z => by
    subst z
    rcases he with r | r
    · exact hx b n r
    · rw [n] at r; cases r
  have hm : ∀ b u, H b = some u → ¬ Mut (some u) → b ≠ x := fun b u q nm z => by subst z; rw [q] at mu; exact nm mu
  refine ⟨fun b u q n _ _ => k b u (hb b n) q, fun b u q n _ _ => ⟨u.slots, k b u (hb b n) q⟩, fun b u q n _ => by rw [upd_ne (hx b n)]; exact n, fun b u q _ => ?_,
    fun b xs q => by rw [upd_ne (hm b _ q fun z => z)]; exact q, fun b u xs q => by rw [upd_ne (hm b _ q fun z => z)]; exact q, fun b ps q => ⟨#[], by rw [upd_ne (hm b _ q fun z => z), q]; simp⟩⟩
  by_cases hbe : b = e
  · subst hbe; exact heo
  · exact ⟨u, k b u hbe q⟩
theorem Un.mono (u : Un fs ex H H1 h h1) (hs : ∀ b ∈ fs, b ∈ fs') (hx : ∀ b ∈ ex, b ∈ ex') : Un fs' ex' H H1 h h1 :=
  ⟨fun b ob q n hb he => u.keep b ob q n (fun z => hb (hs b z)) fun z => he (hx b z), fun _ _ q n _ he => u.any q n fun z => he (hx _ z), fun b ob q n he => u.free b ob q n fun z => he (hx b z), fun b ob q he => u.there b ob q fun z => he (hx b z), u.tups, u.frzs, u.tbls⟩
end

def trk (h : Heap) (H : Hp) : List Addr := (List.range h.objs.size).filter fun a => (H a).isSome
def hidT (h : Heap) (H : Hp) : Heap := PySem.W.hideAll h (trk h H)
theorem hidT_size (h : Heap) (H : Hp) : (hidT h H).objs.size = h.objs.size := PySem.W.hideAll_size _ _
theorem hidT_get {h : Heap} {H : Hp} {b : Addr} {o : Obj} (e : h.get? b = some o) (n : H b = none) : (hidT h H).get? b = some o :=
  PySem.W.hideAll_get _ e fun hm => by
    have q : (H b).isSome = true := (List.mem_filter.mp hm).2
    rw [n] at q; simp at q
theorem of_hidT {h : Heap} {H : Hp} {b : Addr} {o : Obj} (e : (hidT h H).get? b = some o) : h.get? b = some o ∧ H b = none := by
  have e' : h.get? b = some o := PySem.W.of_hideAll (trk h H) e
  refine ⟨e', ?_⟩
  cases q : H b with
  | none => rfl
  | some x =>
    have hm : b ∈ trk h H := List.mem_filter.mpr ⟨List.mem_range.mpr (Heap.lt_size e'), by simp [q]⟩
    have z : (hidT h H).get? b = none := PySem.W.hideAll_none (trk h H) hm
    rw [z] at e; cases e

def allNews (g h : Heap) (L : Addr) : List (Addr × Obj) := (List.range h.objs.size).filterMap fun a => if a = L ∨ (g.get? a).isSome = true then none else (h.get? a).map fun o => (a, o)
def rest (g h : Heap) (L d : Addr) : List (Addr × Obj) := (allNews g h L).filter fun p => decide (p.1 ≠ d)
end L2

namespace L2
open PySem PySem.Spec PyProof.Rows

structure Mod (K : PySem.W.Frag) (mg : Str → Option Value) (base : Heap) : Prop where
  kin : K.In base
  glob : base.Ns mainGlobals mg
  blt : ∃ mb, base.Ns builtinsNs mb ∧ ∀ x : Str, x ≠ "__name__" → mb x = bootBuiltins x
  nolimit : base.NoLimit

structure Cx where
  prog : Program
  w : World
  K : PySem.W.Frag
  mg : Str → Option Value
  base : Heap
  A : Around
  N : List Str
  s₀ : Shared
  H₀ : Hp
  env : Env
  outer : List Env
  stack : List Env
  ex : List Addr
  fn : Str → Bool
  calm : Bool
  pn : List (Addr × Obj)
  xe : Value → Shared → Prop
def frs (l : List Env) : List Addr := l.filterMap (·.frame)
abbrev Cx.fs (X : Cx) : List Addr := frs X.outer

def Vis (sc : Scope) (x : Str) : Prop := sc.names.lookup x = some .local ∨ sc.names.lookup x = some .cell ∨ sc.names.lookup x = some .free
def Loc (sc : Scope) (x : Str) : Prop := sc.names.lookup x = some .local ∨ sc.names.lookup x = some .cell
def Look (env : Env) (h : Heap) (m : Str → Option Value) (x : Str) (u : Value) : Prop :=
  (env.kindOf x = some .local ∧ m x = some u) ∨ ((env.kindOf x = some .cell ∨ env.kindOf x = some .free) ∧ ∃ c, env.cells.lookup x = some c ∧ h.IsCell c (some u))

structure Cx.Ok (X : Cx) : Prop where
  mod : Mod X.K X.mg X.base
  kind : X.env.scope.kind = .function
  glob : X.env.globals = mainGlobals
  blt : X.env.builtins = builtinsNs
  above : X.s₀.heap.objs.size ≤ X.env.locals
  inj : ∀ x y c, X.env.cells.lookup x = some c → X.env.cells.lookup y = some c → x = y
  has : ∀ x, (X.env.kindOf x = some .cell ∨ X.env.kindOf x = some .free) → ∃ c, X.env.cells.lookup x = some c
  cab : ∀ x c, X.fn x = true → X.env.cells.lookup x = some c → X.s₀.heap.objs.size ≤ c
  hd : X.calm = true → X.A.handled = none
  frames : X.A.frames = some X.stack
  stk : X.stack = X.outer ∨ (X.stack = X.env :: X.outer ∧ X.env.frame = some X.env.locals)
  exf : ∀ b ∈ X.ex, b ≠ X.env.locals ∧ ∀ x c, X.env.cells.lookup x = some c → c ≠ b
  bs : ∀ b o, X.base.get? b = some o → X.s₀.heap.get? b = some o ∧ X.H₀ b = none
  bsz : X.base.objs.size ≤ X.s₀.heap.objs.size
  noex : ∀ b o, X.base.get? b = some o → b ∉ X.ex
  exfs : ∀ b ∈ X.ex, b ∉ X.fs
  funs : X.s₀.heap.FunFrames X.base X.outer
  frf : ∀ b ∈ X.fs, X.H₀ b = none

structure Inv (X : Cx) (pins : List (Addr × Obj)) (σ : List (Option V)) (H : Hp) (s : Shared) : Prop where
  ok : X.Ok
  os : s.os = X.s₀.os
  bare : AllBare s.gens
  base : Un X.fs X.ex X.H₀ H X.s₀.heap s.heap
  loc : ∃ m, s.heap.Ns X.env.locals m ∧ ∀ (i : Nat) (x : Str) (v : V), X.N[i]? = some x → σ[i]? = some (some v) → Vis X.env.scope x → ∃ u, RelV v u ∧ Look X.env s.heap m x u
  cell : ∀ x c, X.env.cells.lookup x = some c → ∃ v, s.heap.IsCell c v
  free : H X.env.locals = none
  freeC : ∀ x c, X.env.cells.lookup x = some c → H c = none
  pin : ∀ p ∈ X.pn ++ pins, s.heap.get? p.1 = some p.2 ∧ H p.1 = none ∧ p.1 ≠ X.env.locals ∧ p.1 ∉ X.fs ∧ ∀ v, p.2.data ≠ .cell v
  hok : HOk X.prog X.w H s.heap
  len : σ.length = X.N.length

section
variable {X : Cx} {pins : List (Addr × Obj)} {σ : List (Option V)} {H H' : Hp} {s : Shared} {h' : Heap}

theorem Cx.Ok.nofr (ok : X.Ok) {b : Addr} {o : Obj} (e : X.base.get? b = some o) : b ∉ X.fs := fun hb => by
  have := (ok.funs.mem hb).1
  rw [e] at this; cases this
theorem Inv.bs (I : Inv X pins σ H s) : ∀ b o, X.base.get? b = some o → s.heap.get? b = some o ∧ H b = none := fun b o e =>
  ⟨I.base.keep b o (I.ok.bs b o e).1 (I.ok.bs b o e).2 (I.ok.nofr e) (I.ok.noex b o e), I.base.free b o (I.ok.bs b o e).1 (I.ok.bs b o e).2 (I.ok.noex b o e)⟩
theorem Inv.bk (I : Inv X pins σ H s) : ∀ b o, X.base.get? b = some o → s.heap.get? b = some o := fun b o e => (I.bs b o e).1
theorem Inv.mod (I : Inv X pins σ H s) : Mod X.K X.mg X.base := I.ok.mod
theorem Inv.kIn (I : Inv X pins σ H s) : X.K.In s.heap := I.ok.mod.kin.keeps I.bk
theorem Inv.nolimit (I : Inv X pins σ H s) : s.heap.NoLimit := I.ok.mod.nolimit.keeps I.bk
theorem Inv.fr (I : Inv X pins σ H s) : ∃ m, Fr X.base X.env.locals s.heap m :=
  let ⟨m, hn, _⟩ := I.loc
  ⟨m, hn, I.bk, Nat.le_trans I.ok.bsz I.ok.above⟩
theorem Inv.lt (I : Inv X pins σ H s) : X.env.locals < s.heap.objs.size := let ⟨_, hn, _⟩ := I.loc; hn.lt
theorem Inv.sz (I : Inv X pins σ H s) : X.s₀.heap.objs.size ≤ s.heap.objs.size := Nat.le_trans I.ok.above (Nat.le_of_lt I.lt)
theorem Inv.nofs (I : Inv X pins σ H s) {a : Addr} (h : s.heap.objs.size ≤ a) : a ∉ X.fs := fun hb => by
  obtain ⟨_, o, ho, _⟩ := I.ok.funs.mem hb
  exact absurd (Nat.lt_of_lt_of_le (Heap.lt_size ho) (Nat.le_trans I.sz h)) (Nat.lt_irrefl _)
theorem Inv.cne (I : Inv X pins σ H s) : ∀ x c, X.env.cells.lookup x = some c → c ≠ X.env.locals := fun x c e z => by
  obtain ⟨v, o, ho, hd⟩ := I.cell x c e
  obtain ⟨m, ⟨o', es, ep, ho', hd', _⟩, _⟩ := I.loc
  rw [z, ho'] at ho; cases ho; rw [hd'] at hd; cases hd
theorem Inv.funs (I : Inv X pins σ H s) : s.heap.FunFrames X.base X.outer := by
  have all : ∀ (l : List Env), (∀ b ∈ frs l, b ∈ X.fs) → X.s₀.heap.FunFrames X.base l → s.heap.FunFrames X.base l := by
    intro l
    induction l with
    | nil => intro _ _; trivial
    | cons env r ih =>
      intro hs hl
      obtain ⟨hk, ⟨L, o, hf, hn, ho, hd⟩, hr⟩ := hl
      have hL : L ∈ X.fs := hs L (by unfold frs; rw [List.filterMap_cons, hf]; exact List.mem_cons_self)
      obtain ⟨sl, e⟩ := I.base.slot L o ho (I.ok.frf L hL) hL fun z => I.ok.exfs L z hL
      exact ⟨hk, ⟨L, _, hf, hn, e, hd⟩, ih (fun b hb => hs b (by unfold frs; rw [List.filterMap_cons, hf]; exact List.mem_cons_of_mem _ hb)) hr⟩
  exact all X.outer (fun _ hb => hb) I.ok.funs

theorem Inv.stack (I : Inv X pins σ H s) : s.heap.FunFrames X.base X.stack := by
  rcases I.ok.stk with e | ⟨e, hf⟩
  · rw [e]; exact I.funs
  · rw [e]
    obtain ⟨m, hn, _⟩ := I.loc
    refine .cons (by rw [I.ok.kind]; decide) hf hn ?_ I.funs
    exact Heap.get?_none_of_le (Nat.le_trans I.ok.bsz I.ok.above)
theorem Inv.stkSub (I : Inv X pins σ H s) : ∀ b ∈ frs X.stack, b ∈ X.env.locals :: X.fs := fun b hb => by
  rcases I.ok.stk with e | ⟨e, hf⟩
  · rw [e] at hb; exact List.mem_cons_of_mem _ hb
  · rw [e] at hb
    unfold frs at hb
    rw [List.filterMap_cons, hf] at hb
    exact hb
theorem Inv.stkFree (I : Inv X pins σ H s) : ∀ b ∈ frs X.stack, H b = none := fun b hb => by
  rcases List.mem_cons.mp (I.stkSub b hb) with e | hb
  · rw [e]; exact I.free
  · obtain ⟨_, o, ho, _⟩ := I.ok.funs.mem hb
    exact I.base.free b o ho (I.ok.frf b hb) fun z => I.ok.exfs b z hb

theorem Inv.step {g' : Array GenState} {t' : Nat} {d' : Drawn} {ch : List Addr} (I : Inv X pins σ H s)
    (hch : ∀ b ∈ ch, (b ∈ X.ex ∨ X.s₀.heap.objs.size ≤ b) ∧ b ≠ X.env.locals ∧ (∀ x c, X.env.cells.lookup x = some c → c ≠ b) ∧ ∀ p ∈ X.pn ++ pins, p.1 ≠ b)
    (keep : ∀ b o, b ≠ X.env.locals → b ∉ X.fs → b ∉ ch → s.heap.get? b = some o → H b = none → h'.get? b = some o)
    (slot : ∀ b o, b ≠ X.env.locals → b ∈ X.fs → b ∉ ch → s.heap.get? b = some o → H b = none → ∃ sl, h'.get? b = some { o with slots := sl }) (free : ∀ b o, b ∉ ch → s.heap.get? b = some o → H b = none → H' b = none)
    (there : ∀ b o, b ∉ ch → s.heap.get? b = some o → ∃ o', h'.get? b = some o')
    (tups : ∀ b xs, H b = some (.tup xs) → H' b = some (.tup xs)) (frzs : ∀ b o u, H b = some (.frz o u) → H' b = some (.frz o u)) (tbls : ∀ b ps, H b = some (.tbl ps) → ∃ more, H' b = some (.tbl (ps ++ more)))
    (ns : ∀ m, s.heap.Ns X.env.locals m → h'.Ns X.env.locals m) (hok : HOk X.prog X.w H' h') (hg : AllBare g') :
    Inv X pins σ H' { s with heap := h', gens := g', drawn := d', toks := t' } := by
  have neL : ∀ b o, X.s₀.heap.get? b = some o → b ≠ X.env.locals := fun b o e => Nat.ne_of_lt (Nat.lt_of_lt_of_le (Heap.lt_size e) I.ok.above)
  have neC : ∀ b o, X.s₀.heap.get? b = some o → b ∉ X.ex → b ∉ ch := fun b o e hx hb => by
    rcases (hch b hb).1 with z | z
    · exact hx z
    · exact absurd (Nat.lt_of_lt_of_le (Heap.lt_size e) z) (Nat.lt_irrefl _)
  have cellK : ∀ x c, X.env.cells.lookup x = some c → ∀ v, s.heap.IsCell c v → h'.IsCell c v := fun x c e v ⟨o, ho, hd⟩ => by
    have nch : c ∉ ch := fun z => (hch c z).2.2.1 x c e rfl
    by_cases hc : c ∈ X.fs
    · obtain ⟨sl, q⟩ := slot c o (I.cne x c e) hc nch ho (I.freeC x c e)
      exact ⟨_, q, hd⟩
    · exact ⟨o, keep c o (I.cne x c e) hc nch ho (I.freeC x c e), hd⟩
  refine ⟨I.ok, I.os, hg, ⟨fun b o e n hb hx => ?_, fun b o e n hb hx => ?_, fun b o e n hx => ?_, fun b o e hx => ?_, fun b xs e => tups b xs (I.base.tups b xs e), fun b o xs e => frzs b o xs (I.base.frzs b o xs e), fun b ps e => ?_⟩, ?_, fun x c e => ?_, ?_, fun x c e => ?_, fun p hp => ?_, hok, I.len⟩
  · exact keep b o (neL b o e) hb (neC b o e hx) (I.base.keep b o e n hb hx) (I.base.free b o e n hx)
  · obtain ⟨sl, e1⟩ := I.base.slot b o e n hb hx
    obtain ⟨sl', e2⟩ := slot b _ (neL b o e) hb (neC b o e hx) e1 (I.base.free b o e n hx)
    exact ⟨sl', e2⟩
  · obtain ⟨o', e1⟩ := I.base.there b o e hx
    exact free b o' (neC b o e hx) e1 (I.base.free b o e n hx)
  · obtain ⟨o', e1⟩ := I.base.there b o e hx
    exact there b o' (neC b o e hx) e1
  · obtain ⟨m1, e1⟩ := I.base.tbls b ps e
    obtain ⟨m2, e2⟩ := tbls b _ e1
    exact ⟨m1 ++ m2, by rw [e2, Array.append_assoc]⟩
  · obtain ⟨m, hn, hl⟩ := I.loc
    refine ⟨m, ns m hn, fun i x v e1 e2 e3 => ?_⟩
    obtain ⟨u, r, l⟩ := hl i x v e1 e2 e3
    refine ⟨u, r, ?_⟩
    rcases l with l | ⟨k, c, e, z⟩
    · exact .inl l
    · exact .inr ⟨k, c, e, cellK x c e _ z⟩
  · obtain ⟨v, z⟩ := I.cell x c e
    exact ⟨v, cellK x c e v z⟩
  · obtain ⟨m, ⟨o, _, _, ho, _⟩, _⟩ := I.loc
    exact free _ o (fun z => (hch _ z).2.1 rfl) ho I.free
  · obtain ⟨v, o, ho, hd⟩ := I.cell x c e
    exact free c o (fun z => (hch c z).2.2.1 x c e rfl) ho (I.freeC x c e)
  · obtain ⟨e, n, ne, nf, d⟩ := I.pin p hp
    have nch : p.1 ∉ ch := fun z => (hch p.1 z).2.2.2 p hp rfl
    exact ⟨keep p.1 p.2 ne nf nch e n, free p.1 p.2 nch e n, ne, nf, d⟩
theorem Inv.un {t' : Nat} (I : Inv X pins σ H s) (u : Un X.fs [] H H' s.heap h') (hok : HOk X.prog X.w H' h') : Inv X pins σ H' { s with heap := h', toks := t' } := by
  obtain ⟨m, ⟨o, es, ep, ho, r⟩, _⟩ := id I.loc
  obtain ⟨sl, hL⟩ := u.any ho I.free (by simp)
  exact I.step (g' := s.gens) (d' := s.drawn) (ch := []) (fun _ z => nomatch z) (fun b o _ hb _ e n => u.keep b o e n hb (by simp)) (fun b o _ hb _ e n => u.slot b o e n hb (by simp)) (fun b o _ e n => u.free b o e n (by simp)) (fun b o _ e => u.there b o e (by simp)) u.tups u.frzs u.tbls (fun m' hm => by
    obtain ⟨o', es', ep', ho', r'⟩ := hm
    rw [ho] at ho'; cases ho'
    exact ⟨_, es', ep', hL, r'⟩) hok I.bare
theorem Inv.call {g' : Array GenState} {t' : Nat} {d' : Drawn} {ch : List Addr} (I : Inv X pins σ H s) (u : Un (frs X.stack) ch H H' s.heap h') (hok : HOk X.prog X.w H' h') (hg : AllBare g')
    (hch : ∀ b ∈ ch, (b ∈ X.ex ∨ X.s₀.heap.objs.size ≤ b) ∧ b ≠ X.env.locals ∧ (∀ x c, X.env.cells.lookup x = some c → c ≠ b) ∧ ∀ p ∈ X.pn ++ pins, p.1 ≠ b) :
    Inv X pins σ H' { s with heap := h', gens := g', drawn := d', toks := t' } := by
  obtain ⟨m, ⟨o, es, ep, ho, r⟩, _⟩ := id I.loc
  obtain ⟨sl, hL⟩ := u.any ho I.free fun z => (hch _ z).2.1 rfl
  exact I.step (ch := ch) hch (fun b o hL hb hc e n => u.keep b o e n (fun z => (List.mem_cons.mp (I.stkSub b z)).elim hL hb) hc) (fun b o _ _ hc e n => u.any e n hc) (fun b o hc e n => u.free b o e n hc) (fun b o hc e => u.there b o e hc) u.tups u.frzs u.tbls (fun m' hm => by
    obtain ⟨o', es', ep', ho', r'⟩ := hm
    rw [ho] at ho'; cases ho'
    exact ⟨_, es', ep', hL, r'⟩) hok hg
theorem Inv.turned {t' : Nat} {it : Addr} (I : Inv X pins σ H s) (k : ∀ b o, b ≠ it → s.heap.get? b = some o → h'.get? b = some o) (hn : H it = none) (hL : it ≠ X.env.locals)
    (h1 : it ∈ X.ex ∨ X.s₀.heap.objs.size ≤ it) (h2 : ∀ x c, X.env.cells.lookup x = some c → c ≠ it) (h3 : ∀ p ∈ X.pn ++ pins, p.1 ≠ it) : Inv X pins σ H { s with heap := h', toks := t' } := by
  have nit : ∀ b u, H b = some u → b ≠ it := fun b u e z => by rw [z, hn] at e; cases e
  refine I.step (g' := s.gens) (d' := s.drawn) (ch := [it]) (fun b hb => ?_) (fun b o _ _ hc e _ => k b o (fun z => hc (by simp [z])) e) (fun b o _ _ hc e _ => ⟨o.slots, k b o (fun z => hc (by simp [z])) e⟩) (fun _ _ _ _ n => n)
    (fun b o hc e => ⟨o, k b o (fun z => hc (by simp [z])) e⟩) (fun _ _ e => e) (fun _ _ _ e => e) (fun b ps e => ⟨#[], by rw [e]; simp⟩) (fun m hm => ?_) (fun b u e => ?_) I.bare
  · have e : b = it := by simpa using hb
    subst e
    exact ⟨h1, hL, h2, h3⟩
  · obtain ⟨o, es, ep, ho, r⟩ := hm
    exact ⟨o, es, ep, k _ o (Ne.symm hL) ho, r⟩
  · refine (I.hok b u e).stay (fun c v hc q => k c v ?_ q) (fun _ q => q) fun _ _ q => q
    rcases hc with z | z
    · rw [z]; exact nit b u e
    · exact nit c _ z
theorem Inv.tok (I : Inv X pins σ H s) (t : Nat) : Inv X pins σ H { s with toks := t } := I.un (h' := s.heap) (t' := t) Un.refl I.hok
theorem Inv.kept {t' : Nat} (I : Inv X pins σ H s) (k : ∀ b u, s.heap.get? b = some u → h'.get? b = some u) : Inv X pins σ H { s with heap := h', toks := t' } := I.un (Un.kept k) (I.hok.kept k)
theorem Inv.laid {a : Addr} {o : HO} {t' : Nat} (I : Inv X pins σ H s) (k : ∀ b u, s.heap.get? b = some u → h'.get? b = some u) (hp : s.heap.objs.size ≤ a) (new : ObjOk X.prog X.w (upd H a o) h' a o) :
    Inv X pins σ (upd H a o) { s with heap := h', toks := t' } := I.un (Un.laid k hp (I.hok.fresh hp)) (I.hok.laid k hp new)
theorem Inv.write {x e : Addr} {o : HO} {t' : Nat} (I : Inv X pins σ H s) (mu : Mut (H x)) (he : e = x ∨ H e = some (.own x)) (k : ∀ b u, b ≠ e → s.heap.get? b = some u → h'.get? b = some u) (heo : ∃ u, h'.get? e = some u)
    (new : ObjOk X.prog X.w (upd H x o) h' x o) : Inv X pins σ (upd H x o) { s with heap := h', toks := t' } := I.un (Un.write mu he k heo) (I.hok.write mu he k heo new)
theorem Inv.weak {σ' : List (Option V)} (I : Inv X pins σ H s) (hl : σ'.length = σ.length) (w : ∀ (i : Nat) v, σ'[i]? = some (some v) → σ[i]? = some (some v)) : Inv X pins σ' H s :=
  ⟨I.ok, I.os, I.bare, I.base, let ⟨m, hn, hl'⟩ := I.loc; ⟨m, hn, fun i x v e1 e2 e3 => hl' i x v e1 (w i v e2) e3⟩, I.cell, I.free, I.freeC, I.pin, I.hok, hl.trans I.len⟩
theorem Inv.pins_of {pins' : List (Addr × Obj)} (I : Inv X pins σ H s) (h : ∀ p ∈ pins', s.heap.get? p.1 = some p.2 ∧ H p.1 = none ∧ p.1 ≠ X.env.locals ∧ p.1 ∉ X.fs ∧ ∀ v, p.2.data ≠ .cell v) : Inv X pins' σ H s :=
  ⟨I.ok, I.os, I.bare, I.base, I.loc, I.cell, I.free, I.freeC, fun p hp => (List.mem_append.mp hp).elim (fun z => I.pin p (List.mem_append_left _ z)) (h p), I.hok, I.len⟩

theorem nodup_ix {N : List Str} (hN : N.Nodup) {i j : Nat} {x : Str} (a : N[i]? = some x) (b : N[j]? = some x) : i = j := by
  obtain ⟨h1, e1⟩ := List.getElem?_eq_some_iff.mp a
  obtain ⟨h2, e2⟩ := List.getElem?_eq_some_iff.mp b
  exact (List.getElem_inj hN).mp (e1.trans e2.symm)

theorem store_ok2 {M : Model} {A : Around} {E : Value → Shared → Prop} {i : Nat} {x : Str} {v : V} {u : Value} {Q : Unit → Shared → Prop} (I : Inv X pins σ H s) (hN : X.N.Nodup) (hi : X.N[i]? = some x) (hx : Loc X.env.scope x) (r : RelV v u)
    (h : ∀ s', Inv X pins (σ.set i (some v)) H s' → (∃ a, Heap.SameBut a s.heap s'.heap ∧ (a = X.env.locals ∨ X.env.cells.lookup x = some a)) → Q () s') (hf : X.fn x = true ∨ X.env.scope.names.lookup x = some .local := by first | exact .inl rfl | exact .inr rfl | assumption) : wpAny M A (storeName X.env x u) Q E s := by
  obtain ⟨m, hn, hl⟩ := id I.loc
  have hcls : (X.env.scope.kind == .class || (X.env.scope.kind == .module && X.env.locals != X.env.globals)) = false := by rw [I.ok.kind]; rfl
  have hiσ : i < σ.length := by rw [I.len]; exact (List.getElem?_eq_some_iff.mp hi).1
  have cne := I.cne
  have tracked : ∀ {a : Addr} {h' : Heap}, (∃ o, s.heap.get? a = some o ∧ H a = none) → Heap.SameBut a s.heap h' → HOk X.prog X.w H h' := fun {a h'} ha hs b ob e => by
    obtain ⟨_, _, hfree⟩ := ha
    refine (I.hok b ob e).stay (fun c w' hc q => (hs.2 c ?_).trans q) (fun _ q => q) fun _ _ q => q
    rintro rfl
    rcases hc with rfl | hc
    · rw [hfree] at e; cases e
    · rw [hfree] at hc; cases hc
  rcases hx with hk | hk
  · refine wpAny_storeName_local hk hn (fun h' hn' hs => ?_) hcls
    obtain ⟨oL, _, _, hoL, _⟩ := id hn
    refine h _ ⟨I.ok, I.os, I.bare, ⟨fun b o e n hb hx => ?_, fun b o e n hb hx => ?_, I.base.free, fun b o e hx => ?_, I.base.tups, I.base.frzs, I.base.tbls⟩, ⟨_, hn', fun j y v' e1 e2 e3 => ?_⟩, fun y c e => ?_, I.free, I.freeC, fun p hp => ?_, tracked ⟨oL, hoL, I.free⟩ hs, by simpa using I.len⟩ ⟨_, hs, .inl rfl⟩
    · exact (hs.2 b (Nat.ne_of_lt (Nat.lt_of_lt_of_le (Heap.lt_size e) I.ok.above))).trans (I.base.keep b o e n hb hx)
    · obtain ⟨sl, e1⟩ := I.base.slot b o e n hb hx
      exact ⟨sl, (hs.2 b (Nat.ne_of_lt (Nat.lt_of_lt_of_le (Heap.lt_size e) I.ok.above))).trans e1⟩
    · obtain ⟨o', e1⟩ := I.base.there b o e hx
      exact ⟨o', (hs.2 b (Nat.ne_of_lt (Nat.lt_of_lt_of_le (Heap.lt_size e) I.ok.above))).trans e1⟩
    · by_cases hj : j = i
      · subst hj
        rw [hi] at e1; cases e1
        rw [List.getElem?_set_self hiσ] at e2
        cases e2
        exact ⟨u, r, .inl ⟨hk, by simp⟩⟩
      · rw [List.getElem?_set_ne (Ne.symm hj)] at e2
        obtain ⟨u', r', q⟩ := hl j y v' e1 e2 e3
        refine ⟨u', r', ?_⟩
        rcases q with ⟨k, e⟩ | ⟨k, c, e, z⟩
        · refine .inl ⟨k, ?_⟩
          have : y ≠ x := fun e => hj (nodup_ix hN e1 (e ▸ hi))
          simp [this, e]
        · exact .inr ⟨k, c, e, z.sameBut hs (cne y c e)⟩
    · obtain ⟨w', z⟩ := I.cell y c e
      exact ⟨w', z.sameBut hs (cne y c e)⟩
    · obtain ⟨e, n, ne, nf, d⟩ := I.pin p hp
      exact ⟨(hs.2 p.1 ne).trans e, n, ne, nf, d⟩
  · have hfn : X.fn x = true := by
      rcases hf with z | z
      · exact z
      · rw [z] at hk; cases hk
    obtain ⟨c, hc⟩ := I.ok.has x (.inl hk)
    obtain ⟨w', z⟩ := I.cell x c hc
    refine wpAny_storeName_cell I.ok.kind hk hc z (fun h' hc' hs => ?_)
    obtain ⟨oc, hoc, hocd⟩ := id z
    refine h { s with heap := h' } ⟨I.ok, I.os, I.bare, ⟨fun b o e n hb hx => ?_, fun b o e n hb hx => ?_, I.base.free, fun b o e hx => ?_, I.base.tups, I.base.frzs, I.base.tbls⟩, ⟨m, hn.sameBut hs (Ne.symm (cne x c hc)), fun j y v' e1 e2 e3 => ?_⟩, fun y c' e => ?_, I.free, I.freeC, fun p hp => ?_, tracked ⟨oc, hoc, I.freeC x c hc⟩ hs, by simpa using I.len⟩ ⟨c, hs, .inr hc⟩
    · exact (hs.2 b (Nat.ne_of_lt (Nat.lt_of_lt_of_le (Heap.lt_size e) (I.ok.cab x c hfn hc)))).trans (I.base.keep b o e n hb hx)
    · obtain ⟨sl, e1⟩ := I.base.slot b o e n hb hx
      exact ⟨sl, (hs.2 b (Nat.ne_of_lt (Nat.lt_of_lt_of_le (Heap.lt_size e) (I.ok.cab x c hfn hc)))).trans e1⟩
    · obtain ⟨o', e1⟩ := I.base.there b o e hx
      exact ⟨o', (hs.2 b (Nat.ne_of_lt (Nat.lt_of_lt_of_le (Heap.lt_size e) (I.ok.cab x c hfn hc)))).trans e1⟩
    · by_cases hj : j = i
      · subst hj
        rw [hi] at e1; cases e1
        rw [List.getElem?_set_self hiσ] at e2
        cases e2
        exact ⟨u, r, .inr ⟨.inl hk, c, hc, hc'⟩⟩
      · rw [List.getElem?_set_ne (Ne.symm hj)] at e2
        obtain ⟨u', r', q⟩ := hl j y v' e1 e2 e3
        refine ⟨u', r', ?_⟩
        rcases q with q | ⟨k, c', e, z'⟩
        · exact .inl q
        · refine .inr ⟨k, c', e, z'.sameBut hs ?_⟩
          rintro rfl
          exact hj (nodup_ix hN e1 (I.ok.inj _ _ _ e hc ▸ hi))
    · by_cases hcc : c' = c
      · subst hcc; exact ⟨_, hc'⟩
      · obtain ⟨w2, z2⟩ := I.cell y c' e
        exact ⟨w2, z2.sameBut hs hcc⟩
    · obtain ⟨e, n, ne, nf, d⟩ := I.pin p hp
      refine ⟨(hs.2 p.1 ?_).trans e, n, ne, nf, d⟩
      intro q
      rw [q, hoc] at e
      have q' : oc = p.2 := Option.some.inj e
      exact d w' (by rw [← q']; exact hocd)
theorem store_ok {M : Model} {A : Around} {E : Value → Shared → Prop} {i : Nat} {x : Str} {v : V} {u : Value} {Q : Unit → Shared → Prop} (I : Inv X pins σ H s) (hN : X.N.Nodup) (hi : X.N[i]? = some x) (hx : Loc X.env.scope x) (r : RelV v u)
    (h : ∀ s', Inv X pins (σ.set i (some v)) H s' → Q () s') (hf : X.fn x = true ∨ X.env.scope.names.lookup x = some .local := by first | exact .inl rfl | exact .inr rfl | assumption) : wpAny M A (storeName X.env x u) Q E s :=
  store_ok2 I hN hi hx r (fun s' I' _ => h s' I') hf
theorem Inv.call' {s' : Shared} {ch : List Addr} (I : Inv X pins σ H s) (ho : s'.os = s.os) (u : Un (frs X.stack) ch H H' s.heap s'.heap) (hok : HOk X.prog X.w H' s'.heap) (hg : AllBare s'.gens)
    (hch : ∀ b ∈ ch, (b ∈ X.ex ∨ X.s₀.heap.objs.size ≤ b) ∧ b ≠ X.env.locals ∧ (∀ x c, X.env.cells.lookup x = some c → c ≠ b) ∧ ∀ p ∈ X.pn ++ pins, p.1 ≠ b) : Inv X pins σ H' s' := by
  obtain ⟨h', g', d', t', o'⟩ := s'
  have e : o' = s.os := ho
  subst e
  exact I.call (g' := g') (t' := t') (d' := d') u hok hg hch
end

abbrev XK := Value → Option Addr → Hp → Prop
abbrev St := List (Option V)
abbrev VK := V → Hp → Prop
abbrev TE := St → Hp → VK → Prop
abbrev TT := St → Hp → (Bool → Hp → Prop) → Prop
abbrev TA := St → Hp → (List V → Hp → Prop) → Prop
structure Ends where
  nx : St → Hp → Prop
  rt : VK
  bk : St → Hp → Prop := fun _ _ => False
  ct : St → Hp → Prop := fun _ _ => False
abbrev TS := Ends → St → Hp → Prop

def EP (X : Cx) (pins : List (Addr × Obj)) (σ : St) (Q : VK) (u : Value) (s' : Shared) : Prop := ∃ v H', Inv X pins σ H' s' ∧ RelV v u ∧ Q v H'
def TP (X : Cx) (pins : List (Addr × Obj)) (σ : St) (Q : Bool → Hp → Prop) (b : Bool) (s' : Shared) : Prop := ∃ H', Inv X pins σ H' s' ∧ Q b H'
def AP (X : Cx) (pins : List (Addr × Obj)) (σ : St) (Q : List V → Hp → Prop) (us : List Value) (s' : Shared) : Prop := ∃ vs H', Inv X pins σ H' s' ∧ Vals vs us ∧ Q vs H'
def SP (X : Cx) (pins : List (Addr × Obj)) (D : Ends) (f : Flow) (s' : Shared) : Prop :=
  match f with
  | .next => ∃ σ' H', Inv X pins σ' H' s' ∧ D.nx σ' H'
  | .brk => ∃ σ' H', Inv X pins σ' H' s' ∧ D.bk σ' H'
  | .cont => ∃ σ' H', Inv X pins σ' H' s' ∧ D.ct σ' H'
  | .ret u => ∃ v σ' H', Inv X pins σ' H' s' ∧ RelV v u ∧ D.rt v H'

def PE (X : Cx) (e : Expr) (t : TE) : Prop :=
  ∀ (pins : List (Addr × Obj)) (s : Shared) (σ : St) (H : Hp) (Q : VK), Inv X pins σ H s → t σ H Q → wpAny (model X.prog X.w) X.A (eval e X.env) (EP X pins σ Q) X.xe s
def PT (X : Cx) (e : Expr) (t : TT) : Prop :=
  ∀ (pins : List (Addr × Obj)) (s : Shared) (σ : St) (H : Hp) (Q : Bool → Hp → Prop), Inv X pins σ H s → t σ H Q → wpAny (model X.prog X.w) X.A (isTrue e X.env (eval e X.env)) (TP X pins σ Q) X.xe s
def PW (X : Cx) (e : Expr) (t : TT) : Prop :=
  ∀ (whole : Sem Value) (pins : List (Addr × Obj)) (s : Shared) (σ : St) (H : Hp) (Q : Bool → Hp → Prop), Inv X pins σ H s → t σ H Q → wpAny (model X.prog X.w) X.A (isTrue e X.env whole) (TP X pins σ Q) X.xe s
theorem PW.pt {X : Cx} {e : Expr} {t : TT} (h : PW X e t) : PT X e t := h _
def PA (X : Cx) (es : List Expr) (t : TA) : Prop :=
  ∀ (pos : Pos) (pins : List (Addr × Obj)) (s : Shared) (σ : St) (H : Hp) (Q : List V → Hp → Prop), Inv X pins σ H s → t σ H Q → wpAny (model X.prog X.w) X.A (spliced (backTo pos (starEach es X.env))) (AP X pins σ Q) X.xe s
def PS (X : Cx) (st : Stmt) (t : TS) : Prop :=
  ∀ (pins : List (Addr × Obj)) (s : Shared) (σ : St) (H : Hp) (D : Ends), Inv X pins σ H s → t D σ H → wpAny (model X.prog X.w) X.A (exec st X.env) (SP X pins D) X.xe s
def PSs (X : Cx) (st : List Stmt) (t : TS) : Prop :=
  ∀ (pins : List (Addr × Obj)) (s : Shared) (σ : St) (H : Hp) (D : Ends), Inv X pins σ H s → t D σ H → wpAny (model X.prog X.w) X.A (execs st X.env) (SP X pins D) X.xe s
theorem thn {α : Type} {t : Sem α} {Q Q' : α → Shared → Prop} {M : Model} {A : Around} {E : Value → Shared → Prop} {s : Shared} (h : wpAny M A t Q E s) (hQ : ∀ a s, Q a s → Q' a s) : wpAny M A t Q' E s := wpAny_mono h hQ fun _ _ x => x
end L2

namespace L2
open PySem PySem.Spec PyProof.Rows
section
variable {X : Cx}

theorem bin {a b : Expr} {ta tb : TE} (ha : PE X a ta) (hb : PE X b tb) {pins : List (Addr × Obj)} {s : Shared} {σ : St} {H : Hp} {R : V → V → Hp → Prop} (I : Inv X pins σ H s) (h : ta σ H fun x H1 => tb σ H1 fun y H2 => R x y H2)
    {α : Type} {Q : α → Shared → Prop} {f : Value → Value → Sem α}
    (hf : ∀ v u s2 x y H2, Inv X pins σ H2 s2 → RelV x v → RelV y u → R x y H2 → wpAny (model X.prog X.w) X.A (f v u) Q X.xe s2) :
    wpAny (model X.prog X.w) X.A (eval a X.env) (fun v s₁ => wpAny (model X.prog X.w) X.A (eval b X.env) (fun u s₂ => wpAny (model X.prog X.w) X.A (f v u) Q X.xe s₂) X.xe s₁) X.xe s := by
  refine thn (ha pins s σ H _ I h) fun v s1 ⟨x, H1, I1, r1, q1⟩ => ?_
  refine thn (hb pins s1 σ H1 _ I1 q1) fun u s2 ⟨y, H2, I2, r2, q2⟩ => ?_
  exact hf v u s2 x y H2 I2 r1 r2 q2

def tVar (i : Nat) : TE := fun σ H Q => ∃ v, σ[i]? = some (some v) ∧ Q v H
def tC (v : V) : TE := fun _ H Q => Q v H
theorem pe_var {i : Nat} {x : Str} {pos : Pos} (hN : X.N[i]? = some x) (hv : Vis X.env.scope x) (hd : (x == ("__debug__" : Str)) = false := by decide) (hcd : (x == ("__classdict__" : Str)) = false := by decide) : PE X (.Name x pos) (tVar i) := by
  intro pins s σ H Q I h
  obtain ⟨v, e, h⟩ := h
  obtain ⟨m, hn, hl⟩ := I.loc
  obtain ⟨u, r, l⟩ := hl i x v hN e hv
  have fin : EP X pins σ Q u s := ⟨v, H, I, r, h⟩
  rcases l with ⟨hk, hm⟩ | ⟨hk, c, hc, hcell⟩
  · exact wpAny_Name (wpAny_loadName_local I.ok.kind hk hn hm fin) hd
  · rcases hk with hk | hk
    · exact wpAny_Name (wpAny_loadName_cell I.ok.kind hk hc hcell fin) hd
    · exact wpAny_Name (wpAny_loadName_free I.ok.kind hk hc hcell fin hcd) hd
theorem pe_int {i j pos} : PE X (.Constant (.int i) j pos) (tC (.int i)) := fun _ _ _ H _ I h => wpAny_Constant_int ⟨.int i, H, I.tok _, ⟨_, rfl⟩, h⟩
theorem pe_bl {b j pos} : PE X (.Constant (.bool b) j pos) (tC (.bl b)) := fun _ _ _ H _ I h => Constant_bool ⟨.bl b, H, I, rfl, h⟩
theorem pe_non {j pos} : PE X (.Constant .none j pos) (tC .non) := fun _ _ _ H _ I h => Constant_none ⟨.non, H, I, rfl, h⟩
theorem pe_str {x j pos} : PE X (.Constant (.str x) j pos) (tC (.str x)) := fun _ _ _ H _ I h => Calls.Constant_str ⟨.str x, H, I.tok _, ⟨_, rfl⟩, h⟩

def Gl (X : Cx) (x : Str) : Prop := X.env.kindOf x = some .globalImplicit
theorem ld_glob {E : Value → Shared → Prop} {pins : List (Addr × Obj)} {s : Shared} {σ : St} {H : Hp} {x : Str} {u : Value} {pos : Pos} {Q : Value → Shared → Prop} (I : Inv X pins σ H s) (hg : Gl X x) (hm : X.mg x = some u) (h : Q u s)
    (hd : (x == ("__debug__" : Str)) = false := by decide) : wpAny (model X.prog X.w) X.A (eval (.Name x pos) X.env) Q E s :=
  Calls.Name_function_global I.ok.kind hg (Calls.loadGlobal_global (by rw [I.ok.glob]; exact I.mod.glob.keeps I.bk) hm h) hd
theorem ld_blt {E : Value → Shared → Prop} {pins : List (Addr × Obj)} {s : Shared} {σ : St} {H : Hp} {x : Str} {u : Value} {pos : Pos} {Q : Value → Shared → Prop} (I : Inv X pins σ H s) (hg : Gl X x) (hm : X.mg x = none) (hv : bootBuiltins x = some u) (h : Q u s)
    (hn : x ≠ "__name__" := by decide) (hd : (x == ("__debug__" : Str)) = false := by decide) : wpAny (model X.prog X.w) X.A (eval (.Name x pos) X.env) Q E s := by
  obtain ⟨mb, h1, h2⟩ := I.mod.blt
  exact Calls.Name_function_global I.ok.kind hg (Calls.loadGlobal_builtin (by rw [I.ok.glob]; exact I.mod.glob.keeps I.bk) hm (by rw [I.ok.blt]; exact h1.keeps I.bk) ((h2 x hn).trans hv) h) hd
theorem pe_glob {x : Str} {v : V} {u : Value} {pos : Pos} (hg : Gl X x) (hm : X.mg x = some u) (r : RelV v u) (hd : (x == ("__debug__" : Str)) = false := by decide) : PE X (.Name x pos) (tC v) :=
  fun _ _ _ H _ I h => ld_glob I hg hm ⟨v, H, I, r, h⟩ hd
theorem pe_bltn {x : Str} {v : V} {u : Value} {pos : Pos} (hg : Gl X x) (hm : X.mg x = none) (hv : bootBuiltins x = some u) (r : RelV v u) (hn : x ≠ "__name__" := by decide) (hd : (x == ("__debug__" : Str)) = false := by decide) : PE X (.Name x pos) (tC v) :=
  fun _ _ _ H _ I h => ld_blt I hg hm hv ⟨v, H, I, r, h⟩ hn hd

variable {a b : Expr} {ta tb : TE} {pos : Pos}
def PC (X : Cx) (op : CmpOp) (a b : Expr) (t : TE) : Prop :=
  ∀ (pins : List (Addr × Obj)) (s : Shared) (σ : St) (H : Hp) (Q : VK), Inv X pins σ H s → t σ H Q →
    wpAny (model X.prog X.w) X.A (eval a X.env) (fun v s₁ => wpAny (model X.prog X.w) X.A (eval b X.env) (fun u s₂ => wpAny (model X.prog X.w) X.A (compareOp op v u) (EP X pins σ Q) X.xe s₂) X.xe s₁) X.xe s
theorem nobehind (b : Expr) {op : CmpOp} (h : op ≠ .In) (h2 : op ≠ .NotIn) : behindInMarks op b = false := by
  have e1 : (op == CmpOp.In) = false := by cases op <;> first | rfl | exact absurd rfl h
  have e2 : (op == CmpOp.NotIn) = false := by cases op <;> first | rfl | exact absurd rfl h2
  cases b <;> simp [behindInMarks, e1, e2]
def tIsN (ta : TE) : TE := fun σ H Q => ta σ H fun x H1 => Q (.bl (decide (x = .non))) H1
theorem RelV.none_iff {x : V} {v : Value} (r : RelV x v) : (v == Value.none) = decide (x = .non) := by
  cases x with
  | non => cases r; rfl
  | bl _ => cases r; rfl
  | int _ => obtain ⟨t, rfl⟩ := r; rfl
  | str _ => obtain ⟨t, rfl⟩ := r; rfl
  | byt _ => obtain ⟨t, rfl⟩ := r; rfl
  | flt _ => obtain ⟨t, rfl⟩ := r; rfl
  | ref _ => cases r; rfl
  | ty _ => cases r; rfl
theorem pc_isN {j pos'} (ha : PE X a ta) : PC X .Is a (.Constant .none j pos') (tIsN ta) := by
  intro pins s σ H Q I h
  refine thn (ha pins s σ H _ I h) fun v s1 ⟨x, H1, I1, r1, q1⟩ => ?_
  exact Constant_none (is_none_gen ⟨.bl _, H1, I1, by rw [r1.none_iff]; rfl, q1⟩)
def tB (t : TE) : TT := fun σ H Q => t σ H fun x H1 => ∃ c, x = .bl c ∧ Q c H1
theorem pt_cmp {op : CmpOp} {t : TE} (h : PC X op a b t) (h1 : behindInMarks op b = false := by first | exact nobehind _ (by decide) (by decide) | rfl) : PT X (.Compare a [op] [b] pos) (tB t) := by
  intro pins s σ H Q I hw
  refine wpAny_isTrue_Compare1 (thn (h pins s σ H _ I hw) fun v s1 h1 => thn h1 fun u s2 h2 => thn h2 fun c s3 ⟨x, H1, I1, r1, q1⟩ => ?_) h1
  obtain ⟨d, rfl, q⟩ := q1
  cases r1
  exact wpAny_truthy_bool ⟨H1, I1, q⟩
theorem pt_val {e : Expr} {t : TE} (h : PE X e t) (he : ∀ whole, isTrue e X.env whole = (do let v ← whole; standAt e.pos; holding [v] (truthy v)) := by intro _; rfl) : PT X e (tB t) := by
  intro pins s σ H Q I hw
  refine isTrue_plain (thn (h pins s σ H _ I hw) fun v s1 ⟨x, H1, I1, r1, q1⟩ => ?_) (he _)
  obtain ⟨d, rfl, q⟩ := q1
  cases r1
  exact wpAny_truthy_bool ⟨H1, I1, q⟩

variable {tA tB' : TT} {rest : List Expr}
def tAnd (t u : TT) : TT := fun σ H Q => t σ H fun c H1 => if c = true then u σ H1 Q else Q false H1
def tOr (t u : TT) : TT := fun σ H Q => t σ H fun c H1 => if c = true then Q true H1 else u σ H1 Q
def tNot (t : TT) : TT := fun σ H Q => t σ H fun c H1 => Q (!c) H1
theorem pw_and1 (ha : PT X a tA) : PW X (.BoolOp .And [a] pos) tA := by
  intro wh pins s σ H Q I h
  refine isTrue_and (thn (ha pins s σ H Q I h) fun c s1 e => ?_)
  cases c with
  | true => exact isTrue_and_nil e
  | false => exact e
theorem pw_or1 (ha : PT X a tA) : PW X (.BoolOp .Or [a] pos) tA := by
  intro wh pins s σ H Q I h
  refine isTrue_or (thn (ha pins s σ H Q I h) fun c s1 e => ?_)
  cases c with
  | false => exact isTrue_or_nil e
  | true => exact e
theorem pw_and (ha : PT X a tA) (hb : PW X (.BoolOp .And (b :: rest) pos) tB') : PW X (.BoolOp .And (a :: b :: rest) pos) (tAnd tA tB') := by
  intro wh pins s σ H Q I h
  refine isTrue_and (thn (ha pins s σ H _ I h) fun c s1 ⟨H1, I1, q1⟩ => ?_)
  cases c with
  | true => exact hb wh pins s1 σ H1 Q I1 q1
  | false => exact ⟨H1, I1, q1⟩
theorem pw_or (ha : PT X a tA) (hb : PW X (.BoolOp .Or (b :: rest) pos) tB') : PW X (.BoolOp .Or (a :: b :: rest) pos) (tOr tA tB') := by
  intro wh pins s σ H Q I h
  refine isTrue_or (thn (ha pins s σ H _ I h) fun c s1 ⟨H1, I1, q1⟩ => ?_)
  cases c with
  | true => exact ⟨H1, I1, q1⟩
  | false => exact hb wh pins s1 σ H1 Q I1 q1
theorem pt_not (ha : PT X a tA) : PT X (.UnaryOp .Not a pos) (tNot tA) := by
  intro pins s σ H Q I h
  exact isTrue_not (ha pins s σ H (fun c H1 => Q (!c) H1) I h)
def tAndV (ta tb : TE) : TE := fun σ H Q => ta σ H fun x H1 => ∃ c, x = .bl c ∧ if c = true then tb σ H1 Q else Q (.bl false) H1
def tNotV (ta : TE) : TE := fun σ H Q => ta σ H fun x H1 => ∃ c, x = .bl c ∧ Q (.bl (!c)) H1
theorem pe_one {op} {t : TE} (h : PE X a t) : PE X (.BoolOp op [a] pos) t := fun pins s σ H Q I hw => BoolOp_one (h pins s σ H Q I hw)
theorem pe_and (ha : PE X a ta) (hb : PE X (.BoolOp .And (b :: rest) pos) tb) : PE X (.BoolOp .And (a :: b :: rest) pos) (tAndV ta tb) := by
  intro pins s σ H Q I h
  refine BoolOp_and (thn (ha pins s σ H _ I h) fun v s1 ⟨x, H1, I1, r1, q1⟩ => ?_)
  obtain ⟨c, rfl, q1⟩ := q1
  cases r1
  refine wpAny_truthy_bool ?_
  cases c with
  | true => exact hb pins s1 σ H1 Q I1 q1
  | false => exact ⟨.bl false, H1, I1, rfl, q1⟩
theorem pe_not (ha : PE X a ta) : PE X (.UnaryOp .Not a pos) (tNotV ta) := by
  intro pins s σ H Q I h
  refine UnaryOp_ (thn (ha pins s σ H _ I h) fun v s1 ⟨x, H1, I1, r1, q1⟩ => ?_)
  obtain ⟨c, rfl, q1⟩ := q1
  cases r1
  exact not_of (wpAny_truthy_bool ⟨.bl (!c), H1, I1, rfl, q1⟩)
def tIf (t : TT) (ta tb : TE) : TE := fun σ H Q => t σ H fun c H1 => if c = true then ta σ H1 Q else tb σ H1 Q
theorem pe_ifExp {c : Expr} (hc : PT X c tA) (ha : PE X a ta) (hb : PE X b tb) : PE X (.IfExp c a b pos) (tIf tA ta tb) := by
  intro pins s σ H Q I h
  refine wpAny_IfExp (thn (hc pins s σ H _ I h) fun d s1 ⟨H1, I1, q1⟩ => ?_)
  cases d with
  | true => exact ha pins s1 σ H1 Q I1 q1
  | false => exact hb pins s1 σ H1 Q I1 q1
end
end L2

namespace L2
open PySem PySem.Spec PyProof.Rows

def SqL (K : PySem.W.Frag) (H : Hp) (a : Addr) (xs : List V) : Prop :=
  Rd H a (.lst xs) ∨
    ∃ (o : Obj) (its : Array Value) (n : Nat), K.lookup a = some o ∧ o.cls = .type "list" ∧ o.dict = none ∧ o.data = .seq its n ∧ its.size ≤ sizeLine ∧ Vals xs its.toList
def SqT (K : PySem.W.Frag) (H : Hp) (a : Addr) (xs : List V) : Prop :=
  Rd H a (.tup xs) ∨
    ∃ (o : Obj) (its : Array Value) (n : Nat), K.lookup a = some o ∧ o.cls = .type "tuple" ∧ o.data = .seq its n ∧ its.size ≤ sizeLine ∧ Vals xs its.toList
def absV : Value → Option V
  | .none => some .non
  | .bool b => some (.bl b)
  | .int i _ => some (.int i)
  | .str x _ => some (.str x)
  | .bytes b _ => some (.byt b)
  | .float b _ => some (.flt b)
  | .ref a => some (.ref a)
  | .type n => some (.ty n)
  | _ => none
theorem RelV.abs {x : V} {u : Value} (r : RelV x u) : absV u = some x := by
  cases x with
  | non => cases r; rfl
  | bl _ => cases r; rfl
  | int _ => obtain ⟨t, rfl⟩ := r; rfl
  | str _ => obtain ⟨t, rfl⟩ := r; rfl
  | byt _ => obtain ⟨t, rfl⟩ := r; rfl
  | flt _ => obtain ⟨t, rfl⟩ := r; rfl
  | ref _ => cases r; rfl
  | ty _ => cases r; rfl
theorem RelV.inj {x y : V} {u : Value} (r : RelV x u) (q : RelV y u) : x = y := Option.some.inj (r.abs.symm.trans q.abs)
theorem Vals.inj : ∀ {xs ys : List V} {us : List Value}, Vals xs us → Vals ys us → xs = ys
  | _, _, _, .nil, .nil => rfl
  | _, _, _, .cons r t, .cons r' t' => by rw [r.inj r', Vals.inj t t']
section
variable {X : Cx} {pins : List (Addr × Obj)} {σ : St} {H : Hp} {s : Shared} {a : Addr} {xs ys : List V}
theorem SqL.of {K : PySem.W.Frag} (h : H a = some (.lst xs)) : SqL K H a xs := .inl (.inl h)
theorem SqT.of {K : PySem.W.Frag} (h : H a = some (.tup xs)) : SqT K H a xs := .inl (.inl h)
theorem Inv.list (I : Inv X pins σ H s) (h : SqL X.K H a xs) : ∃ its : List Value, Vals xs its ∧ PlainL s.heap a its.toArray ∧ xs.length ≤ sizeLine := by
  rcases h with h | ⟨o, its, n, hk, hc, hd, hs, hz, r⟩
  · obtain ⟨z, its, n, r, e⟩ := h.ok I.hok
    exact ⟨its, r, ⟨_, n, e, rfl, rfl, rfl⟩, z⟩
  · refine ⟨its.toList, r, ⟨o, n, I.kIn a o hk, hc, hd, by simpa using hs⟩, ?_⟩
    have e := r.length
    simp only [Array.length_toList] at e
    omega
theorem Inv.tuple (I : Inv X pins σ H s) (h : SqT X.K H a xs) : ∃ its : List Value, Vals xs its ∧ IsTup s.heap a its.toArray ∧ xs.length ≤ sizeLine := by
  rcases h with h | ⟨o, its, n, hk, hc, hs, hz, r⟩
  · obtain ⟨z, its, r, p⟩ := h.ok I.hok
    exact ⟨its, r, p, z⟩
  · refine ⟨its.toList, r, ⟨o, I.kIn a o hk, hc, n, by simpa using hs⟩, ?_⟩
    have e := r.length
    simp only [Array.length_toList] at e
    omega
theorem Inv.list_inj (I : Inv X pins σ H s) (h : SqL X.K H a xs) (h' : SqL X.K H a ys) : xs = ys := by
  obtain ⟨its, r, ⟨o, n, e, _, _, d⟩, _⟩ := I.list h
  obtain ⟨its', r', ⟨o', n', e', _, _, d'⟩, _⟩ := I.list h'
  rw [e] at e'; cases e'
  rw [d] at d'
  injection d' with d1 _
  have : its = its' := by simpa using congrArg Array.toList d1
  subst this
  exact r.inj r'
end

abbrev Cx.wish (X : Cx) (E : Value → Shared → Prop) : Cx := { X with xe := E }
abbrev Cx.nox (X : Cx) : Cx := X.wish fun _ _ => False
theorem Cx.Ok.wish {X : Cx} (ok : X.Ok) (E : Value → Shared → Prop) : (X.wish E).Ok :=
  ⟨ok.mod, ok.kind, ok.glob, ok.blt, ok.above, ok.inj, ok.has, ok.cab, ok.hd, ok.frames, ok.stk, ok.exf, ok.bs, ok.bsz, ok.noex, ok.exfs, ok.funs, ok.frf⟩
theorem Cx.Ok.unwish {X : Cx} {E : Value → Shared → Prop} (ok : (X.wish E).Ok) : X.Ok :=
  ⟨ok.mod, ok.kind, ok.glob, ok.blt, ok.above, ok.inj, ok.has, ok.cab, ok.hd, ok.frames, ok.stk, ok.exf, ok.bs, ok.bsz, ok.noex, ok.exfs, ok.funs, ok.frf⟩
section
variable {X : Cx} {pins : List (Addr × Obj)} {σ : St} {H : Hp} {s : Shared} {E : Value → Shared → Prop}
theorem Inv.wish (I : Inv X pins σ H s) (E : Value → Shared → Prop) : Inv (X.wish E) pins σ H s := ⟨I.ok.wish E, I.os, I.bare, I.base, I.loc, I.cell, I.free, I.freeC, I.pin, I.hok, I.len⟩
theorem Inv.unwish (I : Inv (X.wish E) pins σ H s) : Inv X pins σ H s := ⟨I.ok.unwish, I.os, I.bare, I.base, I.loc, I.cell, I.free, I.freeC, I.pin, I.hok, I.len⟩
theorem SP.unwish {D : Ends} {f : Flow} {s' : Shared} (h : SP (X.wish E) pins D f s') : SP X pins D f s' := by
  cases f with
  | next => obtain ⟨σ', H', I, q⟩ := h; exact ⟨σ', H', I.unwish, q⟩
  | brk => obtain ⟨σ', H', I, q⟩ := h; exact ⟨σ', H', I.unwish, q⟩
  | cont => obtain ⟨σ', H', I, q⟩ := h; exact ⟨σ', H', I.unwish, q⟩
  | ret u => obtain ⟨v, σ', H', I, r, q⟩ := h; exact ⟨v, σ', H', I.unwish, r, q⟩
theorem PE.nox {e : Expr} {t : TE} (h : PE X.nox e t) : PE X e t := fun pins s σ H Q I hw =>
  wpAny_mono (h pins s σ H Q (I.wish _) hw) (fun _ _ ⟨v, H', I', r, q⟩ => ⟨v, H', I'.unwish, r, q⟩) fun _ _ z => False.elim z
theorem PT.nox {e : Expr} {t : TT} (h : PT X.nox e t) : PT X e t := fun pins s σ H Q I hw =>
  wpAny_mono (h pins s σ H Q (I.wish _) hw) (fun _ _ ⟨H', I', q⟩ => ⟨H', I'.unwish, q⟩) fun _ _ z => False.elim z
theorem PSs.nox {st : List Stmt} {t : TS} (h : PSs X.nox st t) : PSs X st t := fun pins s σ H D I hw =>
  wpAny_mono (h pins s σ H D (I.wish _) hw) (fun _ _ q => q.unwish) fun _ _ z => False.elim z
end

section
variable {X : Cx} {st : Stmt} {rest : List Stmt} {t u : TS} {e : Expr} {te : TE} {pos : Pos}
def tNext : TS := fun D σ H => D.nx σ H
def tSeq (t u : TS) : TS := fun D σ H => t { D with nx := u D } σ H
theorem pss_nil : PSs X [] tNext := fun _ _ σ H _ I h => wpAny_execs_nil ⟨σ, H, I, h⟩
theorem pss_cons (h1 : PS X st t) (h2 : PSs X rest u) : PSs X (st :: rest) (tSeq t u) := by
  intro pins s σ H D I h
  refine wpAny_execs_cons (thn (h1 pins s σ H { D with nx := u D } I h) fun f s1 q => ?_)
  cases f with
  | next =>
    obtain ⟨σ', H', I', q⟩ := q
    exact h2 pins s1 σ' H' D I' q
  | ret v => exact q
  | brk => exact q
  | cont => exact q
theorem pss_one (h1 : PS X st t) : PSs X [st] t := by
  intro pins s σ H D I h
  refine wpAny_execs_cons (thn (h1 pins s σ H D I h) fun f s1 q => ?_)
  cases f with
  | next => exact wpAny_execs_nil q
  | ret v => exact q
  | brk => exact q
  | cont => exact q
theorem Inv.quiet {pins : List (Addr × Obj)} {σ : St} {H : Hp} {s : Shared} (I : Inv X pins σ H s) : interactive X.env = false := by simp [interactive, I.ok.kind]
def tDrop (te : TE) : TS := fun D σ H => te σ H fun _ H1 => D.nx σ H1
theorem ps_expr (he : PE X e te) (hs : swapsWith e none pos.line X.env = pure false := by rfl) : PS X (.Expr e pos) (tDrop te) := by
  intro pins s σ H D I h
  exact wpAny_Expr_any (thn (he pins s σ H _ I h) fun v s1 ⟨x, H1, I1, r1, q1⟩ => ⟨σ, H1, I1, q1⟩) I.quiet hs
def tRet (te : TE) : TS := fun D σ H => te σ H D.rt
theorem ps_ret (he : PE X e te) : PS X (.Return (some e) pos) (tRet te) := by
  intro pins s σ H D I h
  exact wpAny_Return_some (thn (he pins s σ H _ I h) fun v s1 ⟨x, H1, I1, r1, q1⟩ => ⟨x, σ, H1, I1, r1, q1⟩)
def tIfS (c : TT) (t u : TS) : TS := fun D σ H => c σ H fun b H1 => if b = true then t D σ H1 else u D σ H1
theorem ps_if {c : Expr} {a b : List Stmt} {tc : TT} (hc : PT X c tc) (ha : PSs X a t) (hb : PSs X b u) : PS X (.If c a b pos) (tIfS tc t u) := by
  intro pins s σ H D I h
  refine wpAny_If (thn (hc pins s σ H _ I h) fun d s1 ⟨H1, I1, q1⟩ => ?_)
  cases d with
  | true => exact ha pins s1 σ H1 D I1 q1
  | false => exact hb pins s1 σ H1 D I1 q1
def tNever : TS := fun _ _ _ => False
theorem ps_never : PS X st tNever := fun _ _ _ _ _ _ h => h.elim
end

abbrev TG := V → St → Hp → (St → Hp → Prop) → Prop
def PG (X : Cx) (target : Expr) (t : TG) : Prop :=
  ∀ (pins : List (Addr × Obj)) (s : Shared) (σ : St) (H : Hp) (v : V) (u : Value) (Q : St → Hp → Prop), Inv X pins σ H s → RelV v u → t v σ H Q →
    wpAny (model X.prog X.w) X.A (assign target X.env u) (fun _ s' => ∃ σ' H', Inv X pins σ' H' s' ∧ Q σ' H') X.xe s
section
variable {X : Cx} {pos : Pos}
def gName (i : Nat) : TG := fun v σ H Q => Q (σ.set i (some v)) H
theorem pg_name {i : Nat} {x : Str} (hN : X.N.Nodup) (hi : X.N[i]? = some x) (hx : Loc X.env.scope x) (hf : X.fn x = true ∨ X.env.scope.names.lookup x = some .local := by first | exact .inl rfl | exact .inr rfl | assumption) : PG X (.Name x pos) (gName i) := by
  intro pins s σ H v u Q I r h
  exact wpAny_assign_Name (store_ok I hN hi hx r (fun s' I' => ⟨_, H, I', h⟩) hf)
def tAsg (te : TE) (g : TG) : TS := fun D σ H => te σ H fun x H1 => g x σ H1 D.nx
theorem ps_set {i : Nat} {x : Str} {e : Expr} {te : TE} {pos' : Pos} (hN : X.N.Nodup) (hi : X.N[i]? = some x) (hx : Loc X.env.scope x) (he : PE X e te) (hs : swapsWith e (some (.Name x pos')) pos.line X.env = pure false := by rfl) (hf : X.fn x = true ∨ X.env.scope.names.lookup x = some .local := by first | exact .inl rfl | exact .inr rfl | assumption) :
    PS X (.Assign [.Name x pos'] e pos) (tAsg te (gName i)) := by
  intro pins s σ H D I h
  refine wpAny_Assign_Name (thn (he pins s σ H _ I h) fun v s1 ⟨y, H1, I1, r1, q1⟩ => ?_) hs
  exact store_ok I1 hN hi hx r1 (fun s2 I2 => ⟨_, H1, I2, q1⟩) hf
end

section
variable {X : Cx} {pos : Pos}
def tWhile (c : TT) (tb : TS) : TS := fun D σ H => ∃ W : Nat → St → Hp → Prop, (∃ m, W m σ H) ∧ ∀ m σ H, W m σ H →
  c σ H fun b H1 => if b = true then ∃ N : St → Hp → Prop, (∀ σ' H', N σ' H' → ∃ m', m' < m ∧ W m' σ' H') ∧ tb { D with nx := N, ct := N, bk := D.nx } σ H1 else D.nx σ H1
theorem ps_while {c : Expr} {body : List Stmt} {tc : TT} {tb : TS} (hp : PassesOwn (model X.prog X.w) X.A X.env X.xe) (hc : PT X c tc) (hb : PSs X body tb) : PS X (.While c body [] pos) (tWhile tc tb) := by
  intro pins s σ H D I h
  obtain ⟨W, ⟨m0, w0⟩, turn⟩ := h
  refine wpAny_While (codeAny_whileLoop (fun n s' => ∃ σ' H', Inv X pins σ' H' s' ∧ W n σ' H') ?_ m0 ⟨σ, H, I, w0⟩)
  rintro n s1 ⟨σ1, H1, I1, w1⟩
  refine wpAny_passesOwn hp (thn (hc pins s1 σ1 H1 _ I1 (turn n σ1 H1 w1)) fun b s2 ⟨H2, I2, q2⟩ => ?_)
  cases b with
  | true =>
    obtain ⟨N, hN, q2⟩ := q2
    rw [if_pos rfl]
    refine wpAny_passesOwn hp (thn (hb pins s2 σ1 H2 _ I2 q2) fun f s3 q3 => ?_)
    cases f with
    | next =>
      obtain ⟨σ3, H3, I3, n3⟩ := q3
      obtain ⟨m', hm, w3⟩ := hN σ3 H3 n3
      exact ⟨m', hm, σ3, H3, I3, w3⟩
    | cont =>
      obtain ⟨σ3, H3, I3, n3⟩ := q3
      obtain ⟨m', hm, w3⟩ := hN σ3 H3 n3
      exact ⟨m', hm, σ3, H3, I3, w3⟩
    | brk => exact q3
    | ret v => exact q3
  | false =>
    rw [if_neg Bool.false_ne_true]
    exact wpAny_execs_nil ⟨σ1, H2, I2, q2⟩
end

structure It where
  go : Nat → Hp → Prop
  yld : Nat → Hp → V → Hp → Prop
  stop : Nat → Hp → Prop
def FpOk (X : Cx) (pins : List (Addr × Obj)) (H : Hp) (b : Addr) : Prop :=
  H b = none ∧ b ≠ X.env.locals ∧ b ∉ X.fs ∧ (b ∈ X.ex ∨ X.s₀.heap.objs.size ≤ b) ∧ (∀ x c, X.env.cells.lookup x = some c → c ≠ b) ∧ ∀ p ∈ X.pn ++ pins, p.1 ≠ b
theorem Inv.fpOk {X : Cx} {pins : List (Addr × Obj)} {σ : St} {H H' : Hp} {s : Shared} {b : Addr} (I : Inv X pins σ H s) (hb : s.heap.objs.size ≤ b) (hn : H' b = none) : FpOk X pins H' b := by
  refine ⟨hn, Nat.ne_of_gt (Nat.lt_of_lt_of_le I.lt hb), I.nofs hb, .inr (Nat.le_trans I.sz hb), fun x c e z => ?_, fun p hp z => ?_⟩
  · obtain ⟨v, q⟩ := I.cell x c e
    exact absurd (Nat.lt_of_lt_of_le q.lt (by rw [z]; exact hb)) (Nat.lt_irrefl _)
  · exact absurd (Nat.lt_of_lt_of_le (Heap.lt_size (I.pin p hp).1) (by rw [z]; exact hb)) (Nat.lt_irrefl _)
structure Turn (P : Program) (w : World) (K : PySem.W.Frag) (tg : Expr) (J : It) (fp : List Addr) (it : Addr) (tn : Nat → Heap → Prop) : Prop where
  mem : it ∈ fp
  obj : ∀ i h, tn i h → ∀ b ∈ fp, ∃ o, h.get? b = some o ∧ ∀ v, o.data ≠ .cell v
  keep : ∀ i h h', tn i h → (∀ b ∈ fp, ∀ o, h.get? b = some o → h'.get? b = some o) → tn i h'
  item : ∀ (X : Cx), X.prog = P → X.w = w → X.K = K → X.calm = true → ∀ (i : Nat) (pins : List (Addr × Obj)) (s : Shared) (σ : St) (H : Hp) (E : Value → Shared → Prop), Inv X pins σ H s → (∀ b ∈ fp, FpOk X pins H b) → tn i s.heap → J.go i H →
    wpAny (model P w) X.A (pyNext (.ref it)) (fun r s1 => ∃ u, r = some u ∧
      wpAny (model P w) X.A (letOwnedTupleGo tg (.ref it) u) (fun _ s2 => ∃ x H', Inv X pins σ H' s2 ∧ RelV x u ∧ J.yld i H x H' ∧ tn (i + 1) s2.heap ∧ ∀ b ∈ fp, H' b = none) E s1) E s
  done : ∀ (X : Cx), X.prog = P → X.w = w → X.K = K → X.calm = true → ∀ (i : Nat) (pins : List (Addr × Obj)) (s : Shared) (σ : St) (H : Hp) (E : Value → Shared → Prop), Inv X pins σ H s → (∀ b ∈ fp, FpOk X pins H b) → tn i s.heap → J.stop i H →
    wpAny (model P w) X.A (pyNext (.ref it)) (fun r s1 => r = none ∧ Inv X pins σ H s1) E s
  self : ∀ (A : Around) (i : Nat) (s : Shared) (Q : Value → Shared → Prop) (E : Value → Shared → Prop), tn i s.heap → Q (.ref it) s → wpAny (model P w) A (pyIter (.ref it)) Q E s
abbrev TI := St → Hp → (It → Hp → Prop) → Prop
def PIE (X : Cx) (pins : List (Addr × Obj)) (σ : St) (tg : Expr) (R : It → Hp → Prop) (itv : Value) (s2 : Shared) : Prop :=
  ∃ (it : Addr) (fp : List Addr) (tn : Nat → Heap → Prop) (J : It) (H' : Hp), itv = .ref it ∧ Inv X pins σ H' s2 ∧ Turn X.prog X.w X.K tg J fp it tn ∧ tn 0 s2.heap ∧ (∀ b ∈ fp, FpOk X pins H' b) ∧ R J H'
def PI (X : Cx) (tg iter : Expr) (wi : TI) : Prop :=
  ∀ (pins : List (Addr × Obj)) (s : Shared) (σ : St) (H : Hp) (R : It → Hp → Prop), Inv X pins σ H s → wi σ H R →
    wpAny (model X.prog X.w) X.A (eval iter X.env) (fun v s1 => wpAny (model X.prog X.w) X.A (pyIter v) (PIE X pins σ tg R) X.xe s1) X.xe s

theorem go_of {M : Model} {A : Around} {E : Value → Shared → Prop} {s : Shared} {tg : Expr} {it : Addr} {u : Value} {o : Obj} {n : String} {vs : Array Value} {Q : Unit → Shared → Prop} (ho : s.heap.get? it = some o) (hc : o.cls = .type n) (hd : o.data = .fields vs)
    (hn : ["enumerate", "zip", "dict_itemiterator", "dict_reverseitemiterator", "odict_iterator", "itertools.zip_longest", "itertools.pairwise"].contains n = false) (hQ : Q () s) : wpAny M A (letOwnedTupleGo tg (.ref it) u) Q E s := by
  unfold letOwnedTupleGo
  cases tg <;> first
    | exact wpAny_pure hQ
    | (cases u <;> first
        | exact wpAny_pure hQ
        | (refine wpAny_bind (wpAny_load ho ?_)
           rw [hc, hd]
           show wpAny M A (if (["enumerate", "zip", "dict_itemiterator", "dict_reverseitemiterator", "odict_iterator", "itertools.zip_longest", "itertools.pairwise"].contains n && vs[0]? == some (rawInt _)) = true then _ else _) Q E s
           rw [if_neg (by intro h; rw [hn, Bool.false_and] at h; cases h)]
           exact wpAny_pure hQ))

def Itl (K : PySem.W.Frag) (a : Addr) : It :=
  ⟨fun i H => ∃ xs x, SqL K H a xs ∧ xs[i]? = some x, fun i H x H' => H' = H ∧ ∀ xs, SqL K H a xs → xs[i]? = some x, fun i H => ∃ xs, SqL K H a xs ∧ xs.length ≤ i⟩
theorem turn_list {P : Program} {w : World} {K : PySem.W.Frag} {tg : Expr} (a it : Addr) : Turn P w K tg (Itl K a) [it] it (fun i h => h.IsListIter it a i) where
  mem := by simp
  obj := fun i h st b hb => by
    have e : b = it := by simpa using hb
    subst e
    obtain ⟨o, e, c, d⟩ := st
    exact ⟨o, e, fun v z => by rw [d] at z; cases z⟩
  keep := fun i h h' st k => st.at fun o e => k it (by simp) o e
  item := by
    intro X hP hw hK hc i pins s σ H E I hf st hg
    subst hP hw hK
    obtain ⟨xs, x, hq, hx⟩ := hg
    obtain ⟨its, rv, p, hz⟩ := I.list hq
    obtain ⟨u, hu, ru⟩ := rv.get hx
    obtain ⟨f0, f1, f2, f3, f4, f5⟩ := hf it (by simp)
    refine wpAny_pyNext_list_item st p.isList (x := u) (by simpa using hu) fun h' st' sb => ?_
    have I1 : Inv X pins σ H { s with heap := h' } := I.turned (t' := s.toks) (fun b o hb e => (sb.2 b hb).trans e) f0 f1 f3 f4 f5
    obtain ⟨o, e, c, d⟩ := id st'
    exact ⟨u, rfl, go_of (s := { s with heap := h' }) e c d (by decide) ⟨x, H, I1, ru, ⟨rfl, fun ys hy => by rw [I.list_inj hy hq]; exact hx⟩, st', fun b hb => (hf b hb).1⟩⟩
  done := by
    intro X hP hw hK hc i pins s σ H E I hf st hg
    subst hP hw hK
    obtain ⟨xs, hq, hx⟩ := hg
    obtain ⟨its, rv, p, hz⟩ := I.list hq
    obtain ⟨f0, f1, f2, f3, f4, f5⟩ := hf it (by simp)
    have hl := rv.length
    exact wpAny_pyNext_list_end (I.ok.hd hc) st p.isList (by simp; omega) fun h' eb => ⟨rfl, I.turned (t' := s.toks) (fun b o hb e => eb b o hb e) f0 f1 f3 f4 f5⟩
  self := fun _ _ _ _ _ st h => wpAny_pyIter_listiter st h
end L2

namespace L2
open PySem PySem.Spec PyProof.Rows
section
variable {X : Cx} {tg : Expr}
def iList (K : PySem.W.Frag) (tl : TE) : TI := fun σ H R => tl σ H fun x H1 => ∃ a, x = .ref a ∧ (∃ xs, SqL K H1 a xs) ∧ R (Itl K a) H1
theorem pi_list {l : Expr} {tl : TE} (hl : PE X l tl) : PI X tg l (iList X.K tl) := by
  intro pins s σ H R I h
  refine thn (hl pins s σ H _ I h) fun v s1 ⟨x, H1, I1, r1, q1⟩ => ?_
  obtain ⟨a, e, ⟨xs, hq⟩, q⟩ := q1
  subst e
  cases r1
  obtain ⟨its, rv, p, hz⟩ := I1.list hq
  refine wpAny_pyIter_list p.isList ?_
  refine ⟨s1.heap.objs.size, [s1.heap.objs.size], _, _, H1, rfl, I1.kept (t' := s1.toks) fun b o e => Heap.get?_push_of_some _ e, turn_list a _, ⟨_, Heap.get?_push_size _ rfl, rfl, rfl⟩, fun b hb => ?_, q⟩
  have e : b = s1.heap.objs.size := by simpa using hb
  subst e
  exact I1.fpOk (Nat.le_refl _) (I1.hok.fresh (Nat.le_refl _))
def tFor (wi : TI) (g : TG) (tb : TS) : TS := fun D σ H => wi σ H fun J H1 => ∃ W : Nat → Nat → St → Hp → Prop, (∃ m, W 0 m σ H1) ∧ ∀ i m σ H, W i m σ H →
  (J.stop i H ∧ D.nx σ H) ∨ (J.go i H ∧ ∃ N : St → Hp → Prop, (∀ σ' H', N σ' H' → ∃ m', m' < m ∧ W (i + 1) m' σ' H') ∧ ∀ x H', J.yld i H x H' → g x σ H' fun σ2 H2 => tb { D with nx := N, ct := N, bk := D.nx } σ2 H2)
def pinsAt (fp : List Addr) (h : Heap) : List (Addr × Obj) := fp.filterMap fun b => (h.get? b).map fun o => (b, o)
theorem mem_pinsAt {fp : List Addr} {h : Heap} {b : Addr} {o : Obj} (hb : b ∈ fp) (e : h.get? b = some o) : (b, o) ∈ pinsAt fp h := List.mem_filterMap.mpr ⟨b, hb, by rw [e]; rfl⟩
theorem of_pinsAt {fp : List Addr} {h : Heap} {p : Addr × Obj} (hp : p ∈ pinsAt fp h) : p.1 ∈ fp ∧ h.get? p.1 = some p.2 := by
  obtain ⟨b, hb, e⟩ := List.mem_filterMap.mp hp
  cases q : h.get? b with
  | none => rw [q] at e; cases e
  | some o =>
    rw [q] at e
    have e' : (b, o) = p := Option.some.inj e
    subst e'
    exact ⟨hb, q⟩
theorem Inv.pinned {pins : List (Addr × Obj)} {σ : St} {H : Hp} {s : Shared} {fp : List Addr} (I : Inv X pins σ H s) (hf : ∀ b ∈ fp, FpOk X pins H b) (ho : ∀ b ∈ fp, ∃ o, s.heap.get? b = some o ∧ ∀ v, o.data ≠ .cell v) : Inv X (pins ++ pinsAt fp s.heap) σ H s :=
  I.pins_of fun p hp => (List.mem_append.mp hp).elim (fun z => I.pin p (List.mem_append_right _ z)) fun z => by
    obtain ⟨hb, e⟩ := of_pinsAt z
    obtain ⟨f0, f1, f2, _⟩ := hf p.1 hb
    obtain ⟨o, e', d⟩ := ho p.1 hb
    rw [e] at e'; cases e'
    exact ⟨e, f0, f1, f2, d⟩
theorem Inv.unpinned {pins pl : List (Addr × Obj)} {σ : St} {H : Hp} {s : Shared} (I : Inv X (pins ++ pl) σ H s) : Inv X pins σ H s := I.pins_of fun p hp => I.pin p (List.mem_append_right _ (List.mem_append_left _ hp))
theorem ps_for {iter : Expr} {body : List Stmt} {wi : TI} {g : TG} {tb : TS} {pos : Pos} (hp : PassesOwn (model X.prog X.w) X.A X.env X.xe) (hc : X.calm = true) (hi : PI X tg iter wi) (hg : PG X tg g) (hb : PSs X body tb)
    (hs : ∀ x, foldedSetIterable iter X.env x = pure x := by intro _; rfl) : PS X (.For tg iter body [] pos) (tFor wi g tb) := by
  intro pins s σ H D I h
  refine wpAny_For (thn (hi pins s σ H _ I h) fun v s1 h1 => thn h1 fun itv s2 h2 => ?_) hs
  obtain ⟨it, fp, tn, J, H2, e, I2, T, st2, f2, W, ⟨m0, w0⟩, turn⟩ := h2
  subst e
  -- what stays true of the iterator's objects through the loop
  have stat : ∀ {H' : Hp}, (∀ b ∈ fp, H' b = none) → ∀ b ∈ fp, FpOk X pins H' b := fun hn b hb => ⟨hn b hb, (f2 b hb).2⟩
  refine codeAny_forLoop_any (fun n s' => ∃ i σ' H', Inv X pins σ' H' s' ∧ tn i s'.heap ∧ (∀ b ∈ fp, H' b = none) ∧ W i n σ' H') ?_ m0 ⟨0, σ, H2, I2, st2, fun b hb => (f2 b hb).1, w0⟩
  rintro n s3 ⟨i, σ3, H3, I3, st3, fr3, w3⟩
  rcases turn i n σ3 H3 w3 with ⟨stop, qn⟩ | ⟨go, N, hN, step⟩
  · refine wpAny_passesOwn hp (thn (T.done X rfl rfl rfl hc i pins s3 σ3 H3 X.xe I3 (stat fr3) st3 stop) fun r s4 ⟨hr, I4⟩ => ?_)
    subst hr
    exact wpAny_execs_nil ⟨σ3, H3, I4, qn⟩
  · refine wpAny_passesOwn hp (thn (T.item X rfl rfl rfl hc i pins s3 σ3 H3 X.xe I3 (stat fr3) st3 go) fun r s4 ⟨u, hr, h4⟩ => ?_)
    subst hr
    refine wpAny_passesOwn hp (thn h4 fun _ s5 ⟨x, H5, I5, r5, y5, st5, fr5⟩ => ?_)
    have I5' := I5.pinned (stat fr5) (T.obj _ _ st5)
    refine wpAny_passesOwn hp (thn (hg _ s5 σ3 H5 x u _ I5' r5 (step x H5 y5)) fun _ s6 ⟨σ6, H6, I6, q6⟩ => ?_)
    refine wpAny_passesOwn hp (thn (hb _ s6 σ6 H6 _ I6 q6) fun f s7 q7 => ?_)
    have again : ∀ {σ7 : St} {H7 : Hp}, Inv X (pins ++ pinsAt fp s5.heap) σ7 H7 s7 → N σ7 H7 → ∃ m, m < n ∧ ∃ i σ' H', Inv X pins σ' H' s7 ∧ tn i s7.heap ∧ (∀ b ∈ fp, H' b = none) ∧ W i m σ' H' := fun {σ7 H7} I7 n7 => by
      obtain ⟨m', hm, w7⟩ := hN σ7 H7 n7
      refine ⟨m', hm, i + 1, σ7, H7, I7.unpinned, T.keep _ _ _ st5 fun b hb o e => (I7.pin (b, o) (List.mem_append_right _ (List.mem_append_right _ (mem_pinsAt hb e)))).1, fun b hb => ?_, w7⟩
      obtain ⟨o, e, d⟩ := T.obj _ _ st5 b hb
      exact (I7.pin (b, o) (List.mem_append_right _ (List.mem_append_right _ (mem_pinsAt hb e)))).2.1
    cases f with
    | next => obtain ⟨σ7, H7, I7, n7⟩ := q7; exact again I7 n7
    | cont => obtain ⟨σ7, H7, I7, n7⟩ := q7; exact again I7 n7
    | brk => obtain ⟨σ7, H7, I7, q7⟩ := q7; exact ⟨σ7, H7, I7.unpinned, q7⟩
    | ret v => obtain ⟨x7, σ7, H7, I7, r7, q7⟩ := q7; exact ⟨x7, σ7, H7, I7.unpinned, r7, q7⟩
end

theorem for_list {K : PySem.W.Frag} {a : Addr} {xs : List V} {g : TG} {tb : TS} {D : Ends} {σ : St} {H : Hp} (Pv : Nat → St → Hp → Prop) (h0 : Pv 0 σ H) (hl : ∀ i σ H, i ≤ xs.length → Pv i σ H → SqL K H a xs)
    (hs : ∀ i x σ H, xs[i]? = some x → Pv i σ H → g x σ H fun σ2 H2 => tb { D with nx := Pv (i + 1), ct := Pv (i + 1), bk := D.nx } σ2 H2) (hd : ∀ σ H, Pv xs.length σ H → D.nx σ H) :
    ∃ W : Nat → Nat → St → Hp → Prop, (∃ m, W 0 m σ H) ∧ ∀ i m σ H, W i m σ H →
      ((Itl K a).stop i H ∧ D.nx σ H) ∨ ((Itl K a).go i H ∧ ∃ N : St → Hp → Prop, (∀ σ' H', N σ' H' → ∃ m', m' < m ∧ W (i + 1) m' σ' H') ∧ ∀ x H', (Itl K a).yld i H x H' → g x σ H' fun σ2 H2 => tb { D with nx := N, ct := N, bk := D.nx } σ2 H2) := by
  refine ⟨fun i m σ H => m = xs.length - i ∧ i ≤ xs.length ∧ Pv i σ H, ⟨xs.length, by simp, Nat.zero_le _, h0⟩, ?_⟩
  rintro i m σ H ⟨rfl, hi, p⟩
  have q := hl i σ H hi p
  by_cases hlt : i < xs.length
  · refine .inr ⟨⟨xs, xs[i], q, by simp [hlt]⟩, Pv (i + 1), fun σ' H' p' => ⟨xs.length - (i + 1), by omega, rfl, hlt, p'⟩, fun x H' y => ?_⟩
    obtain ⟨e, y⟩ := y
    subst e
    exact hs i x σ _ (y xs q) p
  · have e : i = xs.length := by omega
    subst e
    exact .inl ⟨⟨xs, q, Nat.le_refl _⟩, hd σ H p⟩
end L2

namespace L2
open PySem PySem.Spec PyProof.Rows

abbrev R2 := V → V → Hp → VK → Prop
def OpR (X : Cx) (f : Value → Value → Sem Value) (r : R2) : Prop :=
  ∀ (pins : List (Addr × Obj)) (s : Shared) (σ : St) (H : Hp) (x y : V) (v u : Value) (Q : VK), Inv X pins σ H s → RelV x v → RelV y u → r x y H Q →
    wpAny (model X.prog X.w) X.A (f v u) (EP X pins σ Q) X.xe s
def UnR (X : Cx) (f : Value → Sem Value) (r : V → Hp → VK → Prop) : Prop :=
  ∀ (pins : List (Addr × Obj)) (s : Shared) (σ : St) (H : Hp) (x : V) (v : Value) (Q : VK), Inv X pins σ H s → RelV x v → r x H Q →
    wpAny (model X.prog X.w) X.A (f v) (EP X pins σ Q) X.xe s
def CallR (X : Cx) (f : Value) (r : List V → Hp → VK → Prop) : Prop :=
  ∀ (pins : List (Addr × Obj)) (s : Shared) (σ : St) (H : Hp) (xs : List V) (us : List Value) (Q : VK), Inv X pins σ H s → Vals xs us → r xs H Q →
    wpAny (model X.prog X.w) X.A (call f us) (EP X pins σ Q) X.xe s
def tOp (r : R2) (ta tb : TE) : TE := fun σ H Q => ta σ H fun x H1 => tb σ H1 fun y H2 => r x y H2 Q
def tUn (r : V → Hp → VK → Prop) (ta : TE) : TE := fun σ H Q => ta σ H fun x H1 => r x H1 Q
def rI (C : Int → Int → Prop) (g : Int → Int → V) : R2 := fun x y H Q => ∃ i j, x = .int i ∧ y = .int j ∧ C i j ∧ Q (g i j) H
def rI0 (g : Int → Int → V) : R2 := fun x y H Q => ∃ i j, x = .int i ∧ y = .int j ∧ Q (g i j) H
def rU (g : Int → V) : V → Hp → VK → Prop := fun x H Q => ∃ i, x = .int i ∧ Q (g i) H

section
variable {X : Cx} {a b c : Expr} {ta tb tc : TE} {pos : Pos}

theorem binT (ha : PE X a ta) (hb : PE X b tb) {pins : List (Addr × Obj)} {s : Shared} {σ : St} {H : Hp} {R : V → V → Hp → Prop} (I : Inv X pins σ H s)
    (h : ta σ H fun x H1 => tb σ H1 fun y H2 => R x y H2) {Q : Value → Shared → Prop} {f : Value → Value → Sem Value}
    (hf : ∀ v u s2 x y H2, Inv X pins σ H2 s2 → RelV x v → RelV y u → R x y H2 → wpAny (model X.prog X.w) X.A (f v u) Q X.xe s2) :
    wpAny (model X.prog X.w) X.A (eval a X.env) (fun v s₁ => wpAny (model X.prog X.w) X.A (eval b X.env) (fun u s₂ => wpAny (model X.prog X.w) X.A (f v u) Q X.xe s₂) X.xe s₁) X.xe s := by
  refine thn (ha pins s σ H _ I h) fun v s1 ⟨x, H1, I1, r1, q1⟩ => ?_
  refine thn (hb pins s1 σ H1 _ I1 q1) fun u s2 ⟨y, H2, I2, r2, q2⟩ => ?_
  exact hf v u s2 x y H2 I2 r1 r2 q2

theorem pe_op {op : Operator} {r : R2} (ho : OpR X (binaryOp op) r) (ha : PE X a ta) (hb : PE X b tb) : PE X (.BinOp a op b pos) (tOp r ta tb) := by
  intro pins s σ H Q I h
  exact wpAny_BinOp (binT ha hb I h fun v u s2 x y H2 I2 rx ry q => ho pins s2 σ H2 x y v u Q I2 rx ry q)
theorem pe_un {op : UnaryOp} {r : V → Hp → VK → Prop} (ho : UnR X (unaryOp op) r) (ha : PE X a ta) : PE X (.UnaryOp op a pos) (tUn r ta) := by
  intro pins s σ H Q I h
  exact UnaryOp_ (thn (ha pins s σ H _ I h) fun v s1 ⟨x, H1, I1, r1, q1⟩ => ho pins s1 σ H1 x v Q I1 r1 q1)
theorem opI {f : Value → Value → Sem Value} {C : Int → Int → Prop} {g : Int → Int → Int}
    (rule : ∀ (i j : Int) (t u : Tok) (s : Shared) (Q : Value → Shared → Prop) (E : Value → Shared → Prop), C i j → Q (.int (g i j) s.toks) { s with toks := s.toks + 1 } → wpAny (model X.prog X.w) X.A (f (.int i t) (.int j u)) Q E s) :
    OpR X f (rI C fun i j => .int (g i j)) := by
  intro pins s σ H x y v u Q I rx ry h
  obtain ⟨i, j, rfl, rfl, hc, q⟩ := h
  obtain ⟨t, rfl⟩ := rx
  obtain ⟨t', rfl⟩ := ry
  exact rule i j t t' s _ _ hc ⟨.int (g i j), H, I.tok _, ⟨_, rfl⟩, q⟩
theorem opI0 {f : Value → Value → Sem Value} {g : Int → Int → Int}
    (rule : ∀ (i j : Int) (t u : Tok) (s : Shared) (Q : Value → Shared → Prop) (E : Value → Shared → Prop), Q (.int (g i j) s.toks) { s with toks := s.toks + 1 } → wpAny (model X.prog X.w) X.A (f (.int i t) (.int j u)) Q E s) :
    OpR X f (rI0 fun i j => .int (g i j)) := by
  intro pins s σ H x y v u Q I rx ry h
  obtain ⟨i, j, rfl, rfl, q⟩ := h
  obtain ⟨t, rfl⟩ := rx
  obtain ⟨t', rfl⟩ := ry
  exact rule i j t t' s _ _ ⟨.int (g i j), H, I.tok _, ⟨_, rfl⟩, q⟩
theorem opB0 {f : Value → Value → Sem Value} {g : Int → Int → Bool}
    (rule : ∀ (i j : Int) (t u : Tok) (s : Shared) (Q : Value → Shared → Prop) (E : Value → Shared → Prop), Q (.bool (g i j)) s → wpAny (model X.prog X.w) X.A (f (.int i t) (.int j u)) Q E s) :
    OpR X f (rI0 fun i j => .bl (g i j)) := by
  intro pins s σ H x y v u Q I rx ry h
  obtain ⟨i, j, rfl, rfl, q⟩ := h
  obtain ⟨t, rfl⟩ := rx
  obtain ⟨t', rfl⟩ := ry
  exact rule i j t t' s _ _ ⟨.bl (g i j), H, I, rfl, q⟩

def CDivN (i j : Int) : Prop := j ≠ 0 ∧ j.natAbs < 1073741824
def CPow (i j : Int) : Prop := 0 ≤ j ∧ j ≤ 1000000 ∧ i.natAbs < 2 ^ 64
def CMul (i j : Int) : Prop := (-(2 ^ 64) < i ∧ i < 2 ^ 64) ∨ (-(2 ^ 64) < j ∧ j < 2 ^ 64)
theorem CMul.ok {i j : Int} (h : CMul i j) : IntMulOk i j := by
  rcases h with ⟨h1, h2⟩ | ⟨h1, h2⟩
  · exact .of_left (intBits_le_64 h1 h2)
  · exact .of_right (intBits_le_64 h1 h2)
theorem op_add : OpR X (binaryOp .Add) (rI0 fun i j => .int (i + j)) := opI0 fun _ _ _ _ _ _ _ q => add_int q
theorem op_sub : OpR X (binaryOp .Sub) (rI0 fun i j => .int (i - j)) := opI0 fun _ _ _ _ _ _ _ q => sub_int q
theorem op_fdivN : OpR X (binaryOp .FloorDiv) (rI CDivN fun i j => .int (i.fdiv j)) := opI fun _ _ _ _ _ _ _ hc q => floordiv_int hc.1 q (.inl (PyProof.noPylong_small hc.2))
theorem op_modN : OpR X (binaryOp .Mod) (rI (fun _ j => j ≠ 0) fun i j => .int (i.fmod j)) := opI fun _ _ _ _ _ _ _ hc q => mod_int' hc q
theorem op_pow : OpR X (binaryOp .Pow) (rI CPow fun i j => .int (i ^ j.toNat)) := opI fun _ _ _ _ _ _ _ hc q => pow_int_small hc.1 hc.2.1 hc.2.2 q
theorem unI {f : Value → Sem Value} {g : Int → Int}
    (rule : ∀ (i : Int) (t : Tok) (s : Shared) (Q : Value → Shared → Prop) (E : Value → Shared → Prop), Q (.int (g i) s.toks) { s with toks := s.toks + 1 } → wpAny (model X.prog X.w) X.A (f (.int i t)) Q E s) :
    UnR X f (rU fun i => .int (g i)) := by
  intro pins s σ H x v Q I rx h
  obtain ⟨i, rfl, q⟩ := h
  obtain ⟨t, rfl⟩ := rx
  exact rule i t s _ _ ⟨.int (g i), H, I.tok _, ⟨_, rfl⟩, q⟩
theorem un_neg : UnR X (unaryOp .USub) (rU fun i => .int (-i)) := unI fun _ _ _ _ _ q => neg_int q
end

def scal : V → V → Bool
  | .non, .non => true | .non, .int _ => true | .int _, .non => true | .non, .bl _ => true | .bl _, .non => true | .non, .str _ => true | .str _, .non => true
  | .int _, .int _ => true | .bl _, .bl _ => true | .str _, .str _ => true | .byt _, .byt _ => true
  | .int _, .str _ => true | .str _, .int _ => true | .bl _, .str _ => true | .str _, .bl _ => true
  | _, _ => false
def rEq : R2 := fun x y H Q => scal x y = true ∧ Q (.bl (decide (x = y))) H
def rNe : R2 := fun x y H Q => scal x y = true ∧ Q (.bl (!decide (x = y))) H

theorem dec_int {i j : Int} : decide (V.int i = V.int j) = (i == j) := by
  rw [Bool.eq_iff_iff]
  simp
theorem dec_bl {i j : Bool} : decide (V.bl i = V.bl j) = (i == j) := by
  rw [Bool.eq_iff_iff]
  simp
theorem dec_str {i j : Str} : decide (V.str i = V.str j) = (i == j) := by
  rw [Bool.eq_iff_iff]
  simp
theorem dec_byt {i j : Array UInt8} : decide (V.byt i = V.byt j) = (i.toList == j.toList) := by
  rw [Bool.eq_iff_iff]
  cases i
  cases j
  simp

section
variable {X : Cx} {a b c : Expr} {ta tb tc : TE} {pos : Pos}
theorem fin_bl {pins : List (Addr × Obj)} {σ : St} {H : Hp} {s : Shared} {Q : VK} {k k' : Bool} (I : Inv X pins σ H s) (q : Q (.bl k) H) (e : k = k') : EP X pins σ Q (.bool k') s := by
  subst e
  exact ⟨.bl k, H, I, rfl, q⟩
theorem op_eq : OpR X (compareOp .Eq) rEq := by
  intro pins s σ H x y v u Q I rx ry h
  obtain ⟨hs, q⟩ := h
  cases x with
  | non =>
    cases rx
    cases y with
    | non => cases ry; exact PySem.EqNone.eq_none_none (fin_bl I q (by simp))
    | bl j => cases ry; exact PySem.EqNone.eq_none_bool (fin_bl I q (by simp))
    | int j => obtain ⟨t', rfl⟩ := ry; exact PySem.EqNone.eq_none_int (fin_bl I q (by simp))
    | str j => obtain ⟨t', rfl⟩ := ry; exact PySem.EqNone.eq_none_str (fin_bl I q (by simp))
    | _ => exact absurd (show false = true from hs) Bool.false_ne_true
  | bl i =>
    cases rx
    cases y with
    | non => cases ry; exact PySem.EqNone.eq_bool_none (fin_bl I q (by simp))
    | bl j => cases ry; exact eq_bool (fin_bl I q dec_bl)
    | str j => obtain ⟨t', rfl⟩ := ry; exact PySem.EqMixed.eq_bool_str (fin_bl I q (by simp))
    | _ => exact absurd (show false = true from hs) Bool.false_ne_true
  | int i =>
    obtain ⟨t, rfl⟩ := rx
    cases y with
    | non => cases ry; exact PySem.EqNone.eq_int_none (fin_bl I q (by simp))
    | int j => obtain ⟨t', rfl⟩ := ry; exact eq_int (fin_bl I q dec_int)
    | str j => obtain ⟨t', rfl⟩ := ry; exact PySem.EqMixed.eq_int_str (fin_bl I q (by simp))
    | _ => exact absurd (show false = true from hs) Bool.false_ne_true
  | str i =>
    obtain ⟨t, rfl⟩ := rx
    cases y with
    | non => cases ry; exact PySem.EqNone.eq_str_none (fin_bl I q (by simp))
    | bl j => cases ry; exact PySem.EqMixed.eq_str_bool (fin_bl I q (by simp))
    | int j => obtain ⟨t', rfl⟩ := ry; exact PySem.EqMixed.eq_str_int (fin_bl I q (by simp))
    | str j => obtain ⟨t', rfl⟩ := ry; exact eq_str (fin_bl I q dec_str)
    | _ => exact absurd (show false = true from hs) Bool.false_ne_true
  | byt i =>
    obtain ⟨t, rfl⟩ := rx
    cases y with
    | byt j => obtain ⟨t', rfl⟩ := ry; exact PySem.W.eq_bytes (fin_bl I q dec_byt)
    | _ => exact absurd (show false = true from hs) Bool.false_ne_true
  | _ => cases y <;> exact absurd (show false = true from hs) Bool.false_ne_true
theorem op_ne : OpR X (compareOp .NotEq) rNe := by
  intro pins s σ H x y v u Q I rx ry h
  obtain ⟨hs, q⟩ := h
  cases x with
  | non =>
    cases rx
    cases y with
    | non => cases ry; exact PySem.EqNone.ne_none_none (fin_bl I q (by simp))
    | bl j => cases ry; exact PySem.EqNone.ne_none_bool (fin_bl I q (by simp))
    | int j => obtain ⟨t', rfl⟩ := ry; exact PySem.EqNone.ne_none_int (fin_bl I q (by simp))
    | str j => obtain ⟨t', rfl⟩ := ry; exact PySem.EqNone.ne_none_str (fin_bl I q (by simp))
    | _ => exact absurd (show false = true from hs) Bool.false_ne_true
  | bl i =>
    cases rx
    cases y with
    | non => cases ry; exact PySem.EqNone.ne_bool_none (fin_bl I q (by simp))
    | bl j => cases ry; exact ne_bool (fin_bl I q (congrArg not dec_bl))
    | str j => obtain ⟨t', rfl⟩ := ry; exact PySem.EqMixed.ne_bool_str (fin_bl I q (by simp))
    | _ => exact absurd (show false = true from hs) Bool.false_ne_true
  | int i =>
    obtain ⟨t, rfl⟩ := rx
    cases y with
    | non => cases ry; exact PySem.EqNone.ne_int_none (fin_bl I q (by simp))
    | int j => obtain ⟨t', rfl⟩ := ry; exact ne_int (fin_bl I q (congrArg not dec_int))
    | str j => obtain ⟨t', rfl⟩ := ry; exact PySem.EqMixed.ne_int_str (fin_bl I q (by simp))
    | _ => exact absurd (show false = true from hs) Bool.false_ne_true
  | str i =>
    obtain ⟨t, rfl⟩ := rx
    cases y with
    | non => cases ry; exact PySem.EqNone.ne_str_none (fin_bl I q (by simp))
    | bl j => cases ry; exact PySem.EqMixed.ne_str_bool (fin_bl I q (by simp))
    | int j => obtain ⟨t', rfl⟩ := ry; exact PySem.EqMixed.ne_str_int (fin_bl I q (by simp))
    | str j => obtain ⟨t', rfl⟩ := ry; exact ne_str (fin_bl I q (congrArg not dec_str))
    | _ => exact absurd (show false = true from hs) Bool.false_ne_true
  | byt i =>
    obtain ⟨t, rfl⟩ := rx
    cases y with
    | byt j => obtain ⟨t', rfl⟩ := ry; exact PySem.W.ne_bytes (fin_bl I q (congrArg not dec_byt))
    | _ => exact absurd (show false = true from hs) Bool.false_ne_true
  | _ => cases y <;> exact absurd (show false = true from hs) Bool.false_ne_true

theorem op_lt : OpR X (compareOp .Lt) (rI0 fun i j => .bl (decide (i < j))) := opB0 fun _ _ _ _ _ _ _ q => lt_int q
theorem op_le : OpR X (compareOp .LtE) (rI0 fun i j => .bl (decide (i ≤ j))) := opB0 fun _ _ _ _ _ _ _ q => le_int q
theorem op_gt : OpR X (compareOp .Gt) (rI0 fun i j => .bl (decide (j < i))) := opB0 fun _ _ _ _ _ _ _ q => gt_int q
theorem op_ge : OpR X (compareOp .GtE) (rI0 fun i j => .bl (decide (j ≤ i))) := opB0 fun _ _ _ _ _ _ _ q => ge_int q
theorem op_notin_str : OpR X (compareOp .NotIn) (fun x y H Q => ∃ i j, x = .str i ∧ y = .str j ∧ Q (.bl (!(!(Builtin.Str.occurrences j i 0 j.length 1).isEmpty))) H) := by
  intro pins s σ H x y v u Q I rx ry h
  obtain ⟨i, j, rfl, rfl, q⟩ := h
  obtain ⟨t, rfl⟩ := rx
  obtain ⟨t', rfl⟩ := ry
  exact notIn_str (fin_bl I q rfl)
theorem OpR.or {f : Value → Value → Sem Value} {r r' : R2} (h : OpR X f r) (h' : OpR X f r') : OpR X f (fun x y H Q => r x y H Q ∨ r' x y H Q) := by
  intro pins s σ H x y v u Q I rx ry q
  rcases q with q | q
  · exact h pins s σ H x y v u Q I rx ry q
  · exact h' pins s σ H x y v u Q I rx ry q

theorem nomark (b : Expr) {op : CmpOp} (h : op ≠ .In := by decide) (h2 : op ≠ .NotIn := by decide) : behindInMarks op b = false := by
  have e1 : (op == CmpOp.In) = false := by cases op <;> first | rfl | exact absurd rfl h
  have e2 : (op == CmpOp.NotIn) = false := by cases op <;> first | rfl | exact absurd rfl h2
  cases b <;> simp [behindInMarks, e1, e2]
theorem pe_cmpR {op : CmpOp} {r : R2} (ho : OpR X (compareOp op) r) (ha : PE X a ta) (hb : PE X b tb) (hm : behindInMarks op b = false) : PE X (.Compare a [op] [b] pos) (tOp r ta tb) := by
  intro pins s σ H Q I h
  exact wpAny_Compare1 (binT ha hb I h fun v u s2 x y H2 I2 rx ry q => ho pins s2 σ H2 x y v u Q I2 rx ry q) hm
def tTest (t : TE) : TT := fun σ H Q => t σ H fun x H' => ∃ k, x = .bl k ∧ Q k H'
theorem pt_cmpR {op : CmpOp} {r : R2} (ho : OpR X (compareOp op) r) (ha : PE X a ta) (hb : PE X b tb) (hm : behindInMarks op b = false) : PT X (.Compare a [op] [b] pos) (tTest (tOp r ta tb)) := by
  intro pins s σ H Q I h
  refine wpAny_isTrue_Compare1 (thn (ha pins s σ H _ I h) fun v s1 ⟨x, H1, I1, r1, q1⟩ => thn (hb pins s1 σ H1 _ I1 q1) fun u s2 ⟨y, H2, I2, r2, q2⟩ =>
    thn (ho pins s2 σ H2 x y v u _ I2 r1 r2 q2) fun c s3 ⟨z, H3, I3, r3, k, e, q3⟩ => ?_) hm
  subst e
  cases r3
  exact wpAny_truthy_bool ⟨H3, I3, q3⟩
def tChain (r r' : R2) (ta tb tc : TE) : TE := fun σ H Q => ta σ H fun x H1 => tb σ H1 fun y H2 => r x y H2 fun z H3 => ∃ k, z = .bl k ∧
  (if k = true then tc σ H3 fun w' H4 => r' y w' H4 Q else Q (.bl false) H3)
theorem pt_chain {op op' : CmpOp} {r r' : R2} (ho : OpR X (compareOp op) r) (ho' : OpR X (compareOp op') r') (ha : PE X a ta) (hb : PE X b tb) (hc : PE X c tc)
    (hm : lastMarks [op, op'] [b, c] = false := by with_unfolding_all rfl) : PT X (.Compare a [op, op'] [b, c] pos) (tTest (tChain r r' ta tb tc)) := by
  intro pins s σ H Q I h
  refine isTrue_chain (thn (ha pins s σ H _ I h) fun v s1 ⟨x, H1, I1, r1, q1⟩ => test_link (thn (hb pins s1 σ H1 _ I1 q1) fun u s2 ⟨y, H2, I2, r2, q2⟩ =>
    thn (ho pins s2 σ H2 x y v u _ I2 r1 r2 q2) fun d s3 ⟨z, H3, I3, r3, k, e, q3⟩ => ?_)) hm
  subst e
  cases r3
  refine wpAny_truthy_bool ?_
  cases k with
  | false =>
    obtain ⟨k', e', q'⟩ := q3
    cases e'
    exact ite_ff ⟨H3, I3, q'⟩
  | true =>
    refine ite_tt (test_last (thn (hc pins s3 σ H3 _ I3 q3) fun w' s4 ⟨z', H4, I4, r4, q4⟩ => thn (ho' pins s4 σ H4 y z' u w' _ I4 r2 r4 q4) fun d' s5 ⟨z2, H5, I5, r5, k2, e2, q5⟩ => ?_))
    subst e2
    cases r5
    exact wpAny_truthy_bool ⟨H5, I5, q5⟩

theorem line63 : (sizeLine : Nat) < 2 ^ 63 := by rw [sizeLine_eq]; decide
theorem op_add_str : OpR X (binaryOp .Add) (fun x y H Q => ∃ i j, x = .str i ∧ y = .str j ∧ i.length + j.length ≤ sizeLine ∧ Q (.str (i ++ j)) H) := by
  intro pins s σ H x y v u Q I rx ry h
  obtain ⟨i, j, rfl, rfl, hz, q⟩ := h
  obtain ⟨t, rfl⟩ := rx
  obtain ⟨t', rfl⟩ := ry
  exact add_str (fun t' tk => ⟨.str (i ++ j), H, I.tok _, ⟨_, rfl⟩, q⟩) hz
def PlainIxT (b : Expr) : Prop := ∀ o i, subscripted b false o i = operate [o, i] (getItem o i)
theorem pe_item_str (ha : PE X a ta) (hb : PE X b tb) (hs : PlainIxT b) :
    PE X (.Subscript a b pos) (tOp (fun x y H Q => ∃ z i c, x = .str z ∧ y = .int i ∧ 0 ≤ i ∧ i < 2 ^ 63 ∧ i < z.length ∧ z.cps[i.toNat]? = some c ∧ Q (.str ⟨#[c]⟩) H) ta tb) := by
  intro pins s σ H Q I h
  refine Subscript_ (binT ha hb I h fun v u s2 x y H2 I2 rx ry q => ?_)
  obtain ⟨z, i, c, rfl, rfl, h0, h63, h1, hc, q⟩ := q
  obtain ⟨t, rfl⟩ := rx
  obtain ⟨t', rfl⟩ := ry
  have e : seqIndex? i z.length = some i.toNat := PySem.StrLaws.seqIndex_nonneg h0 h1
  exact tail_any (typeIs_str s2 z t) slot_str_getitem.lookup (getItem_str (c := c) (by
    have e1 : decide (i < -(2 ^ 63 : Int)) = false := decide_eq_false (by omega)
    have e2 : decide (i ≥ 2 ^ 63) = false := decide_eq_false (by omega)
    rw [e1, e2] <;> rfl) (by rw [e]; exact hc) ⟨.str ⟨#[c]⟩, H2, I2.tok _, ⟨_, rfl⟩, q⟩) (hs _ _)
theorem vals1 {x : V} {us : List Value} (r : Vals [x] us) : ∃ u, us = [u] ∧ RelV x u := by
  cases r with
  | cons r1 r2 => cases r2; exact ⟨_, rfl, r1⟩
theorem call_str_int : CallR X (.type "str") (fun xs H Q => ∃ i, xs = [.int i] ∧ i.natAbs.log2 < 1920 ∧ Q (.str (toString i)) H) := by
  intro pins s σ H xs us Q I r h
  obtain ⟨i, rfl, hz, q⟩ := h
  obtain ⟨u, rfl, t, rfl⟩ := vals1 r
  exact PySem.P.str_of_int hz ⟨.str _, H, I.tok _, ⟨_, rfl⟩, q⟩
end
end L2

namespace L2
open PySem PySem.Spec PyProof.Rows

structure ObjM (h : Heap) (x dx C : Addr) (mA : Str → Option Value) : Prop where
  obj : h.get? x = some (PySem.W.instObj C dx)
  ns : h.Ns1 dx mA
  ne : dx ≠ x

theorem lookIn_ns {h : Heap} {dx : Addr} {mA : Str → Option Value} (n : h.Ns1 dx mA) : ∃ od, h.get? dx = some od ∧ ∀ name, PySem.W.lookIn name od = some (mA name) := by
  obtain ⟨o, es, ep, ho, hd, hk, _, hm⟩ := n
  refine ⟨o, ho, fun name => ?_⟩
  have e := hm name
  unfold nsFind findBy at e
  rw [← Array.find?_toList] at e
  unfold PySem.W.lookIn
  rw [hd]
  dsimp only
  split
  · rename_i y q
    rw [q] at e
    exact congrArg some e
  · rename_i q
    rw [q] at e
    have a : es.toList.any (·.refKey) = false := by
      rw [List.any_eq_false]
      intro y hy
      obtain ⟨z, t, hkey⟩ := hk y (Array.mem_toList_iff.mp hy)
      simp [DictEntry.refKey, hkey]
    have a' : ¬ es.toList.any (·.refKey) = true := by rw [a]; exact Bool.false_ne_true
    rw [if_neg a']
    exact congrArg some e

theorem ObjM.look {h : Heap} {x dx C : Addr} {mA : Str → Option Value} (I : ObjM h x dx C mA) : ∃ od, PySem.W.InstAt h x (PySem.W.instObj C dx) C (some od) ∧ ∀ name, PySem.W.lookIn name od = some (mA name) :=
  let ⟨od, ho, hl⟩ := lookIn_ns I.ns
  ⟨od, ⟨I.obj, rfl, rfl, ho⟩, hl⟩

section
variable {prog : Program} {w : World} {A : Around} {E : Value → Shared → Prop} {s : Shared} {K : PySem.W.Frag} {x dx C f : Addr} {mA : Str → Option Value} {name : Str} {v : Value}

end

section
variable {P : Program} {w : World} {H H' : Hp} {h h' : Heap} {a C dx : Addr} {fs fs' : List (Str × V)}
theorem ins_get (hok : HOk P w H h) (e : H a = some (.ins C dx fs)) : ∃ mA, ObjM h a dx C mA ∧ (∀ f, RelO (fs.lookup f) (mA f)) ∧ PySem.Within mA (fs.map (·.1)) ∧ fs.length ≤ 1000 ∧ H dx = some (.own a) := by
  obtain ⟨d, z, ne, ob, mA, n, r, q⟩ := (show ObjOk P w H h a (.ins C dx fs) from hok a _ e)
  exact ⟨mA, ⟨ob, n, ne⟩, r, q, z, d⟩
end

structure Cls (K : PySem.W.Frag) (C : Addr) : Prop where
  pg : PySem.W.plainGet K C Str.empty = true
  hd : PySem.W.hasDictIn K C = true
  po : PySem.W.plainOver K C = true
  sa : PySem.W.findIn K (.ref C) "__setattr__" = some (some (.builtin "object.__setattr__"))
theorem Cls.get {K : PySem.W.Frag} {C : Addr} (c : Cls K C) (f : Str) : PySem.W.plainGet K C f = true := c.pg
structure Meth (K : PySem.W.Frag) (C : Addr) (m : Str) (f : Addr) : Prop where
  at_ : PySem.W.findIn K (.ref C) m = some (some (.ref f))
  fn : PySem.W.isFn K (.ref f) = true
  kp : PySem.W.keepIn K (.ref f) = true

section
variable {X : Cx} {pins : List (Addr × Obj)} {σ : St} {H : Hp} {s : Shared} {a C dx : Addr} {fs : List (Str × V)} {f : Str} {v : V} {A : Around} {E : Value → Shared → Prop}

end

section
variable {X : Cx} {o e value : Expr} {f : Str} {pos pos' tpos : Pos} {ta tv : TE}
end

section
variable {X : Cx} {pins : List (Addr × Obj)} {σ : St} {H : Hp} {s : Shared} {A : Around} {E : Value → Shared → Prop} {Q : Value → Shared → Prop} {c : Value} {b : Bool}
inductive TyOf (K : PySem.W.Frag) (H : Hp) : V → Value → Prop where
  | non : TyOf K H .non (.type "NoneType")
  | bl (x : Bool) : TyOf K H (.bl x) (.type "bool")
  | int (i : Int) : TyOf K H (.int i) (.type "int")
  | str (x : Str) : TyOf K H (.str x) (.type "str")
  | flt (x : UInt64) : TyOf K H (.flt x) (.type "float")
  | lst {a : Addr} {xs : List V} (e : H a = some (.lst xs)) : TyOf K H (.ref a) (.type "list")
  | frz {a : Addr} {o : Obj} {xs : List V} (e : H a = some (.frz o (.lst xs))) : TyOf K H (.ref a) (.type "list")
  | tup {a : Addr} {xs : List V} (e : H a = some (.tup xs)) : TyOf K H (.ref a) (.type "tuple")
  | dK {a : Addr} {kvs : List (Key × V)} (e : H a = some (.dK kvs)) : TyOf K H (.ref a) (.type "dict")
  | dT {a : Addr} {kvs : List (List Key × V)} (e : H a = some (.dT kvs)) : TyOf K H (.ref a) (.type "dict")
  | ins {a C dx : Addr} {fs : List (Str × V)} (e : H a = some (.ins C dx fs)) (cl : Cls K C) (ha : PySem.W.findIn K (.ref C) "__class__" = some (some (.builtin "object.__class__")))
      (hn : PySem.W.specialIn K (.builtin "object.__class__") "__get__" = some (some (.builtin "getset_descriptor.__get__"))) (htk : PySem.W.takesIn K (.builtin "object.__class__") = some true)
      (hm : PySem.W.mroIn K C (.type "object") = some true) : TyOf K H (.ref a) (.ref C)
theorem isinst_ok {x : V} {u t : Value} (I : Inv X pins σ H s) (rx : RelV x u) (ty : TyOf X.K H x t) (e : PySem.W.kitOne X.K t c = some b) (h : ∀ tk, Q (.bool b) { s with toks := tk }) :
    wpAny (model X.prog X.w) A (call (.builtin "isinstance") [u, c]) Q E s := by
  cases ty with
  | non => cases (show u = Value.none from rx); exact PySem.W.kia_one PySem.W.kitx_none I.kIn True.intro e (fun z => nomatch z) h
  | bl y => cases (show u = Value.bool y from rx); exact PySem.W.kia_one PySem.W.kitx_bool I.kIn True.intro e (fun z => nomatch z) h
  | int i => obtain ⟨t, q⟩ := (show ∃ t, u = Value.int i t from rx); cases q; exact PySem.W.kia_one PySem.W.kitx_int I.kIn True.intro e (fun z => nomatch z) h
  | str y => obtain ⟨t, q⟩ := (show ∃ t, u = Value.str y t from rx); cases q; exact PySem.W.kia_one PySem.W.kitx_str I.kIn True.intro e (fun z => nomatch z) h
  | flt y => obtain ⟨t, q⟩ := (show ∃ t, u = Value.float y t from rx); cases q; exact PySem.W.kia_one PySem.W.kitx_float I.kIn True.intro e (fun z => nomatch z) h
  | @lst a xs ea =>
    cases (show u = Value.ref a from rx)
    obtain ⟨_, _, n, _, h1⟩ := (show ObjOk X.prog X.w H s.heap a (.lst xs) from I.hok a _ ea)
    exact PySem.W.kia_one PySem.W.kitx_list I.kIn ⟨_, h1, rfl⟩ e (fun z => nomatch z) h
  | @frz a ob xs ea =>
    cases (show u = Value.ref a from rx)
    obtain ⟨_, _, _, n, _, h1⟩ := (show ObjOk X.prog X.w H s.heap a (.frz ob (.lst xs)) from I.hok a _ ea)
    exact PySem.W.kia_one PySem.W.kitx_list I.kIn ⟨_, h1, rfl⟩ e (fun z => nomatch z) h
  | @tup a xs ea =>
    cases (show u = Value.ref a from rx)
    obtain ⟨_, _, _, p⟩ := (show ObjOk X.prog X.w H s.heap a (.tup xs) from I.hok a _ ea)
    obtain ⟨o, h1, h2, _⟩ := p
    exact PySem.W.kia_one PySem.W.kitx_tuple I.kIn ⟨o, h1, h2⟩ e (fun z => nomatch z) h
  | @dK a kvs ea =>
    cases (show u = Value.ref a from rx)
    obtain ⟨_, _, vs, _, p⟩ := (show ObjOk X.prog X.w H s.heap a (.dK kvs) from I.hok a _ ea)
    obtain ⟨o, es, ep, h1, h2, _⟩ := p
    exact PySem.W.kia_one PySem.W.kitx_dict I.kIn ⟨o, h1, h2.1⟩ e (fun z => nomatch z) h
  | @dT a kvs ea =>
    cases (show u = Value.ref a from rx)
    obtain ⟨_, _, xs, _, o, es, ep, h1, h2, _⟩ := (show ObjOk X.prog X.w H s.heap a (.dT kvs) from I.hok a _ ea)
    exact PySem.W.kia_one PySem.W.kitx_dict I.kIn ⟨o, h1, h2.1⟩ e (fun z => nomatch z) h
  | @ins a C dx fs ea cl ha hn htk hm =>
    cases (show u = Value.ref a from rx)
    obtain ⟨mA, O, _⟩ := ins_get I.hok ea
    obtain ⟨od, J, _⟩ := O.look
    exact PySem.W.kia_one (PySem.W.kitx_own (cl.get _) cl.hd ha hn htk hm) I.kIn J e (fun z => nomatch z) h
end
end L2

namespace L2
open PySem PySem.Spec PyProof.Rows

structure Room (k : Nat) (A : Around) : Prop where
  hd : A.handled = none
  dp : A.depth + 3 * k + 5 < recursionLimit
  un : A.units + 16 * k + 200 < cLine
theorem Room.mono {j k : Nat} {A : Around} (r : Room k A) (h : j ≤ k) : Room j A := ⟨r.hd, by have := r.dp; omega, by have := r.un; omega⟩
theorem Room.deeper {k : Nat} {A : Around} (r : Room (k + 1) A) (env : Env) : Room k (A.deeper env) :=
  ⟨r.hd, by have := r.dp; show A.depth + 1 + 3 * k + 5 < _; omega, by have := r.un; show A.units + 3 + 16 * k + 200 < _; omega⟩
theorem Room.in1 {k : Nat} {A : Around} (r : Room (k + 1) A) : Room k A.in1 :=
  ⟨r.hd, by have := r.dp; show A.depth + 3 * k + 5 < _; omega, by have := r.un; show A.units + 1 + 16 * k + 200 < _; omega⟩
theorem Room.depth {k : Nat} {A : Around} (r : Room k A) : A.depth < recursionLimit := by have := r.dp; omega
theorem Room.units {k : Nat} {A : Around} (r : Room k A) : A.units + 64 < cLine := by have := r.un; omega
def tNil : TA := fun _ H Q => Q [] H
def tCons (ta : TE) (tr : TA) : TA := fun σ H Q => ta σ H fun x H1 => tr σ H1 fun xs H2 => Q (x :: xs) H2
section
variable {X : Cx} {e : Expr} {es : List Expr} {te : TE} {t : TA} {pos : Pos}
theorem pa_nil : PA X [] tNil := fun _ _ _ _ H Q I h => Calls.spliced_nil ⟨[], H, I, .nil, h⟩
theorem pa_cons (ha : PE X e te) (hr : PA X es t) (hs : starEach (e :: es) X.env = (false, eval e X.env) :: starEach es X.env := by rfl) : PA X (e :: es) (tCons te t) := by
  intro pos pins s σ H Q I h
  rw [hs]
  show wpAny _ _ (spliced ((false, eval e X.env) :: backTo pos (starEach es X.env))) _ _ s
  refine Calls.spliced_cons (thn (ha pins s σ H _ I h) fun u s1 ⟨x, H1, I1, r1, q1⟩ => ?_)
  exact thn (hr pos pins s1 σ H1 _ I1 q1) fun us s2 ⟨xs, H2, I2, r2, q2⟩ => ⟨x :: xs, H2, I2, .cons r1 r2, q2⟩

def tTup (t : TA) : TE := fun σ H Q => t σ H fun xs H1 => xs.length ≤ sizeLine ∧ ∀ p, H1 p = none → Q (.ref p) (upd H1 p (.tup xs))
def tLst (t : TA) : TE := fun σ H Q => t σ H fun xs H1 => xs.length ≤ sizeLine ∧ ∀ p, H1 p = none → Q (.ref p) (upd H1 p (.lst xs))
theorem pe_tup {x1} (h : PA X es t) : PE X (.Tuple es x1 pos) (tTup t) := by
  intro pins s σ H Q I hq
  refine wpAny_Tuple_spliced (thn (h pos pins s σ H _ I hq) fun us s1 ⟨xs, H1, I1, r, z, q⟩ => ⟨by rw [← r.length]; exact z, ?_⟩)
  have hf : H1 s1.heap.objs.size = none := I1.hok.fresh (Nat.le_refl _)
  refine ⟨.ref s1.heap.objs.size, upd H1 s1.heap.objs.size (.tup xs), I1.laid (t' := s1.toks) (fun b u e => Heap.get?_push_of_some _ e) (Nat.le_refl _) ?_, rfl, q _ hf⟩
  exact ⟨z, us, r, ⟨_, Heap.get?_push_size _ rfl, rfl, _, rfl⟩⟩
theorem pe_lst (h : PA X es t) : PE X (.List es pos) (tLst t) := by
  intro pins s σ H Q I hq
  refine wpAny_List_spliced (thn (h pos pins s σ H _ I hq) fun us s1 ⟨xs, H1, I1, r, z, q⟩ => ⟨by rw [← r.length]; exact z, ?_⟩)
  have hf : H1 s1.heap.objs.size = none := I1.hok.fresh (Nat.le_refl _)
  refine ⟨.ref s1.heap.objs.size, upd H1 s1.heap.objs.size (.lst xs), I1.laid (t' := s1.toks) (fun b u e => Heap.get?_push_of_some _ e) (Nat.le_refl _) ?_, rfl, q _ hf⟩
  exact ⟨z, us, 0, r, Heap.get?_push_size _ rfl⟩
end

abbrev Sp := List V → Hp → VK → XK → Prop
abbrev CXT := List Env → Hp → Shared → XK → Value → Shared → Prop

structure Env0 (P : Program) (w : World) (K : PySem.W.Frag) (mg : Str → Option Value) (base : Heap) (A : Around) (outer : List Env) (s : Shared) (H : Hp) : Prop where
  frames : A.frames = some outer
  mod : Mod K mg base
  bs : ∀ b o, base.get? b = some o → s.heap.get? b = some o ∧ H b = none
  bsz : base.objs.size ≤ s.heap.objs.size
  funs : s.heap.FunFrames base outer
  frf : ∀ b ∈ frs outer, H b = none
  hok : HOk P w H s.heap
  bare : AllBare s.gens
def CE (outer : List Env) (P : Program) (w : World) (H : Hp) (s : Shared) (Q : VK) (u : Value) (s' : Shared) : Prop :=
  ∃ v H', s'.os = s.os ∧ AllBare s'.gens ∧ Un (frs outer) [] H H' s.heap s'.heap ∧ HOk P w H' s'.heap ∧ RelV v u ∧ Q v H'
def CR (CX : CXT) (outer : List Env) (P : Program) (w : World) (H : Hp) (s : Shared) (Q : VK) (E : XK) (r : Result) (s' : Shared) : Prop :=
  match r with
  | .ok (.ret u) => CE outer P w H s Q u s'
  | .ok _ => False
  | .error e => CX outer H s E e s'
structure FnOk (P : Program) (w : World) (K : PySem.W.Frag) (mg : Str → Option Value) (base : Heap) (CX : CXT) (k : Nat) (f : Addr) (fd : FuncData) (ps : List Str) (sp : Sp) : Prop where
  len : ∀ vs H Q E, sp vs H Q E → vs.length = ps.length
  run : ∀ (A : Around) (outer : List Env) (s : Shared) (H : Hp) (args : Args) (us : List Value) (vs : List V) (Q : VK) (E : XK), Room k A → Env0 P w K mg base A outer s H → BindsTo s fd args (ps.zip us) → Vals vs us → sp vs H Q E →
    codeAny (model P w) A (.call (.ref f) args) (CR CX outer P w H s Q E) s
theorem FnOk.mono {P : Program} {w : World} {K : PySem.W.Frag} {mg : Str → Option Value} {base : Heap} {CX : CXT} {j k : Nat} {f : Addr} {fd : FuncData} {ps : List Str} {sp : Sp} (F : FnOk P w K mg base CX j f fd ps sp) (h : j ≤ k) :
    FnOk P w K mg base CX k f fd ps sp := ⟨F.len, fun A outer s H args us vs Q E hr => F.run A outer s H args us vs Q E (hr.mono h)⟩
theorem Env0.in1 {P : Program} {w : World} {K : PySem.W.Frag} {mg : Str → Option Value} {base : Heap} {A : Around} {outer : List Env} {s : Shared} {H : Hp} (e : Env0 P w K mg base A outer s H) :
    Env0 P w K mg base A.in1 outer s H := ⟨e.frames, e.mod, e.bs, e.bsz, e.funs, e.frf, e.hok, e.bare⟩

section
variable {X : Cx} {pins : List (Addr × Obj)} {σ : St} {H : Hp} {s s' : Shared}
theorem Inv.env0 (I : Inv X pins σ H s) : Env0 X.prog X.w X.K X.mg X.base X.A X.stack s H :=
  ⟨I.ok.frames, I.ok.mod, I.bs, Nat.le_trans I.ok.bsz I.sz, I.stack, I.stkFree, I.hok, I.bare⟩
theorem Inv.after {Q : VK} {u : Value} (I : Inv X pins σ H s) (h : CE X.stack X.prog X.w H s Q u s') : EP X pins σ Q u s' := by
  obtain ⟨v, H', os, bare, un, hok, r, q⟩ := h
  obtain ⟨hh, g, d, t, os'⟩ := s'
  obtain rfl : os' = s.os := os
  exact ⟨v, H', I.call (h' := hh) (g' := g) (d' := d) (t' := t) (ch := []) un hok bare (fun b z => absurd z (by simp)), r, q⟩
end

def tCall (sp : Sp) (dvs : List V) (E : XK) (t : TA) : TE := fun σ H Q => t σ H fun vs H1 => sp (vs ++ dvs) H1 Q E
def Binds (K : PySem.W.Frag) (fd : FuncData) (ps : List Str) (ds : List Value) : Prop :=
  ∀ (s : Shared) (us : List Value), K.In s.heap → (us ++ ds).length = ps.length → BindsTo s fd ⟨us, []⟩ (ps.zip (us ++ ds))
theorem Binds.all {K : PySem.W.Frag} {fd : FuncData} {ps : List Str} (h : ∀ us : List Value, us.length = ps.length → bindArgs fd ⟨us, []⟩ = pure (ps.zip us)) : Binds K fd ps [] := fun s us _ hl => by
  rw [List.append_nil] at hl ⊢
  exact .of_eq (h us hl)

def Passes (CX : CXT) (X : Cx) (E : XK) : Prop := ∀ (pins : List (Addr × Obj)) (σ : St) (H : Hp) (s : Shared) (e : Value) (s' : Shared), Inv X pins σ H s → CX X.stack H s E e s' → X.xe e s'

section
variable {X : Cx} {CX : CXT} {k : Nat} {f C : Addr} {fd : FuncData} {ps : List Str} {sp : Sp} {dvs : List V} {ds : List Value} {E : XK} {x m : Str} {p pos apos : Pos} {e o : Expr} {es : List Expr} {ta : TE} {t : TA}

theorem run_fn {pins : List (Addr × Obj)} {σ : St} {H : Hp} {s : Shared} {Q : VK} {us : List Value} {vs : List V} (F : FnOk X.prog X.w X.K X.mg X.base CX k f fd ps sp) (hr : Room k X.A) (hb : Binds X.K fd ps ds) (hd : Vals dvs ds) (hx : Passes CX X E)
    (I : Inv X pins σ H s) (r : Vals vs us) (h : sp (vs ++ dvs) H Q E) : wpAny (model X.prog X.w) X.A (call (.ref f) us) (EP X pins σ Q) X.xe s := by
  have r2 : Vals (vs ++ dvs) (us ++ ds) := r.append hd
  have hl : (us ++ ds).length = ps.length := by rw [← r2.length]; exact F.len _ _ _ _ h
  refine wpAny_call (codeAny_mono (F.run X.A X.stack s H ⟨us, []⟩ (us ++ ds) (vs ++ dvs) Q E hr I.env0 (hb s us I.kIn hl) r2 h) fun r s' hq => ?_)
  cases r with
  | error e => exact hx pins σ H s e s' I hq
  | ok fl =>
    cases fl with
    | ret u => exact I.after hq
    | next => exact False.elim hq
    | brk => exact False.elim hq
    | cont => exact False.elim hq

theorem pe_call (F : FnOk X.prog X.w X.K X.mg X.base CX k f fd ps sp) (hr : Room k X.A) (hg : Gl X x) (hm : X.mg x = some (.ref f)) (hk : PySem.W.keepIn X.K (.ref f) = true) (hb : Binds X.K fd ps ds) (hd : Vals dvs ds) (hx : Passes CX X E)
    (ha : PA X (e :: es) t) (hdb : (x == ("__debug__" : Str)) = false := by decide) (he : starEach (e :: es) X.env = (false, eval e X.env) :: starEach es X.env := by rfl) (hpl : (backTo pos (starEach es X.env)).any (·.1) = false := by rfl) :
    PE X (.Call (.Name x p) (e :: es) [] pos) (tCall sp dvs E t) := by
  intro pins s σ H Q I h
  refine wpAny_Call_Name_kw (ld_glob I hg hm ?_ hdb)
  refine PySem.W.callWith_K (h₀ := X.base) I.ok.mod.kin hk (thn (ha pos pins s σ H _ I h) fun us s1 ⟨vs, H1, I1, r, q⟩ => ⟨I1.kIn, ?_⟩) he hpl
  exact run_fn F hr hb hd hx I1 r q
end

section
variable {X : Cx} {CX : CXT} {k : Nat} {f C : Addr} {fd : FuncData} {ps ks : List Str} {sp : Sp} {E : XK} {x m : Str} {p pos apos kpos : Pos} {e o : Expr} {es : List Expr} {kws : List Keyword} {te ta : TE} {t tk : TA} {nm : Option Str}
variable {g : List Value → List Value → List Value} {gV : List V → List V → List V}
end

structure FnScope (N P : List Str) (sc : Scope) : Prop where
  kind : sc.kind = .function
  co : sc.isCoroutine = false
  gen : sc.isGenerator = false
  nd : N.Nodup
  pre : N.take P.length = P
  par : ∀ x ∈ P, sc.names.lookup x = some .local ∨ sc.names.lookup x = some .cell
  nofree : ∀ y ∈ sc.names, y.2 ≠ .free

theorem bindL_out {kindOf : Str → Option NameKind} {x : Str} : ∀ {binds : List (Str × Value)} {m : Str → Option Value}, (∀ v, (x, v) ∉ binds) → bindL kindOf binds m x = m x
  | [], _, _ => rfl
  | (n, v) :: r, m, h => by
    unfold bindL
    rw [bindL_out fun w hw => h w (List.mem_cons_of_mem _ hw)]
    split
    · have : x ≠ n := by rintro rfl; exact h v List.mem_cons_self
      simp [this]
    · rfl
theorem bindC_out {kindOf : Str → Option NameKind} {x : Str} : ∀ {binds : List (Str × Value)} {m : Str → Option Value}, (∀ v, (x, v) ∉ binds) → bindC kindOf binds m x = m x
  | [], _, _ => rfl
  | (n, v) :: r, m, h => by
    unfold bindC
    rw [bindC_out fun w hw => h w (List.mem_cons_of_mem _ hw)]
    split
    · rfl
    · have : x ≠ n := by rintro rfl; exact h v List.mem_cons_self
      simp [this]
theorem bindL_get {kindOf : Str → Option NameKind} {x : Str} {v : Value} : ∀ {P : List Str} {vs : List Value} {i : Nat} {m : Str → Option Value}, P.Nodup → P[i]? = some x → vs[i]? = some v → kindOf x = some .local →
    bindL kindOf (P.zip vs) m x = some v
  | [], _, _, _, _, h, _, _ => by simp at h
  | _ :: _, [], _, _, _, _, h, _ => by simp at h
  | p :: P, w :: vs, 0, m, nd, h1, h2, hk => by
    simp at h1 h2; subst h1; subst h2
    show bindL kindOf ((p, w) :: P.zip vs) m p = _
    unfold bindL
    rw [bindL_out fun v hv => (List.nodup_cons.mp nd).1 (List.of_mem_zip hv).1, if_pos hk]
    simp
  | p :: P, w :: vs, i + 1, m, nd, h1, h2, hk => by
    show bindL kindOf ((p, w) :: P.zip vs) m x = _
    unfold bindL
    exact bindL_get (i := i) (List.nodup_cons.mp nd).2 (by simpa using h1) (by simpa using h2) hk
theorem bindC_get {kindOf : Str → Option NameKind} {x : Str} {v : Value} : ∀ {P : List Str} {vs : List Value} {i : Nat} {m : Str → Option Value}, P.Nodup → P[i]? = some x → vs[i]? = some v → kindOf x ≠ some .local →
    bindC kindOf (P.zip vs) m x = some v
  | [], _, _, _, _, h, _, _ => by simp at h
  | _ :: _, [], _, _, _, _, h, _ => by simp at h
  | p :: P, w :: vs, 0, m, nd, h1, h2, hk => by
    simp at h1 h2; subst h1; subst h2
    show bindC kindOf ((p, w) :: P.zip vs) m p = _
    unfold bindC
    rw [bindC_out fun v hv => (List.nodup_cons.mp nd).1 (List.of_mem_zip hv).1, if_neg hk]
    simp
  | p :: P, w :: vs, i + 1, m, nd, h1, h2, hk => by
    show bindC kindOf ((p, w) :: P.zip vs) m x = _
    unfold bindC
    exact bindC_get (i := i) (List.nodup_cons.mp nd).2 (by simpa using h1) (by simpa using h2) hk

def start (N : List Str) (vs : List V) : St := vs.map some ++ List.replicate (N.length - vs.length) none

def cxOf (CX : CXT) (P : Program) (w : World) (K : PySem.W.Frag) (mg : Str → Option Value) (base : Heap) (N : List Str) (qual : Str) (scope : Scope) (f : Addr) (cd : Value) (A : Around) (outer : List Env) (s : Shared) (H : Hp) (E : XK) : Cx where
  prog := P
  w := w
  K := K
  mg := mg
  base := base
  A := A.deeper (envOfC qual scope s.heap.objs.size f cd)
  N := N
  s₀ := s
  H₀ := H
  env := envOfC qual scope s.heap.objs.size f cd
  outer := outer
  stack := envOfC qual scope s.heap.objs.size f cd :: outer
  ex := []
  calm := true
  fn := fun _ => true
  pn := []
  xe := fun e s' => wpAny (model P w) (A.deeper (envOfC qual scope s.heap.objs.size f cd)) (leaving (envOfC qual scope s.heap.objs.size f cd) e) (fun _ s'' => CX outer H s E e s'') (fun e' s'' => CX outer H s E e' s'') s'

theorem cell_has {sc : Scope} {n : Nat} {x : Str} (h : sc.names.lookup x = some .cell) : ∃ c, (cellsFrom n sc.names []).lookup x = some c := by
  have q := PySem.W.cellsFrom_some sc.names n [] (.inl h)
  exact Option.isSome_iff_exists.mp q

theorem inv_start {CX : CXT} {P : Program} {w : World} {K : PySem.W.Frag} {mg : Str → Option Value} {base : Heap} {N ps : List Str} {qual : Str} {scope : Scope} {f : Addr} {cd : Value} {A : Around} {outer : List Env} {s s1 : Shared} {H : Hp} {E : XK} {us : List Value} {vs : List V}
    (S : FnScope N ps scope) (hd : A.handled = none) (e0 : Env0 P w K mg base A outer s H) (hl : vs.length = ps.length) (r : Vals vs us)
    (x : InCallC s s.heap.objs.size (bindL (envOfC qual scope s.heap.objs.size f cd).kindOf (ps.zip us) fun _ => none) (cellsFrom (s.heap.objs.size + 1) scope.names []) (bindC (envOfC qual scope s.heap.objs.size f cd).kindOf (ps.zip us) fun _ => none) s1) :
    Inv (cxOf CX P w K mg base N qual scope f cd A outer s H E) [] (start N vs) H s1 := by
  have hpl : ps.length ≤ N.length := by have := congrArg List.length S.pre; rw [List.length_take] at this; omega
  obtain ⟨h1, tk, rfl, hk⟩ := x.done
  have noA : ∀ b : Addr, b ∉ (cxOf CX P w K mg base N qual scope f cd A outer s H E).ex := fun b z => absurd (show b ∈ ([] : List Addr) from z) (by simp)
  refine ⟨⟨e0.mod, S.kind, rfl, rfl, Nat.le_refl _, fun y z c h1 h2 => ?_, fun y hy => ?_, fun y c _ h => ?_, fun _ => hd, Around.frames_deeper e0.frames, .inr ⟨rfl, rfl⟩, fun b z => absurd z (noA b), e0.bs, e0.bsz, fun b _ _ => noA b, fun b z => absurd z (noA b), e0.funs, e0.frf⟩,
    rfl, e0.bare, Un.kept hk, ⟨_, x.toInCall.ns, fun i y v h1 h2 h3 => ?_⟩, fun y c h => ⟨_, x.cell y c h⟩, e0.hok.fresh (Nat.le_refl _), fun y c h => ?_, fun p hp => absurd (show p ∈ ([] : List (Addr × Obj)) from hp) (by simp), e0.hok.kept hk, ?_⟩
  · exact name_of_addr x.apart (PySem.mem_of_lookup h1) (PySem.mem_of_lookup h2)
  · have hy : scope.names.lookup y = some .cell ∨ scope.names.lookup y = some .free := hy
    rcases hy with hy | hy
    · exact cell_has hy
    · exact absurd rfl (S.nofree _ (PySem.mem_of_lookup hy))
  · exact Nat.le_of_lt (x.above y c (PySem.mem_of_lookup h))
  · have hi : i < vs.length := by
      unfold start at h2
      by_cases hi : i < vs.length
      · exact hi
      · rw [List.getElem?_append_right (by simpa using hi)] at h2
        rw [List.getElem?_replicate] at h2
        split at h2 <;> cases h2
    have ha : vs[i]? = some v := by
      unfold start at h2
      rw [List.getElem?_append_left (by simpa using hi), List.getElem?_map] at h2
      cases e : vs[i]? with
      | none => rw [e] at h2; cases h2
      | some a => rw [e] at h2; cases h2; rfl
    obtain ⟨u, hu, rv⟩ := r.get ha
    have hp : ps[i]? = some y := by
      rw [← S.pre, List.getElem?_take_of_lt (by omega)]; exact h1
    have ndP : ps.Nodup := by rw [← S.pre]; exact S.nd.sublist (List.take_sublist _ _)
    refine ⟨u, rv, ?_⟩
    rcases S.par y (List.mem_of_getElem? hp) with k | k
    · exact .inl ⟨k, bindL_get ndP hp hu k⟩
    · obtain ⟨c, e⟩ := cell_has (n := s.heap.objs.size + 1) k
      refine .inr ⟨.inl k, c, e, ?_⟩
      have q := x.cell y c e
      rw [bindC_get ndP hp hu (by show scope.names.lookup y ≠ _; rw [k]; decide)] at q
      exact q
  · exact e0.hok.fresh (Nat.le_of_lt (x.above y c (PySem.mem_of_lookup h)))
  · unfold start
    show _ = N.length
    rw [List.length_append, List.length_map, List.length_replicate]
    omega

theorem fn_of {CX : CXT} {P : Program} {w : World} {K : PySem.W.Frag} {mg : Str → Option Value} {base : Heap} {k : Nat} {f : Addr} {name qual : Str} {params : Arguments} {body : List Stmt} {scope : Scope} {dV kV doc pm cdv ct oc : Value} {an od : Option Addr}
    {osl : Array (Option Value)} {N ps : List Str} {sp : Sp} (lk : K.lookup f = some ⟨oc, od, .func (PySem.W.fnOf name qual params body scope dV kV doc pm an cdv ct), osl⟩) (hcd : PySem.W.codeIn K cdv qual = true) (S : FnScope N ps scope)
    (len : ∀ vs H Q E, sp vs H Q E → vs.length = ps.length)
    (hbody : ∀ (A : Around) (outer : List Env) (s : Shared) (H : Hp) (vs : List V) (Q : VK) (E : XK), Room k (A.deeper (envOfC qual scope s.heap.objs.size f cdv)) → sp vs H Q E →
      ∃ t, PSs (cxOf CX P w K mg base N qual scope f cdv A outer s H E) body t ∧ t { nx := fun _ H' => Q .non H', rt := Q } (start N vs) H) :
    FnOk P w K mg base CX (k + 1) f (PySem.W.fnOf name qual params body scope dV kV doc pm an cdv ct) ps sp := by
  refine ⟨len, fun A outer s H args us vs Q E hr e0 hb r hsp => ?_⟩
  have hl := len _ _ _ _ hsp
  have KX : K.In s.heap := e0.mod.kin.keeps fun b o e => (e0.bs b o e).1
  have lim : s.heap.NoLimit := e0.mod.nolimit.keeps fun b o e => (e0.bs b o e).1
  have hkind : ∀ y ∈ ps.zip us, scope.names.lookup y.1 = some .local ∨ (scope.names.lookup y.1 = some .cell ∧ ((cellsFrom (s.heap.objs.size + 1) scope.names []).lookup y.1).isSome = true) := fun ⟨n, v⟩ hy => by
    rcases S.par n (List.of_mem_zip hy).1 with q | q
    · exact .inl q
    · exact .inr ⟨q, PySem.W.cellsFrom_some _ _ _ (.inl q)⟩
  refine codeAny_call_function hr.depth (KX _ _ lk) rfl S.co S.gen rfl (PySem.W.codeRec_of KX hcd) (hb _ _ _ _ ?_)
  refine wpAny_newFunctionEnv_cells S.kind hkind fun env he s1 x => ?_
  subst he
  refine ⟨lim.keeps x.toInCall.keep, codeAny_func ?_⟩
  obtain ⟨t, ht, hq⟩ := hbody A outer s H vs Q E (hr.deeper _) hsp
  have I : Inv (cxOf CX P w K mg base N qual scope f cdv A outer s H E) [] (start N vs) H s1 := inv_start S hr.hd e0 hl r x
  refine wpAny_mono (ht [] s1 (start N vs) H _ I hq) (fun fl s' hs => ?_) fun e s' hs => hs
  have fin : ∀ {σ' : St} {H' : Hp} {v : V} {u : Value}, Inv (cxOf CX P w K mg base N qual scope f cdv A outer s H E) [] σ' H' s' → RelV v u → Q v H' → CE outer P w H s Q u s' :=
    fun {σ' H' v u} J rv q => ⟨v, H', J.os, J.bare, J.base, J.hok, rv, q⟩
  cases fl with
  | ret u =>
    obtain ⟨v, σ', H', J, rv, q⟩ := hs
    exact fin J rv q
  | next =>
    obtain ⟨σ', H', J, q⟩ := hs
    exact fin (v := V.non) (u := Value.none) J rfl q
  | brk =>
    obtain ⟨_, _, _, q⟩ := hs
    exact False.elim q
  | cont =>
    obtain ⟨_, _, _, q⟩ := hs
    exact False.elim q
end L2

namespace L2
open PySem PySem.Spec PyProof.Rows
section
variable {X : Cx} {x : Str} {p pos : Pos} {e : Expr} {es : List Expr} {t : TA} {id T : String} {r : List V → Hp → VK → Prop}

def tCB (r : List V → Hp → VK → Prop) (t : TA) : TE := fun σ H Q => t σ H fun vs H1 => r vs H1 Q
theorem pe_callB (hc : CallR X (.builtin id) r) (hg : Gl X x) (hm : X.mg x = none) (hv : bootBuiltins x = some (.builtin id)) (ha : PA X (e :: es) t) (hn : x ≠ "__name__" := by decide) (hdb : (x == ("__debug__" : Str)) = false := by decide)
    (he : starEach (e :: es) X.env = (false, eval e X.env) :: starEach es X.env := by rfl) (hpl : (backTo pos (starEach es X.env)).any (·.1) = false := by rfl) : PE X (.Call (.Name x p) (e :: es) [] pos) (tCB r t) := by
  intro pins s σ H Q I h
  refine wpAny_Call_Name_kw (ld_blt I hg hm hv ?_ hn hdb)
  exact PyProof.Rows.callWith_builtin1 (thn (ha pos pins s σ H _ I h) fun us s1 ⟨vs, H1, I1, r1, q1⟩ => hc pins s1 σ H1 vs us Q I1 r1 q1) he hpl
theorem pe_callTy (hc : CallR X (.type T) r) (hg : Gl X x) (hm : X.mg x = none) (hv : bootBuiltins x = some (.type T)) (ha : PA X (e :: es) t) (hn : x ≠ "__name__" := by decide) (hdb : (x == ("__debug__" : Str)) = false := by decide)
    (he : starEach (e :: es) X.env = (false, eval e X.env) :: starEach es X.env := by rfl) (hpl : (backTo pos (starEach es X.env)).any (·.1) = false := by rfl) : PE X (.Call (.Name x p) (e :: es) [] pos) (tCB r t) := by
  intro pins s σ H Q I h
  refine wpAny_Call_Name_kw (ld_blt I hg hm hv ?_ hn hdb)
  exact PyProof.Rows.callWith_type1 (thn (ha pos pins s σ H _ I h) fun us s1 ⟨vs, H1, I1, r1, q1⟩ => hc pins s1 σ H1 vs us Q I1 r1 q1) he hpl
end
end L2

namespace HT
open PySem PyProof.Rows

section
open PySem.SeqAt
open PySem.AutoSeq1 (wpAny_loadPart')
open PySem.MeetsSeq PySem.MeetsSeq2 PySem.MeetsSeq3

end

section
variable {prog : Program} {w : World} {A : Around} {E : Value → Shared → Prop} {s : Shared}

def sIx (n d : Nat) : Option Int → Nat
  | none => d
  | some v => if v < 0 then (v + (n : Int)).toNat else min v.toNat n
end
end HT

namespace L2
open PySem PySem.Spec PyProof.Rows

abbrev TO := St → Hp → (Option Int → Hp → Prop) → Prop
def PO (X : Cx) (e : Option Expr) (t : TO) : Prop :=
  ∀ (pins : List (Addr × Obj)) (s : Shared) (σ : St) (H : Hp) (Q : Option Int → Hp → Prop), Inv X pins σ H s → t σ H Q →
    wpAny (model X.prog X.w) X.A (evalPart e X.env) (fun u s' => ∃ o H', Inv X pins σ H' s' ∧ IsPart u o ∧ Q o H') X.xe s
def tNoPart : TO := fun _ H Q => Q none H
def tPart (t : TE) : TO := fun σ H Q => t σ H fun x H1 => ∃ i, x = .int i ∧ Q (some i) H1

section
variable {X : Cx} {e : Expr} {te : TE} {lo hi : Option Expr} {tl th : TO} {pos p2 : Pos}

theorem po_none : PO X none tNoPart := by
  intro pins s σ H Q I h
  rw [evalPart_none]
  exact wpAny_pure ⟨none, H, I, .none, h⟩
theorem po_some (h : PE X e te) : PO X (some e) (tPart te) := by
  intro pins s σ H Q I hw
  rw [evalPart_some]
  refine thn (h pins s σ H _ I hw) fun u s1 ⟨x, H1, I1, r1, q1⟩ => ?_
  obtain ⟨i, rfl, q⟩ := q1
  obtain ⟨t, rfl⟩ := r1
  exact ⟨some i, H1, I1, .int i t, q⟩

def SlR (X : Cx) (r : V → Option Int → Option Int → Hp → VK → Prop) : Prop :=
  ∀ (pins : List (Addr × Obj)) (s : Shared) (σ : St) (H : Hp) (x : V) (v vl vu : Value) (lo hi : Option Int) (sl : Addr) (Q : VK), Inv X pins σ H s → RelV x v → s.heap.IsSliceOf sl vl vu .none → IsPart vl lo → IsPart vu hi → r x lo hi H Q →
    ∃ T id, typeLookup (.type T) "__getitem__" = pure (some (.builtin id)) ∧ s.TypeIs v T ∧ wpAny (model X.prog X.w) X.A (getItem v (.ref sl)) (EP X pins σ Q) X.xe s
theorem SlR.or {r r' : V → Option Int → Option Int → Hp → VK → Prop} (h : SlR X r) (h' : SlR X r') : SlR X (fun x lo hi H Q => r x lo hi H Q ∨ r' x lo hi H Q) := by
  intro pins s σ H x v vl vu lo hi sl Q I rx hs pl pu q
  rcases q with q | q
  · exact h pins s σ H x v vl vu lo hi sl Q I rx hs pl pu q
  · exact h' pins s σ H x v vl vu lo hi sl Q I rx hs pl pu q
def tSl (r : V → Option Int → Option Int → Hp → VK → Prop) (te : TE) (tl th : TO) : TE := fun σ H Q => te σ H fun x H1 => tl σ H1 fun l H2 => th σ H2 fun u H3 => r x l u H3 Q
theorem pe_slice {r : V → Option Int → Option Int → Hp → VK → Prop} (hr : SlR X r) (he : PE X e te) (hl : PO X lo tl) (hu : PO X hi th) : PE X (.Subscript e (.Slice lo hi none p2) pos) (tSl r te tl th) := by
  intro pins s σ H Q I h
  refine Subscript_ (thn (he pins s σ H _ I h) fun v s1 ⟨x, H1, I1, r1, q1⟩ => ?_)
  refine wpAny_Slice (thn (hl pins s1 σ H1 _ I1 q1) fun vl s2 ⟨l, H2, I2, pl, q2⟩ => thn (hu pins s2 σ H2 _ I2 q2) fun vu s3 ⟨u, H3, I3, pu, q3⟩ => ?_)
  rw [evalPart_none]
  refine wpAny_pure ?_
  have I4 : Inv X pins σ H3 { s3 with heap := s3.heap.push { cls := .type "slice", data := .fields #[vl, vu, .none] } } := I3.kept (t' := s3.toks) fun b ob q => Heap.get?_push_of_some _ q
  obtain ⟨T, id, hT, ht, hg⟩ := hr pins { s3 with heap := s3.heap.push { cls := .type "slice", data := .fields #[vl, vu, .none] } } σ H3 x v vl vu l u s3.heap.objs.size Q I4 r1 (Heap.IsSliceOf.new ..) pl pu q3
  show wpAny (model X.prog X.w) X.A (subscriptTail e (.Slice lo hi none p2) v (.ref s3.heap.objs.size)) (EP X pins σ Q) X.xe { s3 with heap := s3.heap.push { cls := .type "slice", data := .fields #[vl, vu, .none] } }
  exact tail_any (ops := [.ref s3.heap.objs.size, v]) ht hT hg (by with_unfolding_all rfl)

def cutV (xs : List V) (lo hi : Option Int) : List V := (xs.drop (HT.sIx xs.length 0 lo)).take (HT.sIx xs.length xs.length hi - HT.sIx xs.length 0 lo)
theorem cutV_length (xs : List V) (lo hi : Option Int) : (cutV xs lo hi).length ≤ xs.length := by
  unfold cutV
  rw [List.length_take, List.length_drop]
  omega
end
end L2

namespace L2
open PySem PySem.Spec PyProof.Rows

def ixN (n : Nat) (i : Int) : Option Nat := if 0 ≤ i then (if i < n then some i.toNat else none) else if -(n : Int) ≤ i then some (i + n).toNat else none
def atI {α : Type} (xs : List α) (i : Int) : Option α := (ixN xs.length i).bind fun j => xs[j]?
theorem ixN_seq {n : Nat} {i : Int} {j : Nat} (h : ixN n i = some j) : seqIndex? i n = some j ∧ j < n ∧ -(n : Int) ≤ i ∧ i < n := by
  unfold ixN at h
  by_cases h0 : 0 ≤ i
  · rw [if_pos h0] at h
    by_cases h1 : i < n
    · rw [if_pos h1] at h
      have e : i.toNat = j := Option.some.inj h
      exact ⟨by rw [seqIndex_of h0 h1, e], by omega, by omega, h1⟩
    · rw [if_neg h1] at h; cases h
  · rw [if_neg h0] at h
    by_cases h1 : -(n : Int) ≤ i
    · rw [if_pos h1] at h
      have e : (i + n).toNat = j := Option.some.inj h
      exact ⟨by rw [seqIndex_neg (by omega) h1, e], by omega, h1, by omega⟩
    · rw [if_neg h1] at h; cases h
theorem atI_get {α : Type} {xs : List α} {i : Int} {v : α} (h : atI xs i = some v) : ∃ j, seqIndex? i xs.length = some j ∧ xs[j]? = some v ∧ j < xs.length ∧ -(xs.length : Int) ≤ i ∧ i < xs.length := by
  unfold atI at h
  cases e : ixN xs.length i with
  | none => rw [e] at h; cases h
  | some j =>
    rw [e] at h
    obtain ⟨h1, h2, h3, h4⟩ := ixN_seq e
    exact ⟨j, h1, h, h2, h3, h4⟩
theorem atI_nat {α : Type} {xs : List α} {j : Nat} {v : α} (h : xs[j]? = some v) : atI xs (j : Int) = some v := by
  have hj : j < xs.length := (List.getElem?_eq_some_iff.mp h).1
  have e : ixN xs.length (j : Int) = some j := by
    unfold ixN
    rw [if_pos (by omega), if_pos (by omega)]; simp
  unfold atI; rw [e]; exact h
def PlainIx (b : Expr) : Prop := ∀ o i, subscripted b false o i = operate [o, i] (getItem o i)
def IxR (X : Cx) (r : R2) : Prop :=
  ∀ (value slice : Expr) (pins : List (Addr × Obj)) (s : Shared) (σ : St) (H : Hp) (x y : V) (v u : Value) (Q : VK), Inv X pins σ H s → RelV x v → RelV y u → r x y H Q →
    subscripted slice false v u = operate [v, u] (getItem v u) → wpAny (model X.prog X.w) X.A (subscriptTail value slice v u) (EP X pins σ Q) X.xe s
def MtR (X : Cx) (id : String) (r : V → List V → Hp → VK → Prop) : Prop :=
  ∀ (pins : List (Addr × Obj)) (s : Shared) (σ : St) (H : Hp) (x : V) (xs : List V) (v : Value) (us : List Value) (Q : VK), Inv X pins σ H s → RelV x v → Vals xs us → r x xs H Q →
    wpAny (model X.prog X.w) X.A (call (.builtin id) (v :: us)) (EP X pins σ Q) X.xe s
section
variable {X : Cx} {a b : Expr} {ta tb : TE} {pos : Pos}
theorem IxR.or {r r' : R2} (h : IxR X r) (h' : IxR X r') : IxR X (fun x y H Q => r x y H Q ∨ r' x y H Q) := by
  intro value slice pins s σ H x y v u Q I rx ry q hs
  rcases q with q | q
  · exact h value slice pins s σ H x y v u Q I rx ry q hs
  · exact h' value slice pins s σ H x y v u Q I rx ry q hs
theorem MtR.or {id : String} {r r' : V → List V → Hp → VK → Prop} (h : MtR X id r) (h' : MtR X id r') : MtR X id (fun x xs H Q => r x xs H Q ∨ r' x xs H Q) := by
  intro pins s σ H x xs v us Q I rx rs q
  rcases q with q | q
  · exact h pins s σ H x xs v us Q I rx rs q
  · exact h' pins s σ H x xs v us Q I rx rs q
theorem pe_ix {r : R2} (hr : IxR X r) (ha : PE X a ta) (hb : PE X b tb) (hs : PlainIx b) : PE X (.Subscript a b pos) (tOp r ta tb) := by
  intro pins s σ H Q I h
  exact Subscript_ (binT ha hb I h fun v u s2 x y H2 I2 rx ry q => hr a b pins s2 σ H2 x y v u Q I2 rx ry q (hs _ _))

def rIxL (K : PySem.W.Frag) : R2 := fun x y H Q => ∃ p xs i v, x = .ref p ∧ y = .int i ∧ SqL K H p xs ∧ atI xs i = some v ∧ Q v H
def rIxT (K : PySem.W.Frag) : R2 := fun x y H Q => ∃ p xs i v, x = .ref p ∧ y = .int i ∧ SqT K H p xs ∧ atI xs i = some v ∧ Q v H
def rIxS : R2 := fun x y H Q => ∃ z i c, x = .str z ∧ y = .int i ∧ z.length ≤ sizeLine ∧ atI z.cps.toList i = some c ∧ Q (.str ⟨#[c]⟩) H
theorem ix_list : IxR X (rIxL X.K) := by
  intro value slice pins s σ H x y v u Q I rx ry h hs
  obtain ⟨p, xs, i, z, rfl, rfl, hq, he, q⟩ := h
  cases rx
  obtain ⟨t, rfl⟩ := ry
  obtain ⟨its, r, pl, hz⟩ := I.list hq
  obtain ⟨j, h1, h2, h3, h4, h5⟩ := atI_get he
  obtain ⟨w, ew, rw'⟩ := r.get h2
  have hl := r.length
  have hn := line63
  have fin : EP X pins σ Q w s := ⟨z, H, I, rw', q⟩
  by_cases h0 : 0 ≤ i
  · have hj : i.toNat = j := by
      rw [seqIndex_of h0 h5] at h1
      exact Option.some.inj h1
    exact item_listR pl.isList h0 (by omega) (by rw [hj]; simpa using ew) fin hs
  · have hj : (i + (its.toArray.size : Int)).toNat = j := by
      rw [seqIndex_neg (by omega) h4] at h1
      rw [List.size_toArray, ← hl]
      exact Option.some.inj h1
    exact subscriptTail_builtinR (x := w) pl.isList.typeIs slot_list_getitem.lookup
      (wpAny_getItem_list_neg (Q := fun r s' => r = w ∧ EP X pins σ Q r s') pl.isList (by omega) (by rw [List.size_toArray] <;> omega) (by omega) (by rw [hj]; simpa using ew) ⟨rfl, fin⟩) hs
theorem ix_tup : IxR X (rIxT X.K) := by
  intro value slice pins s σ H x y v u Q I rx ry h hs
  obtain ⟨p, xs, i, z, rfl, rfl, hq, he, q⟩ := h
  cases rx
  obtain ⟨t, rfl⟩ := ry
  obtain ⟨its, r, pl, hz⟩ := I.tuple hq
  obtain ⟨j, h1, h2, h3, h4, h5⟩ := atI_get he
  obtain ⟨w, ew, rw'⟩ := r.get h2
  have hl := r.length
  have hn := line63
  have fin : EP X pins σ Q w s := ⟨z, H, I, rw', q⟩
  exact subscriptTail_builtinR (x := w) pl.typeIs slot_tuple_getitem.lookup
    (getItem_tuple (j := j) (Q := fun r s' => r = w ∧ EP X pins σ Q r s') pl (by omega) (by omega) (by rw [List.size_toArray, ← hl]; exact h1) (by simpa using ew) ⟨rfl, fin⟩) hs
theorem ix_str : IxR X rIxS := by
  intro value slice pins s σ H x y v u Q I rx ry h hs
  obtain ⟨z, i, c, rfl, rfl, hz, he, q⟩ := h
  obtain ⟨t, rfl⟩ := rx
  obtain ⟨t', rfl⟩ := ry
  obtain ⟨j, h1, h2, h3, h4, h5⟩ := atI_get he
  have hl : z.cps.toList.length = z.length := by simp [Str.length]
  rw [hl] at h1 h4 h5
  have hn := line63
  exact tail_any (typeIs_str s z t) slot_str_getitem.lookup (getItem_str (c := c) (by
    have e1 : decide (i < -(2 ^ 63 : Int)) = false := decide_eq_false (by omega)
    have e2 : decide (i ≥ 2 ^ 63) = false := decide_eq_false (by omega)
    rw [e1, e2, Bool.or_false]) (by rw [h1]; simpa using h2) ⟨.str ⟨#[c]⟩, H, I.tok _, ⟨_, rfl⟩, q⟩) hs
def rIx (K : PySem.W.Frag) : R2 := fun x y H Q => rIxL K x y H Q ∨ rIxT K x y H Q ∨ rIxS x y H Q
theorem ix_seq : IxR X (rIx X.K) := ix_list.or (ix_tup.or ix_str)

theorem Inv.lst {pins : List (Addr × Obj)} {σ : St} {H : Hp} {s : Shared} {p : Addr} {xs : List V} (I : Inv X pins σ H s) (h : H p = some (.lst xs)) :
    ∃ (its : List Value) (n : Nat), Vals xs its ∧ s.heap.get? p = some { cls := .type "list", data := .seq its.toArray n } ∧ xs.length ≤ sizeLine := by
  obtain ⟨z, its, n, r, e⟩ := I.hok p _ h
  exact ⟨its, n, r, e, z⟩
theorem slice_bounds (lo hi : Option Int) (n : Nat) : (sliceBounds lo hi none n).1 = ((HT.sIx n 0 lo : Nat) : Int) ∧ (sliceBounds lo hi none n).2.1 = ((HT.sIx n n hi : Nat) : Int) ∧ (sliceBounds lo hi none n).2.2 = 1 := by
  refine ⟨?_, ?_, rfl⟩
  · cases lo with
    | none => simp [sliceBounds, HT.sIx]
    | some i =>
      simp only [sliceBounds, HT.sIx, Option.getD_none, show (1 : Int) > 0 by decide, if_true]
      by_cases h : i < 0
      · simp only [h, if_true] <;> omega
      · simp only [h, if_false] <;> omega
  · cases hi with
    | none => simp [sliceBounds, HT.sIx]
    | some i =>
      simp only [sliceBounds, HT.sIx, Option.getD_none, show (1 : Int) > 0 by decide, if_true]
      by_cases h : i < 0
      · simp only [h, if_true] <;> omega
      · simp only [h, if_false] <;> omega
theorem slicePick_cut (its : List Value) (lo hi : Option Int) : slicePick its.toArray lo hi none = ((its.drop (HT.sIx its.length 0 lo)).take (HT.sIx its.length its.length hi - HT.sIx its.length 0 lo)).toArray := by
  obtain ⟨h1, h2, h3⟩ := slice_bounds lo hi its.toArray.size
  unfold slicePick
  rw [h1, h2, h3]
  simp only [sliceRange_one, pick_run, List.size_toArray] <;> rfl
def rSlL (K : PySem.W.Frag) : V → Option Int → Option Int → Hp → VK → Prop := fun x lo hi H Q => ∃ a xs, x = .ref a ∧ SqL K H a xs ∧ ∀ p, H p = none → Q (.ref p) (upd H p (.lst (cutV xs lo hi)))
theorem sl_list : SlR X (rSlL X.K) := by
  intro pins s σ H x v vl vu lo hi sl Q I rx hs pl pu h
  obtain ⟨a, xs, rfl, hx, q⟩ := h
  cases rx
  obtain ⟨its, r, ht, hz⟩ := I.list hx
  have hlen := r.length
  refine ⟨"list", _, slot_list_getitem.lookup, ht.isList.typeIs, ?_⟩
  refine wpAny_getItem_list_slice ht.isList hs pl pu .none (by simp) ?_ (by rw [List.size_toArray] <;> omega)
  rw [slicePick_cut, ← hlen]
  refine ⟨.ref s.heap.objs.size, _, I.laid (t' := s.toks) (o := .lst (cutV xs lo hi)) (fun b ob q => Heap.get?_push_of_some _ q) (Nat.le_refl _) ?_, rfl, q _ (I.hok.fresh (Nat.le_refl _))⟩
  exact ⟨Nat.le_trans (cutV_length xs lo hi) hz, _, 0, (r.drop (HT.sIx xs.length 0 lo)).take (HT.sIx xs.length xs.length hi - HT.sIx xs.length 0 lo), Heap.get?_push_size _ rfl⟩

def flatV : V → Bool
  | .non => true
  | .bl _ => true
  | .int _ => true
  | .str _ => true
  | _ => false
def eqV : V → V → Bool
  | .non, .non => true
  | .bl a, .bl b => a == b
  | .bl a, .int b => (if a then 1 else 0) == b
  | .int a, .bl b => a == (if b then 1 else 0)
  | .int a, .int b => a == b
  | .str a, .str b => a == b
  | _, _ => false
theorem eqAt_V {A : Around} {s : Shared} {y x : V} {u v : Value} (ry : RelV y u) (rx : RelV x v) (fy : flatV y = true) (fx : flatV x = true) : SeqAt.EqAt A s u v (eqV y x) := by
  cases y with
  | non =>
    cases ry
    cases x with
    | non => cases rx; exact SeqAt.EqAt.same _
    | bl b => cases rx; exact SeqAt.EqAt.none_bool b
    | int b => obtain ⟨t, rfl⟩ := rx; exact SeqAt.EqAt.none_int b t
    | str b => obtain ⟨t, rfl⟩ := rx; exact SeqAt.EqAt.none_str b t
    | _ => exact absurd (show false = true from fx) Bool.false_ne_true
  | bl a =>
    cases ry
    cases x with
    | non => cases rx; exact SeqAt.EqAt.bool_none a
    | bl b => cases rx; exact SeqAt.EqAt.bool_bool a b
    | int b => obtain ⟨t, rfl⟩ := rx; exact SeqAt.EqAt.bool_int a b t
    | str b => obtain ⟨t, rfl⟩ := rx; exact SeqAt.EqAt.bool_str a b t
    | _ => exact absurd (show false = true from fx) Bool.false_ne_true
  | int a =>
    obtain ⟨t', rfl⟩ := ry
    cases x with
    | non => cases rx; exact SeqAt.EqAt.int_none a t'
    | bl b => cases rx; exact SeqAt.EqAt.int_bool a t' b
    | int b => obtain ⟨t, rfl⟩ := rx; exact SeqAt.EqAt.int_int a t' b t
    | str b => obtain ⟨t, rfl⟩ := rx; exact SeqAt.EqAt.int_str a t' b t
    | _ => exact absurd (show false = true from fx) Bool.false_ne_true
  | str a =>
    obtain ⟨t', rfl⟩ := ry
    cases x with
    | non => cases rx; exact SeqAt.EqAt.str_none a t'
    | bl b => cases rx; exact SeqAt.EqAt.str_bool a t' b
    | int b => obtain ⟨t, rfl⟩ := rx; exact SeqAt.EqAt.str_int a t' b t
    | str b => obtain ⟨t, rfl⟩ := rx; exact SeqAt.EqAt.str_str a t' b t
    | _ => exact absurd (show false = true from fx) Bool.false_ne_true
  | _ => exact absurd (show false = true from fy) Bool.false_ne_true
def eqU (x : V) (u : Value) : Bool := match u with
  | .none => eqV .non x
  | .bool b => eqV (.bl b) x
  | .int i _ => eqV (.int i) x
  | .str z _ => eqV (.str z) x
  | _ => false
theorem eqU_of {x y : V} {u : Value} (r : RelV y u) (f : flatV y = true) : eqU x u = eqV y x := by
  cases y with
  | non => cases r; rfl
  | bl b => cases r; rfl
  | int i => obtain ⟨t, rfl⟩ := r; rfl
  | str z => obtain ⟨t, rfl⟩ := r; rfl
  | _ => exact absurd (show false = true from f) Bool.false_ne_true
theorem any_eqU {x : V} : ∀ {xs : List V} {us : List Value}, Vals xs us → xs.all flatV = true → us.any (eqU x) = xs.any fun y => eqV y x
  | _, _, .nil, _ => rfl
  | y :: xs, u :: us, .cons r t, f => by
    rw [List.all_cons, Bool.and_eq_true] at f
    rw [List.any_cons, List.any_cons, eqU_of r f.1, any_eqU t f.2]
theorem mem_eqAt {A : Around} {s : Shared} {x : V} {v : Value} (rx : RelV x v) (fx : flatV x = true) : ∀ {xs : List V} {us : List Value}, Vals xs us → xs.all flatV = true → ∀ u ∈ us, SeqAt.EqAt A s u v (eqU x u)
  | _, _, .nil, _ => fun u hu => by cases hu
  | y :: xs, u :: us, .cons r t, f => fun u' hu => by
    rw [List.all_cons, Bool.and_eq_true] at f
    rcases List.mem_cons.mp hu with rfl | hu
    · rw [eqU_of r f.1]; exact eqAt_V r rx f.1 fx
    · exact mem_eqAt rx fx t f.2 u' hu
def inV (x : V) (xs : List V) : Bool := xs.any fun y => eqV y x
def rIn (K : PySem.W.Frag) (neg : Bool) : R2 := fun x y H Q => ∃ p xs, y = .ref p ∧ (SqL K H p xs ∨ SqT K H p xs) ∧ flatV x = true ∧ xs.all flatV = true ∧ Q (.bl (if neg then !inV x xs else inV x xs)) H
theorem op_in_seq : OpR X (compareOp .In) (rIn X.K false) := by
  intro pins s σ H x y v u Q I rx ry h
  obtain ⟨p, xs, rfl, hq, fx, fs, q⟩ := h
  cases ry
  rcases hq with hq | hq
  · obtain ⟨its, r, pl, hz⟩ := I.list hq
    refine SeqAt.in_listAt (eqU x) pl.isList (fun w hw => mem_eqAt rx fx r fs w (by simpa using hw)) ⟨.bl _, H, I, rfl, ?_⟩
    rw [show its.toArray.any (eqU x) = its.any (eqU x) by simp, any_eqU r fs]
    exact q
  · obtain ⟨its, r, pl, hz⟩ := I.tuple hq
    refine SeqAt.in_tupleAt (eqU x) pl (fun w hw => mem_eqAt rx fx r fs w (by simpa using hw)) ⟨.bl _, H, I, rfl, ?_⟩
    rw [show its.toArray.any (eqU x) = its.any (eqU x) by simp, any_eqU r fs]
    exact q
theorem call_len_seq : CallR X (.builtin "len") (fun xs H Q => ∃ p ys, xs = [.ref p] ∧ (SqL X.K H p ys ∨ SqT X.K H p ys) ∧ Q (.int ys.length) H) := by
  intro pins s σ H xs us Q I r h
  obtain ⟨p, ys, rfl, hq, q⟩ := h
  obtain ⟨u, rfl, rx⟩ := vals1 r
  cases rx
  have hn := line63
  rcases hq with hq | hq
  · obtain ⟨its, r', pl, hz⟩ := I.list hq
    have hlen := r'.length
    exact Calls.call_len_list pl.isList (by simp only [List.size_toArray] <;> omega) ⟨.int ys.length, H, I.tok _, ⟨s.toks + 1, by rw [List.size_toArray, hlen]⟩, q⟩
  · obtain ⟨its, r', pl, hz⟩ := I.tuple hq
    have hlen := r'.length
    exact len_tuple pl (by simp only [List.size_toArray] <;> omega) ⟨.int ys.length, H, I.tok _, ⟨s.toks + 1, by rw [List.size_toArray, hlen]⟩, q⟩
theorem call_len_str : CallR X (.builtin "len") (fun xs H Q => ∃ z, xs = [.str z] ∧ z.length ≤ sizeLine ∧ Q (.int z.length) H) := by
  intro pins s σ H xs us Q I r h
  obtain ⟨z, rfl, hz, q⟩ := h
  obtain ⟨u, rfl, t, rfl⟩ := vals1 r
  have hn := line63
  exact len_str (by omega) ⟨.int z.length, H, I.tok _, ⟨_, rfl⟩, q⟩
theorem CallR.or {f : Value} {r r' : List V → Hp → VK → Prop} (h : CallR X f r) (h' : CallR X f r') : CallR X f (fun xs H Q => r xs H Q ∨ r' xs H Q) := by
  intro pins s σ H xs us Q I rs q
  rcases q with q | q
  · exact h pins s σ H xs us Q I rs q
  · exact h' pins s σ H xs us Q I rs q
def tyV (K : PySem.W.Frag) (T : String) (x : V) (H : Hp) : Prop := match x with
  | .str _ => T = "str"
  | .int _ => T = "int"
  | .ref p => (T = "list" ∧ ∃ xs, SqL K H p xs) ∨ (T = "tuple" ∧ ∃ o, K.lookup p = some o ∧ o.cls = .type "tuple" ∧ o.dict = none) ∨
      (T = "dict" ∧ ((∃ kvs, H p = some (.dK kvs)) ∨ ∃ kvs, H p = some (.dT kvs))) ∨ (T = "set" ∧ ∃ S n, H p = some (.set S n))
  | _ => False
theorem tyV_is {pins : List (Addr × Obj)} {σ : St} {H : Hp} {s : Shared} {T : String} {x : V} {v : Value} (I : Inv X pins σ H s) (r : RelV x v) (ty : tyV X.K T x H) :
    s.TypeIs v T ∧ ∀ a, v = .ref a → ∃ ob, s.heap.get? a = some ob ∧ ob.dict = none := by
  cases x with
  | str z =>
    obtain ⟨t, rfl⟩ := r
    cases (show T = "str" from ty)
    exact ⟨typeIs_str s z t, fun _ e => nomatch e⟩
  | int i =>
    obtain ⟨t, rfl⟩ := r
    cases (show T = "int" from ty)
    exact ⟨typeIs_int s i t, fun _ e => nomatch e⟩
  | ref p =>
    cases r
    rcases ty with ⟨rfl, xs, hq⟩ | ⟨rfl, o, hk, hc, hd⟩ | ⟨rfl, hk⟩ | ⟨rfl, S, n, hk⟩
    · obtain ⟨its, _, pl, _⟩ := I.list hq
      refine ⟨pl.isList.typeIs, fun a e => ?_⟩
      cases e
      obtain ⟨o, n, e, c, hd, _⟩ := pl
      exact ⟨o, e, hd⟩
    · refine ⟨⟨o, I.kIn p o hk, hc⟩, fun a e => ?_⟩
      cases e
      exact ⟨o, I.kIn _ o hk, hd⟩
    · have z : ∃ o, s.heap.get? p = some o ∧ o.ExactDict := by
        rcases hk with ⟨kvs, hk⟩ | ⟨kvs, hk⟩
        · obtain ⟨_, _, _, _, o, _, _, e, ex, _⟩ := I.hok p _ hk
          exact ⟨o, e, ex⟩
        · obtain ⟨_, _, _, _, o, _, _, e, ex, _⟩ := I.hok p _ hk
          exact ⟨o, e, ex⟩
      obtain ⟨o, e, ex⟩ := z
      refine ⟨⟨o, e, ex.1⟩, fun a e2 => ?_⟩
      cases e2
      exact ⟨o, e, ex.2.1⟩
    · obtain ⟨o, _, _, _, e, ex, _⟩ := I.hok p _ hk
      refine ⟨⟨o, e, ex.1⟩, fun a e2 => ?_⟩
      cases e2
      exact ⟨o, e, ex.2.1⟩
  | _ => exact False.elim ty
def tBM0 (K : PySem.W.Frag) (T : String) (r : V → List V → Hp → VK → Prop) (to : TE) : TE := fun σ H Q => to σ H fun x H1 => tyV K T x H1 ∧ r x [] H1 Q
def tBM (K : PySem.W.Frag) (T : String) (r : V → List V → Hp → VK → Prop) (to : TE) (t : TA) : TE := fun σ H Q => to σ H fun x H1 => tyV K T x H1 ∧ t σ H1 fun xs H2 => r x xs H2 Q
variable {o e : Expr} {es : List Expr} {to : TE} {t : TA} {name : Str} {apos cpos : Pos} {T id : String} {r : V → List V → Hp → VK → Prop}
theorem pe_bm0 (pa : PlainAttrs T) (slot : Slot T name id) (hty : typeOf (.builtin id) = pure (.type "method_descriptor")) (hm : MtR X id r) (ho : PE X o to)
    (hbase : attributeBase o name X.env (eval o X.env) = eval o X.env := by rfl) (hline : (apos.endLine == cpos.line) = true := by rfl) : PE X (.Call (.Attribute o name apos) [] [] cpos) (tBM0 X.K T r to) := by
  intro pins s σ H Q I h
  refine wpAny_Call_method0_late hbase hline (thn (ho pins s σ H _ I h) fun v s1 ⟨x, H1, I1, r1, ty, q1⟩ => ?_)
  obtain ⟨h1, h2⟩ := tyV_is I1 r1 ty
  exact ⟨T, id, pa, slot, hty, h1, h2, Calls.callWith_builtin rfl (PySem.evalArgs_none (hm pins s1 σ H1 x [] v [] Q I1 r1 .nil q1))⟩
theorem pe_bm (pa : PlainAttrs T) (slot : Slot T name id) (hty : typeOf (.builtin id) = pure (.type "method_descriptor")) (hm : MtR X id r) (ho : PE X o to) (ha : PA X (e :: es) t)
    (hbase : attributeBase o name X.env (eval o X.env) = eval o X.env := by rfl)
    (hfew : ((backTo cpos (starEach (e :: es) X.env)).all (fun x => !x.1) && (backToKw cpos (keywordEach [] X.env)).all (fun x => x.1.isSome)
      && decide ((e :: es).length + ([] : List Keyword).length + (if ([] : List Keyword).isEmpty then 0 else 1) < 30)) = true := by rfl)
    (hline : (apos.endLine == cpos.line) = true := by rfl) (hs : starEach (e :: es) X.env = (false, eval e X.env) :: starEach es X.env := by rfl) (hplain : (backTo cpos (starEach es X.env)).any (·.1) = false := by rfl) :
    PE X (.Call (.Attribute o name apos) (e :: es) [] cpos) (tBM X.K T r to t) := by
  intro pins s σ H Q I h
  refine wpAny_Call_method_late hbase hfew hline rfl (thn (ho pins s σ H _ I h) fun v s1 ⟨x, H1, I1, r1, ty, q1⟩ => ?_)
  obtain ⟨h1, h2⟩ := tyV_is I1 r1 ty
  refine ⟨T, id, pa, slot, hty, h1, h2, ?_⟩
  have hA := ha cpos pins s1 σ H1 _ I1 q1
  rw [hs] at hA ⊢
  refine Calls.callWith_builtin (by show (false || (backTo cpos (starEach es X.env)).any (·.1)) = false; rw [hplain] <;> rfl) (Calls.evalArgs_plain ?_)
  exact thn hA fun us s2 ⟨vs, H2, I2, r2, q2⟩ => hm pins s2 σ H2 x vs v us Q I2 r1 r2 q2
/- xs.append(e), list.index on a module's tuple .. are MtR facts of 06m -/
end
end L2

namespace L2
open PySem PySem.Spec PyProof.Rows

def MtM (X : Cx) (id : String) (r : V → List V → Hp → VK → Prop) : Prop :=
  ∀ (pins : List (Addr × Obj)) (s : Shared) (σ : St) (H : Hp) (x : V) (xs : List V) (v : Value) (us : List Value) (Q : VK), Inv X pins σ H s → RelV x v → Vals xs us → r x xs H Q →
    wpAny (model X.prog X.w) X.A (call (.builtin id) (v :: us)) (EP X pins σ Q) X.xe s

theorem Vals.one : ∀ {x : V} {us : List Value}, Vals [x] us → ∃ u, us = [u] ∧ RelV x u
  | _, _, .cons r .nil => ⟨_, rfl, r⟩
theorem Vals.zero : ∀ {us : List Value}, Vals [] us → us = []
  | _, .nil => rfl
theorem Vals.dropLast {xs : List V} {us : List Value} (h : Vals xs us) : Vals xs.dropLast us.dropLast := by
  induction h with
  | nil => exact .nil
  | cons r t ih =>
    cases t with
    | nil => exact .nil
    | cons q t' => exact .cons r ih
theorem Vals.eraseIdx : ∀ {xs : List V} {us : List Value} (i : Nat), Vals xs us → Vals (xs.eraseIdx i) (us.eraseIdx i)
  | _, _, _, .nil => .nil
  | _, _, 0, .cons _ t => t
  | _, _, i + 1, .cons r t => .cons r (Vals.eraseIdx i t)
theorem Vals.reverse {xs : List V} {us : List Value} (h : Vals xs us) : Vals xs.reverse us.reverse := by
  induction h with
  | nil => exact .nil
  | cons r t ih => rw [List.reverse_cons, List.reverse_cons]; exact Vals.append ih (.cons r .nil)
theorem erase_last {α : Type} (l : List α) : l.eraseIdx (l.length - 1) = l.dropLast := by
  induction l with
  | nil => rfl
  | cons a r ih =>
    cases r with
    | nil => rfl
    | cons b r =>
      have e : (a :: b :: r).length - 1 = ((b :: r).length - 1) + 1 := by
        have h1 : (a :: b :: r).length = r.length + 2 := rfl
        have h2 : (b :: r).length = r.length + 1 := rfl
        omega
      rw [e, List.eraseIdx_cons_succ, ih]
      all_goals rfl
section
variable {X : Cx} {pins : List (Addr × Obj)} {σ : St} {H : Hp} {s : Shared} {l b : Addr} {xs ys zs : List V}

theorem Inv.lset {its its' : List Value} {n : Nat} {f : Array Value → Array Value} {t' : Nat} (I : Inv X pins σ H s) (hH : H l = some (.lst xs))
    (e : s.heap.get? l = some { cls := .type "list", data := .seq its.toArray n }) (hf : f its.toArray = its'.toArray) (hv : Vals ys its') (hz : ys.length ≤ sizeLine) :
    Inv X pins σ (upd H l (.lst ys)) { s with heap := s.heap.update l (Obj.mapSeq f), toks := t' } := by
  have q := PySem.IsL.update e f
  rw [hf] at q
  refine I.write (x := l) (e := l) (by rw [hH]; exact trivial) (.inl rfl) (fun b' u hb hu => (Heap.get?_update_other s.heap (Obj.mapSeq f) (Ne.symm hb)).trans hu) ⟨_, q⟩ ?_
  exact ⟨hz, its', _, hv, q⟩
theorem Inv.lnew {its : List Value} {t' : Nat} (I : Inv X pins σ H s) (hv : Vals ys its) (hz : ys.length ≤ sizeLine) :
    Inv X pins σ (upd H s.heap.objs.size (.lst ys)) { s with heap := s.heap.push { cls := .type "list", data := .seq its.toArray }, toks := t' } :=
  I.laid (fun _ _ q => Heap.get?_push_of_some _ q) (Nat.le_refl _) ⟨hz, its, 0, hv, Heap.get?_push_size _ rfl⟩
theorem Inv.fresh (I : Inv X pins σ H s) : H s.heap.objs.size = none := I.hok.fresh (Nat.le_refl _)
theorem Inv.lstM (I : Inv X pins σ H s) (hH : H l = some (.lst xs)) : xs.length ≤ sizeLine ∧ ∃ (its : List Value) (n : Nat), Vals xs its ∧ xs.length = its.length ∧ s.heap.get? l = some { cls := .type "list", data := .seq its.toArray n } := by
  obtain ⟨z, its, n, r, e⟩ := I.hok l _ hH
  exact ⟨z, its, n, r, r.length, e⟩

end

section
variable {X : Cx}

def rAppend : V → List V → Hp → VK → Prop := fun x vs H Q => ∃ l xs y, x = .ref l ∧ vs = [y] ∧ H l = some (.lst xs) ∧ xs.length < sizeLine ∧ Q .non (upd H l (.lst (xs ++ [y])))
theorem mt_append : MtM X "list.append" rAppend := by
  intro pins s σ H x vs v us Q I rx rv h
  obtain ⟨l, xs, y, rfl, rfl, hH, hz, q⟩ := h
  cases rx
  obtain ⟨u, rfl, ru⟩ := rv.one
  obtain ⟨z, its, n, r, hl, e⟩ := I.lstM hH
  refine call_meets F.slot_list_append ⟨_, e, rfl⟩ F.entry_list_append (F.args_list_append_2 _ _) (PySem.list_append l its.toArray n u (by rw [List.size_toArray]; omega)) ⟨e, ?_⟩
  refine ⟨.non, _, I.lset (its' := its ++ [u]) hH e (by simp) (r.append (.cons ru .nil)) ?_, rfl, q⟩
  rw [List.length_append, List.length_singleton]
  omega

def rPop : V → List V → Hp → VK → Prop := fun x vs H Q => ∃ l xs y, x = .ref l ∧ vs = [] ∧ H l = some (.lst xs) ∧ xs[xs.length - 1]? = some y ∧ Q y (upd H l (.lst xs.dropLast))
theorem mt_pop : MtM X "list.pop" rPop := by
  intro pins s σ H x vs v us Q I rx rv h
  obtain ⟨l, xs, y, rfl, rfl, hH, hy, q⟩ := h
  cases rx
  have hus := rv.zero
  subst hus
  obtain ⟨z, its, n, r, hl, e⟩ := I.lstM hH
  obtain ⟨u, hu, ru⟩ := r.get hy
  have hy' : its.toArray[its.toArray.size - 1]? = some u := by
    show its.toArray[its.length - 1]? = some u
    rw [← Array.getElem?_toList, ← hl]
    exact hu
  refine call_meets F.slot_list_pop ⟨_, e, rfl⟩ F.entry_list_pop (F.args_list_pop_1 _) (MeetsSeq.list_pop_last l its.toArray n u hy' (by rw [List.size_toArray]; omega)) ⟨e, ?_⟩
  refine ⟨y, _, I.lset (its' := its.dropLast) hH e ?_ r.dropLast ?_, ru, q⟩
  · show its.toArray.eraseIdxIfInBounds (its.toArray.size - 1) = its.dropLast.toArray
    rw [List.size_toArray, List.eraseIdxIfInBounds_toArray, erase_last]
  · rw [List.length_dropLast]
    omega

def rReverse : V → List V → Hp → VK → Prop := fun x vs H Q => ∃ l xs, x = .ref l ∧ vs = [] ∧ H l = some (.lst xs) ∧ Q .non (upd H l (.lst xs.reverse))
theorem mt_reverse : MtM X "list.reverse" rReverse := by
  intro pins s σ H x vs v us Q I rx rv h
  obtain ⟨l, xs, rfl, rfl, hH, q⟩ := h
  cases rx
  have hus := rv.zero
  subst hus
  obtain ⟨z, its, n, r, hl, e⟩ := I.lstM hH
  refine call_meets F.slot_list_reverse ⟨_, e, rfl⟩ F.entry_list_reverse (F.args_list_reverse_1 _) (AutoSeq1.list_reverse_list_0 l its.toArray n (by rw [List.size_toArray]; omega)) ⟨e, ?_⟩
  refine ⟨.non, _, I.lset (its' := its.reverse) hH e (by simp) r.reverse ?_, rfl, q⟩
  rw [List.length_reverse]
  omega

end

section
variable {prog : Program} {w : World} {A : Around} {E : Value → Shared → Prop} {s : Shared}
set_option maxRecDepth 100000 in
end

section
variable {X : Cx}
end
end L2

namespace Att
open PySem PySem.W PySem.Calls PyProof.Rows

theorem ints_of_wellAll {P : Params} {h : Heap} : ∀ (ns : List Int) (vs : List Value), WellAll P h vs (ns.map WData.int) → IntsAre vs ns := by
  intro ns
  induction ns with
  | nil =>
    intro vs w
    rw [List.map_nil] at w
    cases w
    exact .nil
  | cons n ns ih =>
    intro vs w
    rw [List.map_cons] at w
    cases w with
    | cons a b =>
      cases a
      exact .cons _ _ (ih _ b)

theorem script_of {l : OpenLaw} {n : Nat} (hn : l.most = some n) {P : Params} {h : Heap} {args : List WData} {vals : List Value}
    (hpre : l.row.toRowW.claim.pre args = true) (hwl : WellAll P h vals args) :
    ∃ a vs ns, vals = [Value.ref a] ∧ args = [WData.list (ns.map WData.int)] ∧ h.get? a = some { cls := .type "list", data := .seq vs.toArray } ∧ IntsAre vs ns ∧ ns.length ≤ n := by
  have hsh : WShape.hasAll [] args [.list .int] = true := (pre_splitW hpre).1
  have hc : l.pre.holds [] { args := args } = true := (pre_splitW hpre).2
  obtain ⟨d, r, rfl, h1, h2⟩ := hasAllW_cons hsh
  obtain rfl := hasAllW_nil h2
  obtain ⟨xs, rfl, h3⟩ := hasW_list h1
  obtain ⟨ns, rfl⟩ := items_int h3
  have hlen : ns.length ≤ n := by
    unfold OpenLaw.pre at hc
    have h4 : (WTm.not (.lt (.lit (.int (n : Int))) (.len (.arg 0)))).holds [] { args := [.list (ns.map .int)] } = true := by
      have h4 := (holds_andW hc).1
      rw [hn] at h4
      exact h4
    have h5 := condW_of h4 (w_not (w_lt w_lit (w_len_list (w_arg rfl))))
    rw [List.length_map] at h5
    refine Nat.le_of_not_lt fun q => ?_
    have q' : (n : Int) < ((ns.length : Nat) : Int) := by omega
    first
      | (rw [decide_eq_true q'] at h5; exact absurd h5 (by decide))
      | (simp at h5; omega)
  cases hwl with
  | cons w1 w2 =>
    cases w2
    cases w1 with
    | list ho hall => exact ⟨_, _, ns, rfl, rfl, ho, ints_of_wellAll ns _ hall, hlen⟩

theorem post_true (l : OpenLaw) (args : List WData) : l.row.toRowW.claim.post args (.bool true) args = true :=
  postW_of (r := l.row.toRowW) (X := (true == true))
    (show WShape.has [] (.bool true) .bool = true by first | rfl | decide | simp [WShape.has, WShape.arms, WShape.armsAll])
    (show (WTm.eq .res (.lit (.bool true))).value [] { args := args, res := some (.bool true), after := args } = some (.bool (true == true)) from w_eq_bool (w_res rfl) w_lit) rfl

theorem attach_call {l : OpenLaw} {n : Nat} {q : Program} {loose : List Str} {XP : (Str → Option Value) → Heap → Prop} {YP : World → Heap → Prop} {d : DefRec}
    (hn : l.most = some n) (hdf : d.params.defaults = [])
    (call : ∀ (w : World) (s₀ s₁ : Shared) (mg mb : Str → Option Value) (fa : Addr) (o : Obj) (pm cd doc : Value) (a : Addr) (vs : List Value) (ns : List Int),
      Ground q loose [] XP w s₀ mg mb s₁.heap → YP w s₁.heap →
      s₁.heap.get? fa = some o → o.data = .func (docDef d.name d.params d.body d.scope pm cd doc) → s₁.heap.CodeRec cd d.name → mg d.name = some (.ref fa) →
      s₁.heap.get? a = some { cls := .type "list", data := .seq vs.toArray } → IntsAre vs ns → ns.length ≤ n → s₁.gens = #[] →
      codeAny (model l.prog w) callerA (.call (.ref fa) ⟨[.ref a], []⟩) (fun r s' => r = .ok (.ret (.bool true)) ∧ OldK s₁.heap s'.heap ∧ s'.os = s₁.os ∧ AllBare s'.gens) s₁) :
    WalkO q loose XP YP l.row.toRowW d [] (fun f vs => PySem.call f vs) := by
  intro w s₀ s₁ mg mb G Y fa o pm cd doc dV kV ho hd hcd hD hmg hg args vals as hpre hlay hrd hwl hlo
  obtain rfl : dV = .none := Dflts.none hD hdf
  obtain rfl : kV = .none := Dflts.noKw hD
  obtain ⟨a, vs, ns, rfl, rfl, hobj, hints, hlen⟩ := script_of hn hpre hwl
  refine enter_call (codeAny_mono (call w s₀ s₁ mg mb fa o pm cd doc a vs ns G Y ho (fd_plain hd) hcd hmg hobj hints hlen hg) fun r s' hq => ?_)
  obtain ⟨rfl, h2, h3, h4⟩ := hq
  exact ⟨.inl ⟨.bool true, .bool true, [], rfl, fun _ => rfl, .bool true, post_true l _, fun _ => ⟨List.Pairwise.nil, fun _ hm => (nomatch hm)⟩⟩, h2, h3, h4⟩

section
variable {prog : Program} {w : World} {A : Around} {E : Value → Shared → Prop} {s : Shared} {K : Frag}

def ledger (h : Heap) (L d : Addr) : List (Addr × Obj) := (List.range h.objs.size).filterMap fun a => if a = L ∨ a = d then none else (h.get? a).map fun o => (a, o)
end
end Att

namespace L2
open PySem PySem.Spec PyProof.Rows

theorem vals_ints : ∀ {vs : List Value} {ns : List Int}, IntsAre vs ns → Vals (ns.map V.int) vs
  | _, _, .nil => .nil
  | _, _, .cons n t h => .cons ⟨t, rfl⟩ (vals_ints h)

def Only (H : Hp) : Prop := ∀ b, H b = none ∨ ∃ o xs, H b = some (.frz o (.lst xs))

theorem law_call {P : Program} {w : World} {K : PySem.W.Frag} {mg mb : Str → Option Value} {CX : CXT} {k : Nat} {fa a : Addr} {fd : FuncData} {x : Str} {sp : Sp} {s₁ : Shared} {vs : List Value} {ns : List Int}
    (KX : K.In s₁.heap) (hns : s₁.heap.Ns mainGlobals mg) (hb : s₁.heap.Ns builtinsNs mb) (hbb : ∀ x : Str, x ≠ "__name__" → mb x = bootBuiltins x) (hlim : s₁.heap.NoLimit) (hg : s₁.gens = #[])
    (ha : s₁.heap.get? a = some { cls := .type "list", data := .seq vs.toArray }) (hi : IntsAre vs ns) (hl : ns.length ≤ sizeLine) (hr : Room k callerA)
    (F : ∀ base : Heap, K.In base → base.Ns mainGlobals mg → FnOk P w K mg base CX k fa fd [x] sp) (hbind : ∀ (s : Shared) (u : Value), BindsTo s fd ⟨[u], []⟩ [(x, u)])
    (hsp : ∀ H : Hp, Only H → SqL K H a (ns.map V.int) → sp [.ref a] H (fun v _ => v = .bl true) fun _ _ _ => False)
    (hCX : ∀ H e s', CX [] H s₁ (fun _ _ _ => False) e s' → False) :
    codeAny (model P w) callerA (.call (.ref fa) ⟨[.ref a], []⟩) (fun r s' => r = .ok (.ret (.bool true)) ∧ OldK s₁.heap s'.heap ∧ s'.os = s₁.os ∧ AllBare s'.gens) s₁ := by
  have rv := vals_ints hi
  have lenV := hi.length
  -- from an abstract heap in which nothing but the script may be tracked
  have core : ∀ H : Hp, Only H → SqL K H a (ns.map V.int) → HOk P w H s₁.heap → (∀ b, H b ≠ none → b = a) → (H a ≠ none → K.lookup a = none) →
      codeAny (model P w) callerA (.call (.ref fa) ⟨[.ref a], []⟩) (fun r s' => r = .ok (.ret (.bool true)) ∧ OldK s₁.heap s'.heap ∧ s'.os = s₁.os ∧ AllBare s'.gens) s₁ := by
    intro H hO hS hok hA hK
    have base_of : ∀ {b : Addr} {o : Obj}, s₁.heap.get? b = some o → H b = none → (hidT s₁.heap H).get? b = some o := fun e n => hidT_get e n
    have noA : ∀ {b : Addr} {o : Obj} {es : Array DictEntry} {ep : Nat}, s₁.heap.get? b = some o → o.data = .dict es ep → H b = none := fun {b o es ep} e d => by
      cases q : H b with
      | none => rfl
      | some u =>
        have e' : b = a := hA b (by rw [q]; simp)
        subst e'
        rw [ha] at e; cases e
        have d' : Data.seq vs.toArray _ = Data.dict es ep := d
        cases d'
    have nsK : ∀ {b : Addr} {m : Str → Option Value}, s₁.heap.Ns b m → (hidT s₁.heap H).Ns b m := fun {b m} ⟨o, es, ep, e, d, r⟩ => ⟨o, es, ep, base_of e (noA e d), d, r⟩
    have hKb : K.In (hidT s₁.heap H) := fun b o e => base_of (KX b o e) (by
      cases q : H b with
      | none => rfl
      | some u =>
        have e' : b = a := hA b (by rw [q]; simp)
        subst e'
        rw [hK (by rw [q]; simp)] at e; cases e)
    have hM : Mod K mg (hidT s₁.heap H) := ⟨hKb, nsK hns, ⟨mb, nsK hb, hbb⟩, let ⟨mc, h1, h2⟩ := hlim; ⟨mc, nsK h1, h2⟩⟩
    have e0 : Env0 P w K mg (hidT s₁.heap H) callerA [] s₁ H := ⟨rfl, hM, fun b o e => of_hidT e, Nat.le_of_eq (hidT_size _ _), trivial, fun b hb => absurd (show b ∈ ([] : List Addr) from hb) (by simp), hok, .of_eq hg⟩
    refine codeAny_mono ((F _ hKb (nsK hns)).run callerA [] s₁ H ⟨[.ref a], []⟩ [.ref a] [.ref a] _ _ hr e0 (hbind s₁ (.ref a)) (.cons rfl .nil) (hsp H hO hS)) fun r s' h => ?_
    cases r with
    | error e => exact (hCX H e s' h).elim
    | ok fl =>
      cases fl with
      | next => exact False.elim h
      | brk => exact False.elim h
      | cont => exact False.elim h
      | ret u =>
        obtain ⟨v, H', os, bare, un, hok', r', q⟩ := h
        have q' : v = .bl true := q
        subst q'
        obtain rfl : u = Value.bool true := r'
        refine ⟨rfl, OldK.of_keep fun b o e => ?_, os, bare⟩
        cases q : H b with
        | none => exact un.keep b o e q (by intro z; exact absurd (show b ∈ ([] : List Addr) from z) (by simp)) (by simp)
        | some u =>
          rcases hO b with z | ⟨ob, xs, z⟩
          · rw [q] at z; cases z
          · have z2 := un.frzs b ob _ z
            obtain ⟨e1, _⟩ := hok b _ z
            obtain ⟨e2, _⟩ := hok' b _ z2
            rw [e] at e1; cases e1
            exact e2
  cases hk : K.lookup a with
  | some o =>
    -- the script is one of the module's own objects
    have e := KX a o hk
    rw [ha] at e
    cases e
    refine core (fun _ => none) (fun _ => .inl rfl) (.inr ⟨_, vs.toArray, _, hk, rfl, rfl, rfl, by rw [List.size_toArray, lenV]; exact hl, by simpa using rv⟩) (fun b u z => by have z' : (none : Option HO) = some u := z; cases z') (fun b z => absurd rfl z) fun z => absurd rfl z
  | none =>
    refine core (fun b => if b = a then some (.frz { cls := .type "list", data := .seq vs.toArray } (.lst (ns.map V.int))) else none) (fun b => ?_) (.inl (.inr ⟨{ cls := .type "list", data := .seq vs.toArray }, if_pos rfl⟩)) (fun b u z => ?_) (fun b z => ?_) fun _ => hk
    · by_cases hb : b = a
      · exact .inr ⟨_, _, if_pos hb⟩
      · exact .inl (if_neg hb)
    · by_cases hb : b = a
      · have z' := (if_pos hb).symm.trans z
        cases z'
        subst hb
        exact ⟨ha, by rw [List.length_map]; exact hl, vs, _, rv, ha⟩
      · have z' := (if_neg hb).symm.trans z
        cases z'
    · by_cases hb : b = a
      · exact hb
      · exact absurd (if_neg hb) z
end L2

namespace L2
open PySem PySem.Spec PyProof.Rows

abbrev KOf {K : PySem.W.Frag} {h : Heap} (_ : K.In h) : PySem.W.Frag := K

theorem walk_of {l : PySem.W.OpenLaw} {n k : Nat} {q : Program} {loose : List Str} {XP : (Str → Option Value) → Heap → Prop} {YP : World → Heap → Prop} {d : DefRec} {K : Params → PySem.W.Frag} {CX : World → CXT} {sp : World → Sp} {x : Str}
    (hn : l.most = some n) (hn2 : n ≤ sizeLine) (hdf : d.params.defaults = []) (hr : Room k callerA)
    (hY : ∀ (w : World) (h : Heap), YP w h → (K w.params).In h)
    (F : ∀ (w : World) (mg : Str → Option Value) (fa : Addr) (h : Heap), (K w.params).In h → h.Ns mainGlobals mg → mg d.name = some (.ref fa) →
      ∃ fd : FuncData, (∀ (s : Shared) (u : Value), BindsTo s fd ⟨[u], []⟩ [(x, u)]) ∧
        ∀ base : Heap, (K w.params).In base → base.Ns mainGlobals mg → FnOk l.prog w (K w.params) mg base (CX w) k fa fd [x] (sp w))
    (hsp : ∀ (w : World) (H : Hp) (a : Addr) (ns : List Int), ns.length ≤ n → Only H → SqL (K w.params) H a (ns.map V.int) → sp w [.ref a] H (fun v _ => v = .bl true) fun _ _ _ => False)
    (hCX : ∀ (w : World) (H : Hp) (s : Shared) (e : Value) (s' : Shared), CX w [] H s (fun _ _ _ => False) e s' → False) :
    PySem.W.WalkO q loose XP YP l.row.toRowW d [] (fun f vs => PySem.call f vs) := by
  refine Att.attach_call hn hdf fun w s₀ s₁ mg mb fa o pm cd doc a vs ns G Y ho hd hcd hmg hobj hints hlen hg => ?_
  have KX := hY w _ Y
  obtain ⟨fd, hb, hF⟩ := F w mg fa _ KX G.T.g hmg
  exact law_call KX G.T.g G.T.b G.T.builtins G.T.nolimit hg hobj hints (Nat.le_trans hlen hn2) hr hF hb (fun H hO hS => hsp w H a ns hlen hO hS) fun H e s' => hCX w H s₁ e s'
end L2


namespace L2
open PySem PySem.Spec PyProof.Rows

def defArgs (s : Stmt) : Arguments := match s with
  | .FunctionDef _ a _ _ _ _ _ _ _ _ => a
  | _ => { posonlyargs := [], args := [], vararg := none, kwonlyargs := [], kw_defaults := [], kwarg := none, defaults := [] }
def defBody (s : Stmt) : List Stmt := match s with
  | .FunctionDef _ _ b _ _ _ _ _ _ _ => b
  | _ => []
def defScope (s : Stmt) : Scope := match s with
  | .FunctionDef _ _ _ _ _ _ sc _ _ _ => sc
  | _ => { kind := .function, names := [], isGenerator := false, isCoroutine := false }

abbrev CX0 : CXT := fun _ _ _ _ _ _ => False
abbrev E0 : XK := fun _ _ _ => False
theorem pass0 {X : Cx} : Passes CX0 X E0 := fun _ _ _ _ _ _ _ h => h.elim

structure Fun (K : PySem.W.Frag) (x qual : Str) (st : Stmt) (f : Addr) (fd : FuncData) : Prop where
  ex : ∃ (oc : Value) (od : Option Addr) (kV doc pm : Value) (an : Option Addr) (cdv ct : Value) (osl : Array (Option Value)),
    fd = PySem.W.fnOf x qual (defArgs st) (defBody st) (defScope st) .none kV doc pm an cdv ct ∧ K.lookup f = some ⟨oc, od, .func fd, osl⟩ ∧ PySem.W.codeIn K cdv qual = true
  kp : PySem.W.keepIn K (.ref f) = true
section
variable {P : Program} {w : World} {K : PySem.W.Frag} {mg : Str → Option Value} {base : Heap}
theorem Fun.ok {x qual : Str} {st : Stmt} {f : Addr} {fd : FuncData} {N ps : List Str} {k : Nat} {sp : Sp} (F : Fun K x qual st f fd) (S : FnScope N ps (defScope st)) (len : ∀ vs H Q E, sp vs H Q E → vs.length = ps.length)
    (hbody : ∀ (cdv : Value) (A : Around) (outer : List Env) (s : Shared) (H : Hp) (vs : List V) (Q : VK) (E : XK), Room k (A.deeper (envOfC qual (defScope st) s.heap.objs.size f cdv)) → sp vs H Q E →
      ∃ t, PSs (cxOf CX0 P w K mg base N qual (defScope st) f cdv A outer s H E).nox (defBody st) t ∧ t { nx := fun _ H' => Q .non H', rt := Q } (start N vs) H) : FnOk P w K mg base CX0 (k + 1) f fd ps sp := by
  obtain ⟨oc, od, kV, doc, pm, an, cdv, ct, osl, rfl, lk, hcd⟩ := F.ex
  refine fn_of lk hcd S len fun A outer s H vs Q E hr hsp => ?_
  obtain ⟨t, h, q⟩ := hbody cdv A outer s H vs Q E hr hsp
  exact ⟨t, h.nox, q⟩
theorem Fun.binds {x qual : Str} {st : Stmt} {f : Addr} {fd : FuncData} {ps : List Str} (F : Fun K x qual st f fd)
    (h : ∀ (kV doc pm : Value) (an : Option Addr) (cdv ct : Value) (us : List Value), us.length = ps.length → bindArgs (PySem.W.fnOf x qual (defArgs st) (defBody st) (defScope st) .none kV doc pm an cdv ct) ⟨us, []⟩ = pure (ps.zip us)) : Binds K fd ps [] := by
  obtain ⟨oc, od, kV, doc, pm, an, cdv, ct, osl, rfl, lk, hcd⟩ := F.ex
  exact .all (h kV doc pm an cdv ct)
theorem fun_mk {x qual : Str} {st : Stmt} {f : Addr} {oc : Value} {od an : Option Addr} {osl : Array (Option Value)} {kV doc pm cdv ct : Value} (l : K.lookup f = some ⟨oc, od, .func (PySem.W.fnOf x qual (defArgs st) (defBody st) (defScope st) .none kV doc pm an cdv ct), osl⟩)
    (c : PySem.W.codeIn K cdv qual = true) (k : PySem.W.keepIn K (.ref f) = true) : Fun K x qual st f (PySem.W.fnOf x qual (defArgs st) (defBody st) (defScope st) .none kV doc pm an cdv ct) := ⟨⟨oc, od, kV, doc, pm, an, cdv, ct, osl, rfl, l, c⟩, k⟩
end
section
variable {X : Cx}
end

theorem iteF {A B : Prop} (h : B) : if false = true then A else B := by
  rw [if_neg Bool.false_ne_true]
  exact h
theorem iteT {A B : Prop} (h : A) : if true = true then A else B := by
  rw [if_pos rfl]
  exact h
theorem ite2 {c A B : Prop} [Decidable c] (h1 : c → A) (h2 : ¬ c → B) : if c then A else B := by
  by_cases h : c
  · rw [if_pos h]
    exact h1 h
  · rw [if_neg h]
    exact h2 h
def Same (H H' : Hp) : Prop := ∀ b o, H b = some o → H' b = some o
theorem Same.refl (H : Hp) : Same H H := fun _ _ h => h
theorem Same.trans {H H1 H2 : Hp} (a : Same H H1) (b : Same H1 H2) : Same H H2 := fun c o h => b c o (a c o h)
theorem Same.free {H H' : Hp} (e : Same H H') {l : Addr} (h : H' l = Option.none) : H l = Option.none := by
  cases q : H l with
  | none => rfl
  | some o =>
    rw [e l o q] at h
    cases h
theorem Same.seq {K : PySem.W.Frag} {H H' : Hp} {a : Addr} {xs : List V} (e : Same H H') (h : SqL K H a xs) : SqL K H' a xs := by
  rcases h with (h | ⟨o, h⟩) | h
  · exact .inl (.inl (e _ _ h))
  · exact .inl (.inr ⟨o, e _ _ h⟩)
  · exact .inr h

end L2

set_option maxRecDepth 1000000
set_option maxHeartbeats 0
open PySem in
def My.top (i : Nat) : Stmt := PySem.Challenge.pw_oddbases_k57_numbers_as_texts.main.body.getD i (.Pass ⟨0, 0, 0, 0⟩)
noncomputable section
open PySem My
namespace My
abbrev v_ : Option Value := some (.ref 6)
abbrev g_ : Array GenState := ⟨[]⟩
abbrev d_ := @Drawn.mk 0 0 0 0
abbrev P_ := @Pos.mk
abbrev N_ (o : Params → Obj) (a b : Params → W.BT) (x : Params) : W.BT := .node (o x) (a x) (b x)
abbrev Z_ (_ : Params) : W.BT := .nil
abbrev L_ (o : Params → Obj) := N_ o Z_ Z_
theorem sg_ {tb p w n₀ ann b} {n : Nat} {s s' : W.SharedT} {t : Thread} {f : Flow} {c : Code} {q : Pos} (h : W.segRunT tb p w n₀ ann b n s t = some (f, s', c, q)) : W.segRun tb p w n₀ ann b n s.abs t = some (f, s'.abs, c, q) := W.segRun_of h
abbrev p_ (a : String) (b : Nat) : Value := .str (.ofString a) b
abbrev j_ (a : Int) (b : Nat) : Value := .int a b
abbrev r_ (a : Nat) : Value := .ref a
abbrev e_ (x : Params) (a : String) (b : Nat) (v : Value) : DictEntry := ⟨PyData.keyHash x (.ofString a), .str (.ofString a) b, v⟩
abbrev t0 (a1 : String) (a3 : Nat) (a7 : String) (a8 a9 : Nat) (x : Params) : Obj := (@Obj.mk (.type "function") none (@Data.func (@FuncData.mk (.ofString a1) (.ofString a1) (L2.defArgs (My.top a3)) (@FuncBody.stmts (L2.defBody (My.top a3))) (L2.defScope (My.top a3)) 3 (@List.nil (@Prod @Str @Nat)) .none .none .none (p_ a7 a8) none (r_ a9) .none 0)) #[])
abbrev t1 (a1 : String) (a2 a4 a6 : Nat) (a7 a9 : Int) (a17 a20 a21 a22 a23 : Nat) (a24 : Int) (a29 : Nat) (x : Params) : Obj := (@Obj.mk (.type "code") none (@Data.fields (List.toArray [(p_ a1 a2), (p_ a1 a4), (p_ "/claim/cut.py" a6), (j_ a7 0), (j_ a9 0), (j_ 0 0), (j_ 0 0), (j_ 3 0), (r_ a17), (.bool @Bool.true), (j_ 181 0), (r_ a20), .none, (r_ a21), (r_ a22), (r_ a23), (j_ a24 0), (j_ a7 0), (p_ "/claim/cut.py" a29)])) #[])
abbrev t2 (a0 : String) (a2 : Nat) (x : Params) : Obj := (@Obj.mk .none none (@Data.func (@FuncData.mk (.ofString a0) (.ofString a0) (L2.defArgs (My.top a2)) (@FuncBody.stmts (L2.defBody (My.top a2))) (L2.defScope (My.top a2)) 0 (@List.nil (@Prod @Str @Nat)) .none .none .none .none none .none .none 0)) #[])
abbrev t3 (x : Params) : Obj := (@Obj.mk (.type "tuple") none (@Data.seq #[] 0) #[])
abbrev t4 (x : Params) : Obj := (@Obj.mk .none none (@Data.fields #[]) #[])
abbrev t5 (a1 : String) (a2 : Nat) (a3 : String) (a4 : Nat) (a5 : String) (a6 : Nat) (a7 : String) (a8 : Nat) (x : Params) : Obj := (@Obj.mk (.type "tuple") none (@Data.seq (List.toArray [(p_ a1 a2), (p_ a3 a4), (p_ a5 a6), (p_ a7 a8)]) 0) #[])
abbrev t6 (a1 : String) (a2 : Nat) (x : Params) : Obj := (@Obj.mk (.type "tuple") none (@Data.seq (List.toArray [(p_ a1 a2)]) 0) #[])
abbrev t7 (a1 : String) (a2 : Nat) (a3 : String) (a4 : Nat) (a5 : String) (a6 : Nat) (x : Params) : Obj := (@Obj.mk (.type "tuple") none (@Data.seq (List.toArray [(p_ a1 a2), (p_ a3 a4), (p_ a5 a6)]) 0) #[])
abbrev t8 (a1 : String) (a2 : Nat) (a3 : String) (a4 : Nat) (x : Params) : Obj := (@Obj.mk (.type "tuple") none (@Data.seq (List.toArray [(p_ a1 a2), (p_ a3 a4)]) 0) #[])
abbrev t9 (a2 : Nat) (x : Params) : Obj := (@Obj.mk (.type "builtin_function_or_method") none (@Data.fields (List.toArray [(.builtin "object.__init_subclass__"), (r_ a2)])) #[])
abbrev t10 (a1 : Nat) (x : Params) : Obj := (@Obj.mk (.type "super") none (@Data.fields (List.toArray [(r_ a1), (r_ a1), (r_ a1)])) #[])
abbrev t11 (a1 a3 : Nat) (a4 : String) (a5 : Nat) (x : Params) : Obj := (@Obj.mk (.type "frame") none @Data.plain (@List.toArray (@Option @Value) [(some (r_ a1)), (some (r_ 3)), (some (r_ a3)), none, (some (p_ a4 a5)), none, (some (r_ 0))]))
abbrev t12 (a1 : String) (a2 a4 a6 : Nat) (a7 : Int) (a17 a20 : Nat) (a21 : Int) (a26 : Nat) (x : Params) : Obj := (@Obj.mk (.type "code") none (@Data.fields (List.toArray [(p_ a1 a2), (p_ a1 a4), (p_ "/claim/cut.py" a6), (j_ a7 0), (j_ 0 0), (j_ 0 0), (j_ 0 0), (j_ 0 0), (r_ a17), (.bool @Bool.false), (j_ 181 0), (r_ a20), .none, .none, .none, .none, (j_ a21 0), (j_ a7 0), (p_ "/claim/cut.py" a26)])) #[])
abbrev t13 (a3 a8 : Nat) (a9 : String) (a10 a13 : Nat) (a14 : Int) (a15 a18 a19 : Nat) (x : Params) : Obj := (@Obj.mk (.type "dict") none (@Data.dict (List.toArray [(e_ x "__module__" a3 (p_ "oddbases.errors" 187)), (e_ x "__qualname__" a8 (p_ a9 a10)), (e_ x "__firstlineno__" a13 (j_ a14 a15)), (e_ x "__static_attributes__" a18 (r_ a19))]) 4) #[])
abbrev t14 (x : Params) : Obj := (@Obj.mk (.type "builtin_function_or_method") none (@Data.fields (List.toArray [(.builtin "type.__prepare__"), (.type "type")])) #[])
def o213 := t0 "law" 25 "law_oddbases_k57_numbers_as_texts" 284 169
def o212 := t1 "law" 379 380 381 121 1 164 165 166 167 168 387 388
def o211 := t2 "law" 25
def o210 := t3
def o209 (x : Params) : Obj := (@Obj.mk (.type "tuple") none (@Data.seq (List.toArray [(p_ "_law_script" 382), (p_ "_law_cell" 383), (p_ "_law_number_here" 384), (p_ "_law_text_here" 385), (p_ "_law_nines" 386)]) 0) #[])
def o208 := t4
def o206 := t0 "_law_long_shown" 24 "law_oddbases_k57_numbers_as_texts" 284 162
def o205 := t1 "_law_long_shown" 369 370 371 113 1 157 158 159 160 161 376 377
def o204 := t2 "_law_long_shown" 24
def o202 := t5 "_law_cell" 372 "_law_long" 373 "_law_number_here" 374 "_law_text_here" 375
def o197 := t0 "_law_spoilt" 23 "law_oddbases_k57_numbers_as_texts" 284 155
def o196 := t1 "_law_spoilt" 357 358 359 103 2 150 151 152 153 154 366 367
def o195 := t2 "_law_spoilt" 23
def o193 (x : Params) : Obj := (@Obj.mk (.type "tuple") none (@Data.seq (List.toArray [(p_ "_law_text_here" 360), (p_ "_law_cell" 361), (p_ "_law_signs" 362), (p_ "_law_sign" 363), (p_ "_law_at" 364), (p_ "_law_way" 365)]) 0) #[])
def o190 := t0 "_law_number" 22 "law_oddbases_k57_numbers_as_texts" 284 148
def o189 := t1 "_law_number" 350 351 352 99 1 143 144 145 146 147 354 355
def o188 := t2 "_law_number" 22
def o186 := t6 "_law_cell" 353
def o183 := t0 "_law_one" 21 "law_oddbases_k57_numbers_as_texts" 284 141
def o182 := t1 "_law_one" 341 342 343 95 1 136 137 138 139 140 347 348
def o181 := t2 "_law_one" 21
def o179 := t7 "_law_cell" 344 "_law_size" 345 "_law_rest" 346
def o176 := t0 "_law_read" 20 "law_oddbases_k57_numbers_as_texts" 284 134
def o175 := t1 "_law_read" 331 332 333 84 1 129 130 131 132 133 338 339
def o174 := t2 "_law_read" 20
def o172 := t5 "_law_text_here" 334 "_law_found" 335 "_law_refused" 336 "_law_due" 337
def o169 := t0 "_law_text" 19 "law_oddbases_k57_numbers_as_texts" 284 127
def o168 := t1 "_law_text" 324 325 326 80 1 122 123 124 125 126 328 329
def o167 := t2 "_law_text" 19
def o165 := t6 "_law_number_here" 327
def o162 := t0 "_law_number_of" 18 "law_oddbases_k57_numbers_as_texts" 284 120
def o161 (x : Params) : Obj := (@Obj.mk (.type "code") none (@Data.fields (List.toArray [(p_ "_law_number_of" 318), (p_ "_law_number_of" 319), (p_ "/claim/cut.py" 320), (j_ 73 0), (j_ 1 0), (j_ 0 0), (j_ 0 0), (j_ 3 0), (r_ 117), (.bool @Bool.true), (j_ 181 0), (r_ 118), .none, .none, .none, (r_ 119), (j_ 321 0), (j_ 73 0), (p_ "/claim/cut.py" 322)])) #[])
def o160 := t2 "_law_number_of" 18
def o157 := t0 "_law_whole_of" 17 "law_oddbases_k57_numbers_as_texts" 284 115
def o156 := t1 "_law_whole_of" 309 310 311 61 1 110 111 112 113 114 315 316
def o155 := t2 "_law_whole_of" 17
def o153 := t7 "_law_text_here" 312 "_law_figures" 313 "_law_sign" 314
def o150 := t0 "_law_alike" 16 "law_oddbases_k57_numbers_as_texts" 284 108
def o149 := t1 "_law_alike" 301 302 303 55 2 103 104 105 106 107 306 307
def o148 := t2 "_law_alike" 16
def o146 := t8 "_law_found" 304 "_law_due" 305
def o143 := t0 "_law_whole" 15 "law_oddbases_k57_numbers_as_texts" 284 101
def o142 := t1 "_law_whole" 294 295 296 53 1 96 97 98 99 100 298 299
def o141 := t2 "_law_whole" 15
def o139 := t6 "_law_found" 297
def o136 := t0 "_law_cell_at" 14 "law_oddbases_k57_numbers_as_texts" 284 94
def o135 := t1 "_law_cell_at" 286 287 288 49 2 89 90 91 92 93 291 292
def o134 := t2 "_law_cell_at" 14
def o132 := t8 "_law_script" 289 "_law_k" 290
def o129 := t0 "number_read" 12 "oddbases.texts" 239 87
def o128 := t1 "number_read" 276 277 278 41 1 82 83 84 85 86 281 282
def o127 := t2 "number_read" 12
def o125 := t8 "text" 279 "parts" 280
def o122 := t0 "whole_read" 11 "oddbases.texts" 239 80
def o121 := t1 "whole_read" 268 269 270 34 1 75 76 77 78 79 273 274
def o120 := t2 "whole_read" 11
def o118 := t8 "text" 271 "figures" 272
def o113 := t0 "has_figures_alone" 10 "oddbases.texts" 239 73
def o112 := t1 "has_figures_alone" 260 261 262 29 1 68 69 70 71 72 265 266
def o111 := t2 "has_figures_alone" 10
def o109 := t8 "text" 263 "sign" 264
def o106 := t0 "number_shown" 9 "oddbases.texts" 239 66
def o105 := t1 "number_shown" 253 254 255 25 1 61 62 63 64 65 257 258
def o104 := t2 "number_shown" 9
def o102 := t6 "number" 256
def o99 := t0 "whole_shown" 8 "oddbases.texts" 239 59
def o98 := t1 "whole_shown" 243 244 245 13 1 54 55 56 57 58 250 251
def o97 := t2 "whole_shown" 8
def o95 := t5 "number" 246 "limit" 247 "parts" 248 "rest" 249
def o92 := t0 "is_pair" 5 "oddbases.pairs" 223 52
def o91 := t1 "is_pair" 232 233 234 9 1 47 48 49 50 51 236 237
def o90 := t2 "is_pair" 5
def o88 := t6 "value" 235
def o85 := t0 "is_whole" 4 "oddbases.pairs" 223 45
def o84 := t1 "is_whole" 225 226 227 7 1 40 41 42 43 44 229 230
def o83 := t2 "is_whole" 4
def o81 := t6 "value" 228
def o78 := t9 37
def o77 := t10 37
def o76 (x : Params) : Obj := (@Obj.mk (.type "type") none (@Data.cls (@ClassData.mk (.ofString "NoText") [(r_ 24)] [(r_ 37), (r_ 24), (.type "ValueError"), (.type "Exception"), (.type "BaseException"), (.type "object")] 36 (.ofString "NoText") @Bool.true [] [] @Bool.false (@Option.none @Bool) @Bool.false)) (@List.toArray (@Option @Value) [(some (r_ 28)), none, (some (p_ "NoText" 207)), (some (p_ "NoText" 215)), (some (.builtin "ValueError.__new__")), (some (.bool @Bool.true))]))
def o75 (x : Params) : Obj := (@Obj.mk (.type "dict") none (@Data.dict (List.toArray [(e_ x "__module__" 214 (p_ "oddbases.errors" 187)), (e_ x "__firstlineno__" 218 (j_ 4 217)), (e_ x "__static_attributes__" 219 (r_ 35)), (e_ x "__doc__" 220 .none)]) 2) #[])
def o73 := t11 33 30 "oddbases.errors" 187
def o72 := t12 "NoText" 209 210 211 4 31 32 212 213
def o69 := t13 214 216 "NoText" 215 218 4 217 219 35
def o68 := t14
def o67 (x : Params) : Obj := (@Obj.mk (.type "tuple") none (@Data.seq (List.toArray [(r_ 24)]) 0) #[])
def o63 := t9 24
def o62 := t10 24
def o61 (x : Params) : Obj := (@Obj.mk (.type "getset_descriptor") none (@Data.fields (List.toArray [(p_ "__weakref__" 202), (r_ 24), (.builtin "ExceptionGroup.__weakref__"), .none])) #[])
def o66 (x : Params) : Obj := (@Obj.mk (.type "type") none (@Data.cls (@ClassData.mk (.ofString "OddError") [(.type "ValueError")] [(r_ 24), (.type "ValueError"), (.type "Exception"), (.type "BaseException"), (.type "object")] 23 (.ofString "OddError") @Bool.true [] [(r_ 37)] @Bool.false (@Option.none @Bool) @Bool.false)) (@List.toArray (@Option @Value) [(some (r_ 15)), none, (some (p_ "OddError" 189)), (some (p_ "OddError" 197)), (some (.builtin "ValueError.__new__")), (some (.bool @Bool.true))]))
def o59 (x : Params) : Obj := (@Obj.mk (.type "dict") none (@Data.dict (List.toArray [(e_ x "__module__" 196 (p_ "oddbases.errors" 187)), (e_ x "__firstlineno__" 200 (j_ 2 199)), (e_ x "__static_attributes__" 201 (r_ 22)), (e_ x "__weakref__" 203 (r_ 25)), (e_ x "__doc__" 204 .none)]) 3) #[])
def o57 := t11 20 17 "oddbases.errors" 187
def o56 := t12 "OddError" 191 192 193 2 18 19 194 195
def o53 := t13 196 198 "OddError" 197 200 2 199 201 22
def o51 (x : Params) : Obj := (@Obj.mk (.type "tuple") none (@Data.seq (List.toArray [(.type "ValueError")]) 0) #[])
def o46 := t11 13 3 "__main__" 164
def o45 := t12 "<module>" 182 183 184 1 11 12 185 186
def o199 (x : Params) : Obj := (@Obj.mk .none none (@Data.fields (List.toArray ((j_ 2 0) :: (j_ 0 0) :: (r_ 20) :: (j_ 4 0) :: (j_ 0 0) :: (r_ 33) :: (j_ 7 0) :: (j_ 0 0) :: (r_ 45) :: (j_ 9 0) :: (j_ 0 0) :: (r_ 52) :: (j_ 13 0) :: (j_ 0 0) :: (r_ 59) :: (j_ 25 0) :: (j_ 0 0) :: (r_ 66) :: (j_ 29 0) :: (j_ 0 0) :: (r_ 73) :: (j_ 34 0) :: (j_ 0 0) :: (r_ 80) :: (j_ 41 0) :: (j_ 0 0) :: (r_ 87) :: (j_ 49 0) :: (j_ 0 0) :: (r_ 94) :: (j_ 53 0) :: (j_ 0 0) :: (r_ 101) :: (j_ 55 0) :: (j_ 0 0) :: (r_ 108) :: (j_ 61 0) :: (j_ 0 0) :: (r_ 115) :: (j_ 73 0) :: (j_ 0 0) :: (r_ 120) :: (j_ 80 0) :: (j_ 0 0) :: (r_ 127) :: (j_ 84 0) :: (j_ 0 0) :: (r_ 134) :: (j_ 95 0) :: (j_ 0 0) :: (r_ 141) :: (j_ 99 0) :: (j_ 0 0) :: (r_ 148) :: (j_ 103 0) :: (j_ 0 0) :: (r_ 155) :: (j_ 113 0) :: (j_ 0 0) :: (r_ 162) :: (j_ 121 0) :: (j_ 0 0) :: (r_ 169) :: []))) #[])
def o198 (x : Params) : Obj := (@Obj.mk (.type "dict") none (@Data.dict (List.toArray [(e_ x "__name__" 165 (p_ "law_oddbases_k57_numbers_as_texts" 284)), (e_ x "__doc__" 166 .none), (e_ x "__package__" 167 .none), (e_ x "__loader__" 168 (.builtin "__main__.__loader__#opaque")), (e_ x "__spec__" 169 .none), (e_ x "__annotations__" 170 (r_ 6)), (e_ x "__builtins__" 171 (r_ 4)), (e_ x "__file__" 173 (p_ "/claim/cut.py" 172)), (e_ x "__cached__" 174 .none), (e_ x "OddError" 206 (r_ 24)), (e_ x "NoText" 222 (r_ 37)), (e_ x "is_whole" 231 (r_ 46)), (e_ x "is_pair" 238 (r_ 53)), (e_ x "FIGURES" 242 (p_ "0123456789" 241)), (e_ x "whole_shown" 252 (r_ 60)), (e_ x "number_shown" 259 (r_ 67)), (e_ x "has_figures_alone" 267 (r_ 74)), (e_ x "whole_read" 275 (r_ 81)), (e_ x "number_read" 283 (r_ 88)), (e_ x "_law_cell_at" 293 (r_ 95)), (e_ x "_law_whole" 300 (r_ 102)), (e_ x "_law_alike" 308 (r_ 109)), (e_ x "_law_whole_of" 317 (r_ 116)), (e_ x "_law_number_of" 323 (r_ 121)), (e_ x "_law_text" 330 (r_ 128)), (e_ x "_law_read" 340 (r_ 135)), (e_ x "_law_one" 349 (r_ 142)), (e_ x "_law_number" 356 (r_ 149)), (e_ x "_law_spoilt" 368 (r_ 156)), (e_ x "_law_long_shown" 378 (r_ 163)), (e_ x "law" 389 (r_ 170))]) 31) #[])
abbrev Y0 := N_ o210 (L_ o210) Z_
def myAs : List Nat := ((nat_lit 2) :: (nat_lit 3) :: (nat_lit 15) :: (nat_lit 22) :: (nat_lit 23) :: (nat_lit 24) :: (nat_lit 25) :: (nat_lit 28) :: (nat_lit 35) :: (nat_lit 36) :: (nat_lit 37) :: (nat_lit 40) :: (nat_lit 42) :: (nat_lit 43) :: (nat_lit 45) :: (nat_lit 46) :: (nat_lit 47) :: (nat_lit 49) :: (nat_lit 50) :: (nat_lit 52) :: (nat_lit 53) :: (nat_lit 54) :: (nat_lit 56) :: (nat_lit 57) :: (nat_lit 59) :: (nat_lit 60) :: (nat_lit 61) :: (nat_lit 63) :: (nat_lit 64) :: (nat_lit 66) :: (nat_lit 67) :: (nat_lit 68) :: (nat_lit 70) :: (nat_lit 71) :: (nat_lit 73) :: (nat_lit 74) :: (nat_lit 75) :: (nat_lit 77) :: (nat_lit 78) :: (nat_lit 80) :: (nat_lit 81) :: (nat_lit 82) :: (nat_lit 84) :: (nat_lit 85) :: (nat_lit 87) :: (nat_lit 88) :: (nat_lit 89) :: (nat_lit 91) :: (nat_lit 92) :: (nat_lit 94) :: (nat_lit 95) :: (nat_lit 96) :: (nat_lit 98) :: (nat_lit 99) :: (nat_lit 101) :: (nat_lit 102) :: (nat_lit 103) :: (nat_lit 105) :: (nat_lit 106) :: (nat_lit 108) :: (nat_lit 109) :: (nat_lit 110) :: (nat_lit 112) :: (nat_lit 113) :: (nat_lit 115) :: (nat_lit 116) :: (nat_lit 117) :: (nat_lit 120) :: (nat_lit 121) :: (nat_lit 122) :: (nat_lit 124) :: (nat_lit 125) :: (nat_lit 127) :: (nat_lit 128) :: (nat_lit 129) :: (nat_lit 131) :: (nat_lit 132) :: (nat_lit 134) :: (nat_lit 135) :: (nat_lit 136) :: (nat_lit 138) :: (nat_lit 139) :: (nat_lit 141) :: (nat_lit 142) :: (nat_lit 143) :: (nat_lit 145) :: (nat_lit 146) :: (nat_lit 148) :: (nat_lit 149) :: (nat_lit 150) :: (nat_lit 152) :: (nat_lit 153) :: (nat_lit 155) :: (nat_lit 156) :: (nat_lit 157) :: (nat_lit 159) :: (nat_lit 160) :: (nat_lit 162) :: (nat_lit 163) :: (nat_lit 164) :: (nat_lit 166) :: (nat_lit 167) :: (nat_lit 169) :: (nat_lit 170) :: [])
def h_heap_39 : PySem.Params → PySem.W.Frag := fun x =>
(nat_lit 2, (@W.boot_o_2 x)) ::
(nat_lit 3, (o198 x)) ::
(nat_lit 15, (o51 x)) ::
(nat_lit 22, (o210 x)) ::
(nat_lit 23, (o59 x)) ::
(nat_lit 24, (o66 x)) ::
(nat_lit 25, (o61 x)) ::
(nat_lit 28, (o67 x)) ::
(nat_lit 35, (o210 x)) ::
(nat_lit 36, (o75 x)) ::
(nat_lit 37, (o76 x)) ::
(nat_lit 40, (o210 x)) ::
(nat_lit 42, (o81 x)) ::
(nat_lit 43, (o210 x)) ::
(nat_lit 45, (o84 x)) ::
(nat_lit 46, (o85 x)) ::
(nat_lit 47, (o210 x)) ::
(nat_lit 49, (o88 x)) ::
(nat_lit 50, (o210 x)) ::
(nat_lit 52, (o91 x)) ::
(nat_lit 53, (o92 x)) ::
(nat_lit 54, (o210 x)) ::
(nat_lit 56, (o95 x)) ::
(nat_lit 57, (o210 x)) ::
(nat_lit 59, (o98 x)) ::
(nat_lit 60, (o99 x)) ::
(nat_lit 61, (o210 x)) ::
(nat_lit 63, (o102 x)) ::
(nat_lit 64, (o210 x)) ::
(nat_lit 66, (o105 x)) ::
(nat_lit 67, (o106 x)) ::
(nat_lit 68, (o210 x)) ::
(nat_lit 70, (o109 x)) ::
(nat_lit 71, (o210 x)) ::
(nat_lit 73, (o112 x)) ::
(nat_lit 74, (o113 x)) ::
(nat_lit 75, (o210 x)) ::
(nat_lit 77, (o118 x)) ::
(nat_lit 78, (o210 x)) ::
(nat_lit 80, (o121 x)) ::
(nat_lit 81, (o122 x)) ::
(nat_lit 82, (o210 x)) ::
(nat_lit 84, (o125 x)) ::
(nat_lit 85, (o210 x)) ::
(nat_lit 87, (o128 x)) ::
(nat_lit 88, (o129 x)) ::
(nat_lit 89, (o210 x)) ::
(nat_lit 91, (o132 x)) ::
(nat_lit 92, (o210 x)) ::
(nat_lit 94, (o135 x)) ::
(nat_lit 95, (o136 x)) ::
(nat_lit 96, (o210 x)) ::
(nat_lit 98, (o139 x)) ::
(nat_lit 99, (o210 x)) ::
(nat_lit 101, (o142 x)) ::
(nat_lit 102, (o143 x)) ::
(nat_lit 103, (o210 x)) ::
(nat_lit 105, (o146 x)) ::
(nat_lit 106, (o210 x)) ::
(nat_lit 108, (o149 x)) ::
(nat_lit 109, (o150 x)) ::
(nat_lit 110, (o210 x)) ::
(nat_lit 112, (o153 x)) ::
(nat_lit 113, (o210 x)) ::
(nat_lit 115, (o156 x)) ::
(nat_lit 116, (o157 x)) ::
(nat_lit 117, (o210 x)) ::
(nat_lit 120, (o161 x)) ::
(nat_lit 121, (o162 x)) ::
(nat_lit 122, (o210 x)) ::
(nat_lit 124, (o165 x)) ::
(nat_lit 125, (o210 x)) ::
(nat_lit 127, (o168 x)) ::
(nat_lit 128, (o169 x)) ::
(nat_lit 129, (o210 x)) ::
(nat_lit 131, (o172 x)) ::
(nat_lit 132, (o210 x)) ::
(nat_lit 134, (o175 x)) ::
(nat_lit 135, (o176 x)) ::
(nat_lit 136, (o210 x)) ::
(nat_lit 138, (o179 x)) ::
(nat_lit 139, (o210 x)) ::
(nat_lit 141, (o182 x)) ::
(nat_lit 142, (o183 x)) ::
(nat_lit 143, (o210 x)) ::
(nat_lit 145, (o186 x)) ::
(nat_lit 146, (o210 x)) ::
(nat_lit 148, (o189 x)) ::
(nat_lit 149, (o190 x)) ::
(nat_lit 150, (o210 x)) ::
(nat_lit 152, (o193 x)) ::
(nat_lit 153, (o210 x)) ::
(nat_lit 155, (o196 x)) ::
(nat_lit 156, (o197 x)) ::
(nat_lit 157, (o210 x)) ::
(nat_lit 159, (o202 x)) ::
(nat_lit 160, (o210 x)) ::
(nat_lit 162, (o205 x)) ::
(nat_lit 163, (o206 x)) ::
(nat_lit 164, (o210 x)) ::
(nat_lit 166, (o209 x)) ::
(nat_lit 167, (o210 x)) ::
(nat_lit 169, (o212 x)) ::
(nat_lit 170, (o213 x)) :: []
def h_view_39 : PySem.Program := { PySem.Challenge.pw_oddbases_k57_numbers_as_texts with main := { PySem.Challenge.pw_oddbases_k57_numbers_as_texts.main with body := [My.top 1, My.top 2, My.top 4, My.top 5, My.top 7, My.top 8, My.top 9, My.top 10, My.top 11, My.top 12, My.top 14, My.top 15, My.top 16, My.top 17, My.top 18, My.top 19, My.top 20, My.top 21, My.top 22, My.top 23, My.top 24, My.top 25] } }
def h_heap_214 : ((x : @Params) → @Heap) := (fun x => (@Heap.mk (@Array.mk @Obj ((@W.boot_o_0 x) :: (@W.boot_o_1 x) :: (@W.boot_o_2 x) :: (o198 x) :: (@W.boot_o_4 x) :: (@W.boot_o_5 x) :: (@W.boot_o_6 x) :: (@W.boot_o_7 x) :: (@W.boot_o_8 x) :: (@W.boot_o_9 x) :: (@W.boot_o_10 x) :: (o210 x) :: (o199 x) :: (o45 x) :: (o46 x) :: (o51 x) :: (o68 x) :: (o53 x) :: (o210 x) :: (o208 x) :: (o56 x) :: (o57 x) :: (o210 x) :: (o59 x) :: (o66 x) :: (o61 x) :: (o62 x) :: (o63 x) :: (o67 x) :: (o68 x) :: (o69 x) :: (o210 x) :: (o208 x) :: (o72 x) :: (o73 x) :: (o210 x) :: (o75 x) :: (o76 x) :: (o77 x) :: (o78 x) :: (o210 x) :: (o208 x) :: (o81 x) :: (o210 x) :: (o83 x) :: (o84 x) :: (o85 x) :: (o210 x) :: (o208 x) :: (o88 x) :: (o210 x) :: (o90 x) :: (o91 x) :: (o92 x) :: (o210 x) :: (o208 x) :: (o95 x) :: (o210 x) :: (o97 x) :: (o98 x) :: (o99 x) :: (o210 x) :: (o208 x) :: (o102 x) :: (o210 x) :: (o104 x) :: (o105 x) :: (o106 x) :: (o210 x) :: (o208 x) :: (o109 x) :: (o210 x) :: (o111 x) :: (o112 x) :: (o113 x) :: (o210 x) :: (o208 x) :: (o118 x) :: (o210 x) :: (o120 x) :: (o121 x) :: (o122 x) :: (o210 x) :: (o208 x) :: (o125 x) :: (o210 x) :: (o127 x) :: (o128 x) :: (o129 x) :: (o210 x) :: (o208 x) :: (o132 x) :: (o210 x) :: (o134 x) :: (o135 x) :: (o136 x) :: (o210 x) :: (o208 x) :: (o139 x) :: (o210 x) :: (o141 x) :: (o142 x) :: (o143 x) :: (o210 x) :: (o208 x) :: (o146 x) :: (o210 x) :: (o148 x) :: (o149 x) :: (o150 x) :: (o210 x) :: (o208 x) :: (o153 x) :: (o210 x) :: (o155 x) :: (o156 x) :: (o157 x) :: (o210 x) :: (o208 x) :: (o160 x) :: (o161 x) :: (o162 x) :: (o210 x) :: (o208 x) :: (o165 x) :: (o210 x) :: (o167 x) :: (o168 x) :: (o169 x) :: (o210 x) :: (o208 x) :: (o172 x) :: (o210 x) :: (o174 x) :: (o175 x) :: (o176 x) :: (o210 x) :: (o208 x) :: (o179 x) :: (o210 x) :: (o181 x) :: (o182 x) :: (o183 x) :: (o210 x) :: (o208 x) :: (o186 x) :: (o210 x) :: (o188 x) :: (o189 x) :: (o190 x) :: (o210 x) :: (o208 x) :: (o193 x) :: (o210 x) :: (o195 x) :: (o196 x) :: (o197 x) :: (o210 x) :: (o208 x) :: (o202 x) :: (o210 x) :: (o204 x) :: (o205 x) :: (o206 x) :: (o210 x) :: (o208 x) :: (o209 x) :: (o210 x) :: (o211 x) :: (o212 x) :: (o213 x) :: [])) (@Life.mk [] [] [] 0 (@List.nil (@Prod @Nat @Nat)) [] @Bool.false #[] [] 0 @Bool.false @Bool.false @Bool.false (0 : Int) [(2000 : Int), (10 : Int), (10 : Int)] @Bool.false 0 @Bool.true [] [] 0 @Bool.false)))
def h_env_41 : @Env := (@Env.mk (@Module.scope (@Program.main ((@W.OpenRow.toRowW (@W.OpenLaw.row @Challenge.rw_oddbases_k57_numbers_as_texts))).1)) @mainNs @mainNs (@List.nil (@Prod @Str @Addr)) @Str.empty (@Option.none @Addr) (r_ 13) (@some @Addr (@OfNat.ofNat @Addr 14 (@instOfNatNat 14))) (@OfNat.ofNat @Addr 0 (@instOfNatNat 0)))
def h_tree_213 := N_ W.boot_o_0 (N_ W.boot_o_1 (N_ o198 (N_ W.boot_o_7 (N_ o51 (N_ o210 (N_ o102 (L_ o168) Z_) (N_ o136 (L_ o202) Z_)) (N_ o210 (N_ o120 (L_ o210) Z_) (L_ o208))) (N_ o59 (N_ o78 (N_ o210 (L_ o176) Z_) Y0) (N_ o208 (N_ o128 (L_ o208) Z_) (L_ o160)))) (N_ o210 (N_ o208 (N_ o210 (N_ o106 (L_ o172) Z_) (N_ o210 (L_ o206) Z_)) (N_ o90 (N_ o208 (L_ o188) Z_) (L_ o156))) (N_ o63 (N_ o210 Y0 (L_ o148)) (N_ o98 (N_ o132 (L_ o196) Z_) (L_ o208))))) (N_ W.boot_o_5 (N_ W.boot_o_9 (N_ o53 (N_ o72 (N_ o104 (L_ o210) Z_) (N_ o208 (L_ o204) Z_)) (N_ o88 (N_ o122 (L_ o186) Z_) (L_ o210))) (N_ o61 (N_ o208 (N_ o112 (L_ o208) Z_) (N_ o146 (L_ o212) Z_)) (N_ o210 Y0 (L_ o162)))) (N_ o45 (N_ o57 (N_ o76 (N_ o208 (L_ o174) Z_) (N_ o142 (L_ o208) Z_)) (N_ o92 (N_ o210 (L_ o190) Z_) (L_ o210))) (N_ o68 (N_ o84 (N_ o118 (L_ o182) Z_) (L_ o150)) (N_ o210 (N_ o134 (L_ o210) Z_) (L_ o210)))))) (N_ W.boot_o_2 (N_ W.boot_o_4 (N_ W.boot_o_8 (N_ o68 (N_ o208 (N_ o210 (L_ o169) Z_) Y0) (N_ o208 (N_ o121 (L_ o208) Z_) (L_ o153))) (N_ o66 (N_ o210 (N_ o111 (L_ o210) Z_) (N_ o208 (L_ o211) Z_)) (N_ o95 (N_ o129 (L_ o193) Z_) (L_ o161)))) (N_ o199 (N_ o56 (N_ o75 Y0 (N_ o141 (L_ o210) Z_)) (N_ o91 (N_ o125 (L_ o189) Z_) (L_ o157))) (N_ o67 (N_ o83 (N_ o208 (L_ o181) Z_) (L_ o149)) (N_ o99 (N_ o210 (L_ o197) Z_) (L_ o165))))) (N_ W.boot_o_6 (N_ W.boot_o_10 (N_ o210 (N_ o73 (N_ o105 (L_ o208) Z_) (N_ o139 (L_ o205) Z_)) (N_ o210 Y0 (L_ o155))) (N_ o62 (N_ o81 (N_ o113 (L_ o179) Z_) (N_ o210 (L_ o213) Z_)) (N_ o97 (N_ o208 (L_ o195) Z_) (L_ o210)))) (N_ o46 (N_ o210 (N_ o77 (N_ o109 (L_ o175) Z_) (N_ o143 (L_ o209) Z_)) (N_ o210 (N_ o127 (L_ o210) Z_) (L_ o208))) (N_ o69 (N_ o85 (N_ o210 (L_ o183) Z_) (L_ o210)) (N_ o208 (N_ o135 (L_ o208) Z_) (L_ o167))))))
def h_sts_49 : (@List @Stmt) := [My.top 0, My.top 1, My.top 2, My.top 3, My.top 4, My.top 5, My.top 6, My.top 7, My.top 8, My.top 9, My.top 10, My.top 11, My.top 12, My.top 13, My.top 14, My.top 15, My.top 16, My.top 17, My.top 18, My.top 19, My.top 20, My.top 21, My.top 22, My.top 23, My.top 24, My.top 25]
def h_tree_47 := N_ W.boot_o_0 (N_ W.boot_o_1 (N_ W.boot_o_3 (L_ W.boot_o_7) (L_ o210)) (N_ W.boot_o_5 (L_ W.boot_o_9) (L_ o45))) (N_ W.boot_o_2 (N_ W.boot_o_4 (L_ W.boot_o_8) (L_ o208)) (N_ W.boot_o_6 (L_ W.boot_o_10) (L_ o46)))
def h_heap_46 : ((x : @Params) → @Heap) := (fun x => (@Heap.mk (@Array.mk @Obj [(@W.boot_o_0 x), (@W.boot_o_1 x), (@W.boot_o_2 x), (@W.boot_o_3 x), (@W.boot_o_4 x), (@W.boot_o_5 x), (@W.boot_o_6 x), (@W.boot_o_7 x), (@W.boot_o_8 x), (@W.boot_o_9 x), (@W.boot_o_10 x), (o210 x), (o208 x), (o45 x), (o46 x)]) (@Life.mk [] [] [] 0 (@List.nil (@Prod @Nat @Nat)) [] @Bool.false #[] [] 0 @Bool.false @Bool.false @Bool.false (0 : Int) [(2000 : Int), (10 : Int), (10 : Int)] @Bool.false 0 @Bool.true [] [] 0 @Bool.false)))
abbrev k3 := (@Life.mk [] [] [] 0 (@List.nil (@Prod @Nat @Nat)) [] @Bool.false #[] [] 0 @Bool.false @Bool.false @Bool.false (0 : Int) [(2000 : Int), (10 : Int), (10 : Int)] @Bool.false 0 @Bool.true [] [] 0 @Bool.false)
abbrev S_ (t : Params → W.BT) (n k : Nat) (w : World) (o : OsState) : W.SharedT := W.SharedT.mk (t w.params) n k3 g_ d_ k o
abbrev k0 (x0 : World) (x1 : OsState) := (@Shared.mk (@h_heap_214 x0.params) g_ d_ 390 x1)
abbrev k1 := (@Prod (@Prod (@List (@Option @FnShape)) @Bool) (@Prod (@List (@Option @PyProof.Rows.PlainShape)) (@Prod (@List (@Option (@Prod @PyProof.Rows.PlainShape @Bool))) (@Prod (@Prod (@List (@Option @FnShape)) @Bool) (@List (@Prod (@Option (@Prod (@List (@Option @FnShape)) @Bool)) (@Option (@Prod @PyProof.Rows.PlainShape @Bool))))))))
abbrev k2 := (@W.OpenRow.toRowW (@W.OpenLaw.row @Challenge.rw_oddbases_k57_numbers_as_texts))
abbrev k4 (x0 : World) (x1 : OsState) := (@ite @Bool (@Eq @Bool @Bool.true @Bool.true) (@instDecidableEqBool @Bool.true @Bool.true) (@BEq.beq @Nat (@instBEqOfDecidableEq @Nat @instDecidableEqNat) (@Array.size @GenState (@Shared.gens (k0 x0 x1))) 0) (@Bool.not (@leftWithCleanup (@Shared.gens (k0 x0 x1)))))
abbrev k5 := (@Bool.true, ((@pinGoodD (@PyProof.Rows.drecsOf @h_view_39)), ((@PyProof.Rows.plainGoodE @h_view_39 (@W.looseW @h_view_39 [])), ((@PyProof.Rows.plainGoodD @h_view_39 []), ((@W.wideGood @h_view_39), (@W.clsGoodW @h_view_39 []))))))
abbrev k6 := (@List (@Prod (@Option (@Prod (@List (@Option @FnShape)) @Bool)) (@Option (@Prod @PyProof.Rows.PlainShape @Bool))))
abbrev k7 (x0 : World) (x1 : OsState) := (@Bool.and (@Bool.and (@Bool.and (@W.staticsOk (@importedModules (@Module.body (@Program.main (k2).1))) (@W.boot_heap x0.params) (@h_heap_214 x0.params)) (@W.namesBound (k2).1 (@h_heap_214 x0.params))) (@W.gensDone (k0 x0 x1))) (@W.laidKept (@W.boot_heap x0.params) (@h_heap_214 x0.params)))
abbrev k8 := (@Prod (@Prod (@Option @Str) (@List (@Prod @Str @Value))) (@Prod @Bool (@Prod @Bool k1)))
abbrev k9 (x0 : World) (x1 : OsState) := (@PyProof.Rows.plainSeenE @h_view_39 (@W.looseW @h_view_39 []) (k0 x0 x1))
abbrev k10 := (@Eq.refl (@List @Addr) My.myAs)
abbrev k11 := (@Code.body (@W.behindTheImports (k2).1) @h_env_41)
abbrev k12 := (@importedModules (@Module.body (@Program.main (k2).1)))
abbrev k13 (x0 : World) (x1 : OsState) := (@pinSeenD @h_view_39 (@PyProof.Rows.drecsOf @h_view_39) (k0 x0 x1))
abbrev k14 (x0 : World) (x1 : OsState) := (@PyProof.Rows.plainSeenD @h_view_39 [] (k0 x0 x1))
abbrev k15 := (@Prod (@List (@Option @FnShape)) @Bool)
abbrev k16 (x0 : World) (x1 : OsState) := (@W.clsSeenW @h_view_39 [] (k0 x0 x1))
abbrev k17 := (@List.nil (@Prod @Str @W.WData))
abbrev k18 (x0 : World) (x1 : OsState) := (@W.wideSeen @h_view_39 (k0 x0 x1))
abbrev k19 := (@List (@Option (@Prod @PyProof.Rows.PlainShape @Bool)))
abbrev k20 := (@PyProof.Rows.plainGoodE @h_view_39 (@W.looseW @h_view_39 []))
abbrev k21 := (@PyProof.Rows.clssOf @h_view_39 (@W.looseW @h_view_39 []))
abbrev k22 (x0 : World) (x1 : OsState) := (S_ h_tree_47 15 187 x0 x1)
abbrev k23 (x0 : World) (x1 : OsState) := (@Shared.mk (@h_heap_46 x0.params) g_ d_ 187 x1)
abbrev k24 (x0 : World) (x1 : OsState) := (@PyProof.Rows.tablesOk @h_view_39 (@Shared.heap (k0 x0 x1)))
abbrev k25 (x0 : World) (x1 : OsState) := (@PyProof.Rows.tabsOk @h_view_39 (k0 x0 x1))
abbrev k26 := (@PyProof.Rows.plainGoodD @h_view_39 [])
abbrev k27 (x0 : World) (x1 : OsState) := (@Heap.accountedOkI (@Shared.heap (k0 x0 x1)) k12)
abbrev k28 (x0 : World) (x1 : OsState) := (S_ h_tree_213 171 390 x0 x1)
abbrev k29 (x0 : World) (x1 : OsState) := (@Heap.isNs (@Shared.heap (k0 x0 x1)) @mainGlobals)
abbrev k30 (x0 : World) (x1 : OsState) := (@Heap.isNs (@Shared.heap (k0 x0 x1)) @builtinsNs)
abbrev k31 (x0 : World) (x1 : OsState) := (@Shared.mk (@W.boot_heap x0.params) g_ @W.boot_drawn @W.boot_toks x1)
abbrev k32 := (@Thread.mk (@denote @treeTable k11) k11 (P_ 0 0 0 0) [(@W.topFrame (P_ 0 0 0 0))])
abbrev k33 := (@Prod @Flow (@Prod @Shared (@Prod @Code @Pos)))
abbrev kh0 := (@W.kHook @h_heap_39 My.myAs (fun x0 => (@id (@Eq (@List @Addr) My.myAs (@List.map (@Prod @Addr @Obj) @Addr (fun (x1 : (@Prod @Addr @Obj)) => (@Prod.fst @Addr @Obj x1)) (@h_heap_39 x0))) k10)))
theorem pf_249 : ((x0 : World) → (@Eq ((x1 : OsState) → (@W.Hook.α kh0)) (fun x1 => (@W.Hook.obs kh0 (k0 x0 x1))) (fun x1 => (@W.Hook.val kh0 x0)))) := by intros; kernel_rfl
theorem pf_239 : ((x0 : World) → (@Eq ((x1 : OsState) → k6) (fun x1 => (k16 x0 x1)) (fun x1 => (@W.clsGoodW @h_view_39 [])))) := by intros; kernel_rfl
theorem pf_237 : ((x0 : World) → (@Eq ((x1 : OsState) → k15) (fun x1 => (k18 x0 x1)) (fun x1 => (@W.wideGood @h_view_39)))) := by intros; kernel_rfl
theorem pf_240 : ((x0 : World) → ((x1 : OsState) → (@Eq (@Prod k15 k6) ((k18 x0 x1), (k16 x0 x1)) ((@W.wideGood @h_view_39), (@W.clsGoodW @h_view_39 []))))) := (fun x0 => (fun x1 => (@W.looks_pair k15 k6 (k18 x0 x1) (@W.wideGood @h_view_39) (k16 x0 x1) (@W.clsGoodW @h_view_39 []) ((fun x2 => (fun x3 => (congrFun (My.pf_237 x2) x3))) x0 x1) ((fun x2 => (fun x3 => (congrFun (My.pf_239 x2) x3))) x0 x1))))
theorem pf_235 : ((x0 : World) → (@Eq ((x1 : OsState) → k19) (fun x1 => (k14 x0 x1)) (fun x1 => k26))) := by intros; kernel_rfl
theorem pf_241 : ((x0 : World) → ((x1 : OsState) → (@Eq (@Prod k19 (@Prod k15 k6)) ((k14 x0 x1), ((k18 x0 x1), (k16 x0 x1))) (k26, ((@W.wideGood @h_view_39), (@W.clsGoodW @h_view_39 [])))))) := (fun x0 => (fun x1 => (@W.looks_pair k19 (@Prod k15 k6) (k14 x0 x1) k26 ((k18 x0 x1), (k16 x0 x1)) ((@W.wideGood @h_view_39), (@W.clsGoodW @h_view_39 [])) ((fun x2 => (fun x3 => (congrFun (My.pf_235 x2) x3))) x0 x1) (@My.pf_240 x0 x1))))
theorem pf_233 : ((x0 : World) → (@Eq ((x1 : OsState) → (@List (@Option @PyProof.Rows.PlainShape))) (fun x1 => (k9 x0 x1)) (fun x1 => k20))) := by intros; kernel_rfl
theorem pf_242 : ((x0 : World) → ((x1 : OsState) → (@Eq (@Prod (@List (@Option @PyProof.Rows.PlainShape)) (@Prod k19 (@Prod k15 k6))) ((k9 x0 x1), ((k14 x0 x1), ((k18 x0 x1), (k16 x0 x1)))) (k20, (k26, ((@W.wideGood @h_view_39), (@W.clsGoodW @h_view_39 []))))))) := (fun x0 => (fun x1 => (@W.looks_pair (@List (@Option @PyProof.Rows.PlainShape)) (@Prod k19 (@Prod k15 k6)) (k9 x0 x1) k20 ((k14 x0 x1), ((k18 x0 x1), (k16 x0 x1))) (k26, ((@W.wideGood @h_view_39), (@W.clsGoodW @h_view_39 []))) ((fun x2 => (fun x3 => (congrFun (My.pf_233 x2) x3))) x0 x1) (@My.pf_241 x0 x1))))
theorem pf_231 : ((x0 : World) → (@Eq ((x1 : OsState) → k15) (fun x1 => (k13 x0 x1)) (fun x1 => (@pinGoodD (@PyProof.Rows.drecsOf @h_view_39))))) := by intros; kernel_rfl
theorem pf_243 : ((x0 : World) → ((x1 : OsState) → (@Eq k1 ((k13 x0 x1), ((k9 x0 x1), ((k14 x0 x1), ((k18 x0 x1), (k16 x0 x1))))) ((@pinGoodD (@PyProof.Rows.drecsOf @h_view_39)), (k20, (k26, ((@W.wideGood @h_view_39), (@W.clsGoodW @h_view_39 [])))))))) := (fun x0 => (fun x1 => (@W.looks_pair k15 (@Prod (@List (@Option @PyProof.Rows.PlainShape)) (@Prod k19 (@Prod k15 k6))) (k13 x0 x1) (@pinGoodD (@PyProof.Rows.drecsOf @h_view_39)) ((k9 x0 x1), ((k14 x0 x1), ((k18 x0 x1), (k16 x0 x1)))) (k20, (k26, ((@W.wideGood @h_view_39), (@W.clsGoodW @h_view_39 [])))) ((fun x2 => (fun x3 => (congrFun (My.pf_231 x2) x3))) x0 x1) (@My.pf_242 x0 x1))))
theorem pf_229 : ((x0 : World) → (@Eq ((x1 : OsState) → @Bool) (fun x1 => (k25 x0 x1)) (fun x1 => @Bool.true))) := by intros; kernel_rfl
theorem pf_244 : ((x0 : World) → ((x1 : OsState) → (@Eq (@Prod @Bool k1) ((k25 x0 x1), ((k13 x0 x1), ((k9 x0 x1), ((k14 x0 x1), ((k18 x0 x1), (k16 x0 x1)))))) k5))) := (fun x0 => (fun x1 => (@W.looks_pair @Bool k1 (k25 x0 x1) @Bool.true ((k13 x0 x1), ((k9 x0 x1), ((k14 x0 x1), ((k18 x0 x1), (k16 x0 x1))))) ((@pinGoodD (@PyProof.Rows.drecsOf @h_view_39)), (k20, (k26, ((@W.wideGood @h_view_39), (@W.clsGoodW @h_view_39 []))))) ((fun x2 => (fun x3 => (congrFun (My.pf_229 x2) x3))) x0 x1) (@My.pf_243 x0 x1))))
theorem pf_227 : ((x0 : World) → (@Eq ((x1 : OsState) → @Bool) (fun x1 => (@Bool.and (@Bool.and (@Bool.and (@Bool.and (@Bool.and (@Bool.and (@Heap.keysOk (@Shared.heap (k0 x0 x1)) (@W.looseW @h_view_39 []) (@List.map @DefRec @Str (fun (x2 : @DefRec) => (@DefRec.name x2)) (@PyProof.Rows.recsOf @h_view_39)) (@List.map (@Prod @Str @PyData) @Str (fun (x2 : (@Prod @Str @PyData)) => (@Prod.fst @Str @PyData x2)) (@PyProof.Rows.litsOf @h_view_39)) (@List.map @ClsRec @Str (fun (x2 : @ClsRec) => (@ClsRec.name x2)) k21)) (k27 x0 x1)) (k29 x0 x1)) (k30 x0 x1)) (k24 x0 x1)) ((fun (x2 : @Shared) => (@Bool.and (@W.xlAt @h_view_39 k17 x2) (@W.recOk (@W.RowW.records k2) x2))) (k0 x0 x1))) (k4 x0 x1))) (fun x1 => @Bool.true))) := by intros; kernel_rfl
theorem pf_245 : ((x0 : World) → ((x1 : OsState) → (@Eq (@Prod @Bool (@Prod @Bool k1)) ((@Bool.and (@Bool.and (@Bool.and (@Bool.and (@Bool.and (@Bool.and (@Heap.keysOk (@Shared.heap (k0 x0 x1)) (@W.looseW @h_view_39 []) (@List.map @DefRec @Str (fun (x2 : @DefRec) => (@DefRec.name x2)) (@PyProof.Rows.recsOf @h_view_39)) (@List.map (@Prod @Str @PyData) @Str (fun (x2 : (@Prod @Str @PyData)) => (@Prod.fst @Str @PyData x2)) (@PyProof.Rows.litsOf @h_view_39)) (@List.map @ClsRec @Str (fun (x2 : @ClsRec) => (@ClsRec.name x2)) k21)) (k27 x0 x1)) (k29 x0 x1)) (k30 x0 x1)) (k24 x0 x1)) ((fun (x2 : @Shared) => (@Bool.and (@W.xlAt @h_view_39 k17 x2) (@W.recOk (@W.RowW.records k2) x2))) (k0 x0 x1))) (k4 x0 x1)), ((k25 x0 x1), ((k13 x0 x1), ((k9 x0 x1), ((k14 x0 x1), ((k18 x0 x1), (k16 x0 x1))))))) (@Bool.true, k5)))) := (fun x0 => (fun x1 => (@W.looks_pair @Bool (@Prod @Bool k1) (@Bool.and (@Bool.and (@Bool.and (@Bool.and (@Bool.and (@Bool.and (@Heap.keysOk (@Shared.heap (k0 x0 x1)) (@W.looseW @h_view_39 []) (@List.map @DefRec @Str (fun (x2 : @DefRec) => (@DefRec.name x2)) (@PyProof.Rows.recsOf @h_view_39)) (@List.map (@Prod @Str @PyData) @Str (fun (x2 : (@Prod @Str @PyData)) => (@Prod.fst @Str @PyData x2)) (@PyProof.Rows.litsOf @h_view_39)) (@List.map @ClsRec @Str (fun (x2 : @ClsRec) => (@ClsRec.name x2)) k21)) (k27 x0 x1)) (k29 x0 x1)) (k30 x0 x1)) (k24 x0 x1)) ((fun (x2 : @Shared) => (@Bool.and (@W.xlAt @h_view_39 k17 x2) (@W.recOk (@W.RowW.records k2) x2))) (k0 x0 x1))) (k4 x0 x1)) @Bool.true ((k25 x0 x1), ((k13 x0 x1), ((k9 x0 x1), ((k14 x0 x1), ((k18 x0 x1), (k16 x0 x1)))))) k5 ((fun x2 => (fun x3 => (congrFun (My.pf_227 x2) x3))) x0 x1) (@My.pf_244 x0 x1))))
theorem pf_225 : ((x0 : World) → (@Eq ((x1 : OsState) → (@Prod (@Option @Str) (@List (@Prod @Str @Value)))) (fun x1 => (@Heap.bltView (@Shared.heap (k0 x0 x1)))) (fun x1 => @bltViewBooted))) := by intros; kernel_rfl
theorem pf_246 : ((x0 : World) → ((x1 : OsState) → (@Eq k8 ((@Heap.bltView (@Shared.heap (k0 x0 x1))), ((@Bool.and (@Bool.and (@Bool.and (@Bool.and (@Bool.and (@Bool.and (@Heap.keysOk (@Shared.heap (k0 x0 x1)) (@W.looseW @h_view_39 []) (@List.map @DefRec @Str (fun (x2 : @DefRec) => (@DefRec.name x2)) (@PyProof.Rows.recsOf @h_view_39)) (@List.map (@Prod @Str @PyData) @Str (fun (x2 : (@Prod @Str @PyData)) => (@Prod.fst @Str @PyData x2)) (@PyProof.Rows.litsOf @h_view_39)) (@List.map @ClsRec @Str (fun (x2 : @ClsRec) => (@ClsRec.name x2)) k21)) (k27 x0 x1)) (k29 x0 x1)) (k30 x0 x1)) (k24 x0 x1)) ((fun (x2 : @Shared) => (@Bool.and (@W.xlAt @h_view_39 k17 x2) (@W.recOk (@W.RowW.records k2) x2))) (k0 x0 x1))) (k4 x0 x1)), ((k25 x0 x1), ((k13 x0 x1), ((k9 x0 x1), ((k14 x0 x1), ((k18 x0 x1), (k16 x0 x1)))))))) (@bltViewBooted, (@Bool.true, k5))))) := (fun x0 => (fun x1 => (@W.looks_pair (@Prod (@Option @Str) (@List (@Prod @Str @Value))) (@Prod @Bool (@Prod @Bool k1)) (@Heap.bltView (@Shared.heap (k0 x0 x1))) @bltViewBooted ((@Bool.and (@Bool.and (@Bool.and (@Bool.and (@Bool.and (@Bool.and (@Heap.keysOk (@Shared.heap (k0 x0 x1)) (@W.looseW @h_view_39 []) (@List.map @DefRec @Str (fun (x2 : @DefRec) => (@DefRec.name x2)) (@PyProof.Rows.recsOf @h_view_39)) (@List.map (@Prod @Str @PyData) @Str (fun (x2 : (@Prod @Str @PyData)) => (@Prod.fst @Str @PyData x2)) (@PyProof.Rows.litsOf @h_view_39)) (@List.map @ClsRec @Str (fun (x2 : @ClsRec) => (@ClsRec.name x2)) k21)) (k27 x0 x1)) (k29 x0 x1)) (k30 x0 x1)) (k24 x0 x1)) ((fun (x2 : @Shared) => (@Bool.and (@W.xlAt @h_view_39 k17 x2) (@W.recOk (@W.RowW.records k2) x2))) (k0 x0 x1))) (k4 x0 x1)), ((k25 x0 x1), ((k13 x0 x1), ((k9 x0 x1), ((k14 x0 x1), ((k18 x0 x1), (k16 x0 x1))))))) (@Bool.true, k5) ((fun x2 => (fun x3 => (congrFun (My.pf_225 x2) x3))) x0 x1) (@My.pf_245 x0 x1))))
theorem pf_223 : ((x0 : World) → (@Eq ((x1 : OsState) → @PyProof.Rows.Seen) (fun x1 => (@PyProof.Rows.seen (@List.map @DefRec @Str (fun (x2 : @DefRec) => (@DefRec.name x2)) (@PyProof.Rows.recsOf @h_view_39)) (@PyProof.Rows.ownsOf @h_view_39) [] (@Shared.mk (@Shared.heap (k0 x0 x1)) #[] (@Shared.drawn (k0 x0 x1)) (@Shared.toks (k0 x0 x1)) (@Shared.os (k0 x0 x1))))) (fun x1 => (@PyProof.Rows.expectedOf @h_view_39)))) := by intros; kernel_rfl
theorem pf_247 : ((x0 : World) → ((x1 : OsState) → (@Eq (@Prod @PyProof.Rows.Seen k8) (@W.openSeen @h_view_39 [] k12 (fun (x2 : @Shared) => (@Bool.and (@W.xlAt @h_view_39 k17 x2) (@W.recOk (@W.RowW.records k2) x2))) @Bool.true (k0 x0 x1)) (@W.openGood @h_view_39 [])))) := (fun x0 => (fun x1 => (@W.looks_pair @PyProof.Rows.Seen k8 (@PyProof.Rows.seen (@List.map @DefRec @Str (fun (x2 : @DefRec) => (@DefRec.name x2)) (@PyProof.Rows.recsOf @h_view_39)) (@PyProof.Rows.ownsOf @h_view_39) [] (@Shared.mk (@Shared.heap (k0 x0 x1)) #[] (@Shared.drawn (k0 x0 x1)) (@Shared.toks (k0 x0 x1)) (@Shared.os (k0 x0 x1)))) (@PyProof.Rows.expectedOf @h_view_39) ((@Heap.bltView (@Shared.heap (k0 x0 x1))), ((@Bool.and (@Bool.and (@Bool.and (@Bool.and (@Bool.and (@Bool.and (@Heap.keysOk (@Shared.heap (k0 x0 x1)) (@W.looseW @h_view_39 []) (@List.map @DefRec @Str (fun (x2 : @DefRec) => (@DefRec.name x2)) (@PyProof.Rows.recsOf @h_view_39)) (@List.map (@Prod @Str @PyData) @Str (fun (x2 : (@Prod @Str @PyData)) => (@Prod.fst @Str @PyData x2)) (@PyProof.Rows.litsOf @h_view_39)) (@List.map @ClsRec @Str (fun (x2 : @ClsRec) => (@ClsRec.name x2)) k21)) (k27 x0 x1)) (k29 x0 x1)) (k30 x0 x1)) (k24 x0 x1)) ((fun (x2 : @Shared) => (@Bool.and (@W.xlAt @h_view_39 k17 x2) (@W.recOk (@W.RowW.records k2) x2))) (k0 x0 x1))) (k4 x0 x1)), ((k25 x0 x1), ((k13 x0 x1), ((k9 x0 x1), ((k14 x0 x1), ((k18 x0 x1), (k16 x0 x1)))))))) (@bltViewBooted, (@Bool.true, k5)) ((fun x2 => (fun x3 => (congrFun (My.pf_223 x2) x3))) x0 x1) (@My.pf_246 x0 x1))))
theorem pf_250 : ((x0 : World) → ((x1 : OsState) → (@Eq (@Prod (@Prod @PyProof.Rows.Seen k8) (@W.Hook.α kh0)) ((@W.openSeen @h_view_39 [] k12 (fun (x2 : @Shared) => (@Bool.and (@W.xlAt @h_view_39 k17 x2) (@W.recOk (@W.RowW.records k2) x2))) @Bool.true (k0 x0 x1)), (@W.Hook.obs kh0 (k0 x0 x1))) ((@W.openGood @h_view_39 []), (@W.Hook.val kh0 x0))))) := (fun x0 => (fun x1 => (@W.looks_pair (@Prod @PyProof.Rows.Seen k8) (@W.Hook.α kh0) (@W.openSeen @h_view_39 [] k12 (fun (x2 : @Shared) => (@Bool.and (@W.xlAt @h_view_39 k17 x2) (@W.recOk (@W.RowW.records k2) x2))) @Bool.true (k0 x0 x1)) (@W.openGood @h_view_39 []) (@W.Hook.obs kh0 (k0 x0 x1)) (@W.Hook.val kh0 x0) (@My.pf_247 x0 x1) ((fun x2 => (fun x3 => (congrFun (My.pf_249 x2) x3))) x0 x1))))
theorem pf_221 : ((x0 : World) → (@Eq ((x1 : OsState) → @Bool) (fun x1 => (k7 x0 x1)) (fun x1 => @Bool.true))) := by intros; kernel_rfl
theorem pf_251 : ((x0 : World) → ((x1 : OsState) → (@Eq (@Prod @Bool (@Prod (@Prod @PyProof.Rows.Seen k8) (@W.Hook.α kh0))) ((k7 x0 x1), ((@W.openSeen @h_view_39 [] k12 (fun (x2 : @Shared) => (@Bool.and (@W.xlAt @h_view_39 k17 x2) (@W.recOk (@W.RowW.records k2) x2))) @Bool.true (k0 x0 x1)), (@W.Hook.obs kh0 (k0 x0 x1)))) (@Bool.true, ((@W.openGood @h_view_39 []), (@W.Hook.val kh0 x0)))))) := (fun x0 => (fun x1 => (@W.looks_pair @Bool (@Prod (@Prod @PyProof.Rows.Seen k8) (@W.Hook.α kh0)) (k7 x0 x1) @Bool.true ((@W.openSeen @h_view_39 [] k12 (fun (x2 : @Shared) => (@Bool.and (@W.xlAt @h_view_39 k17 x2) (@W.recOk (@W.RowW.records k2) x2))) @Bool.true (k0 x0 x1)), (@W.Hook.obs kh0 (k0 x0 x1))) ((@W.openGood @h_view_39 []), (@W.Hook.val kh0 x0)) ((fun x2 => (fun x3 => (congrFun (My.pf_221 x2) x3))) x0 x1) (@My.pf_250 x0 x1))))
theorem pf_216 : ((x0 : World) → (@Eq ((x1 : OsState) → (@Option @Shared)) (fun x1 => (@W.topRun @treeTable (k2).1 x0 11 v_ 2 (@W.SharedT.abs (k28 x0 x1)) (@Thread.mk (@W.doneF @Flow.next) k11 (P_ 121 0 135 15) [(@W.topFrame (P_ 0 0 0 0))]))) (fun x1 => (@some @Shared (k0 x0 x1))))) := by intros; kernel_rfl
theorem pf_49 : ((x0 : World) → (@Eq ((x1 : OsState) → (@Option k33)) (fun x1 => (@W.segRun @treeTable (k2).1 x0 11 v_ 1 1 (k23 x0 x1) (@W.blockOf (@W.behindTheImports (k2).1) @h_env_41 k11 (P_ 0 0 0 0) [(@W.topFrame (P_ 0 0 0 0))]))) (fun x1 => (@some k33 (@Flow.next, ((@W.SharedT.abs (k22 x0 x1)), (k11, (P_ 0 0 0 0)))))))) := by intros; kernel_rfl
theorem pf_47 : ((x0 : World) → (@Eq ((x1 : OsState) → (@Option (@Prod @Shared @Thread))) (fun x1 => (@W.topGo @treeTable (k2).1 x0 11 v_ 12 (k31 x0 x1) (@W.topStub (k2).1))) (fun x1 => (@some (@Prod @Shared @Thread) ((k23 x0 x1), k32))))) := by intros; kernel_rfl
theorem pf_214 : ((x0 : World) → (@Eq ((x1 : OsState) → (@Option (@Prod @Flow (@Prod @W.SharedT (@Prod @Code @Pos))))) (fun x1 => (@W.segRunT @treeTable (k2).1 x0 11 v_ 1 1023 (k22 x0 x1) (@W.piecesOf @h_sts_49 @h_env_41 k11 (P_ 0 0 0 0) [(@W.topFrame (P_ 0 0 0 0))]))) (fun x1 => (@some (@Prod @Flow (@Prod @W.SharedT (@Prod @Code @Pos))) (@Flow.next, ((k28 x0 x1), (k11, (P_ 121 0 135 15)))))))) := by intros; kernel_rfl
theorem pf_217 : ((x0 : World) → ((x1 : OsState) → (@Eq (@Option @Shared) (@W.topRun @treeTable (k2).1 x0 11 v_ (@Nat.add 12 (@Nat.add 1 (@Nat.add 1023 2))) (k31 x0 x1) (@W.topStub (k2).1)) (@some @Shared (k0 x0 x1))))) := (fun x0 => (fun x1 => (@W.go_top @treeTable (k2).1 x0 11 v_ 12 (@Nat.add 1 (@Nat.add 1023 2)) (k31 x0 x1) (k23 x0 x1) (k0 x0 x1) (@W.topStub (k2).1) k32 (congrFun (My.pf_47 x0) x1) (@W.piece_block @treeTable (k2).1 x0 11 v_ @h_env_41 (P_ 0 0 0 0) 1 (@Nat.add 1023 2) (k23 x0 x1) (@W.SharedT.abs (k22 x0 x1)) (k0 x0 x1) (@W.behindTheImports (k2).1) k11 (P_ 0 0 0 0) (P_ 0 0 0 0) (congrFun (My.pf_49 x0) x1) (@W.piece_app @treeTable (k2).1 x0 11 v_ @h_env_41 (P_ 0 0 0 0) 1023 2 (@W.SharedT.abs (k22 x0 x1)) (@W.SharedT.abs (k28 x0 x1)) (k0 x0 x1) @h_sts_49 [] k11 (P_ 0 0 0 0) (P_ 121 0 135 15) (My.sg_ (congrFun (My.pf_214 x0) x1)) (congrFun (My.pf_216 x0) x1))))))
theorem pf_219 : ((x0 : World) → (@Eq (@Prod @Bool (@Prod @Nat (@Option @Value))) ((@Bool.and (@Heap.isNs (@W.boot_heap x0.params) @mainGlobals) (@BEq.beq @Nat (@instBEqOfDecidableEq @Nat @instDecidableEqNat) (@Array.size @GenState g_) 0)), ((@Array.size @Obj (@Heap.objs (@W.boot_heap x0.params))), (@Heap.nsMap (@W.boot_heap x0.params) @mainGlobals (.ofString "__annotations__")))) (@Bool.true, (11, v_)))) := by intros; kernel_rfl
theorem pf_43 : ((x0 : @Shared) → (@Eq (@Option @Shared) (@fenceModules? (k2).1 x0) (@some @Shared x0))) := by intros; kernel_rfl
theorem pf_42 : (@Eq @Program (@W.opening (k2).1) (@W.plainProg (@Scope.names (@Module.scope (@Program.main (k2).1))))) := by intros; kernel_rfl
theorem left : (@W.LeftO (k2).1 @h_view_39 [] (fun (x0 : @Shared) => (@Bool.and (@W.xlAt @h_view_39 k17 x0) (@W.recOk (@W.RowW.records k2) x0))) (@W.Hook.α kh0) (@W.Hook.obs kh0) (@W.Hook.val kh0) 2164 @Bool.true) := (@W.LeftO.of_pieces (k2).1 @h_view_39 [] (fun (x0 : @Shared) => (@Bool.and (@W.xlAt @h_view_39 k17 x0) (@W.recOk (@W.RowW.records k2) x0))) (@W.Hook.α kh0) (@W.Hook.obs kh0) (@W.Hook.val kh0) 2164 @Bool.true @W.boot_heap @h_heap_214 g_ g_ @W.boot_drawn d_ @W.boot_toks 390 11 v_ (@Nat.add 12 (@Nat.add 1 (@Nat.add 1023 2))) (@W.boot_open (k2).1 2164 @My.pf_42 (@of_decide_eq_true (@Eq @Bool (@Nat.ble 600 2164) @Bool.true) (@instDecidableEqBool (@Nat.ble 600 2164) @Bool.true) (@id (@Eq @Bool (@Decidable.decide (@Eq @Bool (@Nat.ble 600 2164) @Bool.true) (@instDecidableEqBool (@Nat.ble 600 2164) @Bool.true)) @Bool.true) (@Eq.refl @Bool @Bool.true))) @My.pf_43) @My.pf_219 @My.pf_217 (@of_decide_eq_true (@Eq @Bool (@Nat.ble (@Nat.add 12 (@Nat.add 1 (@Nat.add 1023 2))) 2164) @Bool.true) (@instDecidableEqBool (@Nat.ble (@Nat.add 12 (@Nat.add 1 (@Nat.add 1023 2))) 2164) @Bool.true) (@id (@Eq @Bool (@Decidable.decide (@Eq @Bool (@Nat.ble (@Nat.add 12 (@Nat.add 1 (@Nat.add 1023 2))) 2164) @Bool.true) (@instDecidableEqBool (@Nat.ble (@Nat.add 12 (@Nat.add 1 (@Nat.add 1023 2))) 2164) @Bool.true)) @Bool.true) (@Eq.refl @Bool @Bool.true))) (fun x0 => (@funext @OsState (fun x1 => (@Prod @Bool (@Prod (@Prod @PyProof.Rows.Seen k8) (@W.Hook.α kh0)))) (fun x1 => ((k7 x0 x1), ((@W.openSeen @h_view_39 [] k12 (fun (x2 : @Shared) => (@Bool.and (@W.xlAt @h_view_39 k17 x2) (@W.recOk (@W.RowW.records k2) x2))) @Bool.true (k0 x0 x1)), (@W.Hook.obs kh0 (k0 x0 x1))))) (fun x1 => (@Bool.true, ((@W.openGood @h_view_39 []), (@W.Hook.val kh0 x0)))) (fun x1 => (@My.pf_251 x0 x1)))))
end My
end
theorem My.myE : ∀ P, My.myAs = (My.h_heap_39 P).map (·.1) := fun _ => by kernel_rfl
set_option maxRecDepth 100000

set_option maxHeartbeats 4000000
namespace OD
open PySem PySem.Spec PyProof.Rows L2
abbrev St := L2.St
noncomputable def Zx (X : Cx) : Hp := if X.stack.length = X.outer.length ∨ X.fn "" = false then (fun _ => none) else X.H₀
theorem zx_def {CX : CXT} {P : Program} {w : World} {K : PySem.W.Frag} {mg : Str → Option Value} {base : Heap} {N : List Str} {qual : Str} {scope : Scope} {f : Addr} {cd : Value} {A : Around} {outer : List Env} {s : Shared} {H : Hp} {E : XK} : Zx (cxOf CX P w K mg base N qual scope f cd A outer s H E) = H := if_neg (fun z => z.elim (Nat.succ_ne_self _) (fun z => Bool.noConfusion z))
theorem zx_stk {X : Cx} (h : X.stack.length ≠ X.outer.length) (hf : X.fn "" = true := by rfl) : Zx X = X.H₀ := if_neg (fun z => z.elim h (fun z => by rw [hf] at z; cases z))
variable {Z : Hp}

inductive Dt where
  | non | bl (b : Bool) | int (i : Int) | str (x : Str) | tup (ds : List Dt) | lst (ds : List Dt) | scr (ns : List Int) | way (C : Addr) (f : Str) (n : Int) | exc (C : Addr)
def excAt (a C : Addr) : Heap → Prop := fun h => ∃ o, h.get? a = some o ∧ o.cls = .ref C

mutual
/-- the value v stands for the data in the heap H -/
def Is (K : PySem.W.Frag) (H : Hp) : Dt → V → Prop
  | .non, v => v = .non
  | .bl b, v => v = .bl b
  | .int i, v => v = .int i
  | .str x, v => v = .str x
  | .tup ds, v => ∃ a xs, v = .ref a ∧ H a = some (.tup xs) ∧ AllIs K H ds xs
  | .lst ds, v => ∃ a xs, v = .ref a ∧ H a = some (.lst xs) ∧ AllIs K H ds xs
  | .scr ns, v => ∃ a, v = .ref a ∧ SqL K H a (ns.map V.int)
  | .way C f n, v => ∃ a dx, v = .ref a ∧ H a = some (.ins C dx [(f, .int n)])
  | .exc C, v => ∃ a, v = .ref a ∧ H a = some (.ext (excAt a C))
def AllIs (K : PySem.W.Frag) (H : Hp) : List Dt → List V → Prop
  | [], xs => xs = []
  | d :: ds, xs => ∃ x r, xs = x :: r ∧ Is K H d x ∧ AllIs K H ds r
end
variable {K : PySem.W.Frag} {H H' H1 H2 : Hp}
theorem is_non {v : V} : Is K H .non v ↔ v = .non := by unfold Is; exact Iff.rfl
theorem is_bl {b : Bool} {v : V} : Is K H (.bl b) v ↔ v = .bl b := by unfold Is; exact Iff.rfl
theorem is_int {i : Int} {v : V} : Is K H (.int i) v ↔ v = .int i := by unfold Is; exact Iff.rfl
theorem is_str {x : Str} {v : V} : Is K H (.str x) v ↔ v = .str x := by unfold Is; exact Iff.rfl
theorem is_tup {ds : List Dt} {v : V} : Is K H (.tup ds) v ↔ ∃ a xs, v = .ref a ∧ H a = some (.tup xs) ∧ AllIs K H ds xs := by
  constructor
  · intro h; unfold Is at h; exact h
  · intro h; unfold Is; exact h
theorem is_lst {ds : List Dt} {v : V} : Is K H (.lst ds) v ↔ ∃ a xs, v = .ref a ∧ H a = some (.lst xs) ∧ AllIs K H ds xs := by
  constructor
  · intro h; unfold Is at h; exact h
  · intro h; unfold Is; exact h
theorem is_scr {ns : List Int} {v : V} : Is K H (.scr ns) v ↔ ∃ a, v = .ref a ∧ SqL K H a (ns.map V.int) := by
  constructor
  · intro h; unfold Is at h; exact h
  · intro h; unfold Is; exact h
theorem is_way {C : Addr} {f : Str} {n : Int} {v : V} : Is K H (.way C f n) v ↔ ∃ a dx, v = .ref a ∧ H a = some (.ins C dx [(f, .int n)]) := by
  constructor
  · intro h; unfold Is at h; exact h
  · intro h; unfold Is; exact h
theorem is_exc {C : Addr} {v : V} : Is K H (.exc C) v ↔ ∃ a, v = .ref a ∧ H a = some (.ext (excAt a C)) := by
  constructor
  · intro h; unfold Is at h; exact h
  · intro h; unfold Is; exact h
theorem allIs_nil {xs : List V} : AllIs K H [] xs ↔ xs = [] := by unfold AllIs; exact Iff.rfl
theorem allIs_cons {d : Dt} {ds : List Dt} {xs : List V} : AllIs K H (d :: ds) xs ↔ ∃ x r, xs = x :: r ∧ Is K H d x ∧ AllIs K H ds r := by
  constructor
  · intro h; unfold AllIs at h; exact h
  · intro h; unfold AllIs; exact h
mutual
theorem Is.mono0 (s : Same H H') : ∀ {d : Dt} {v : V}, Is K H d v → Is K H' d v
  | .non, _, h => is_non.mpr (is_non.mp h)
  | .bl _, _, h => is_bl.mpr (is_bl.mp h)
  | .int _, _, h => is_int.mpr (is_int.mp h)
  | .str _, _, h => is_str.mpr (is_str.mp h)
  | .tup ds, _, h => by
    obtain ⟨a, xs, e, h1, h2⟩ := is_tup.mp h
    exact is_tup.mpr ⟨a, xs, e, s _ _ h1, AllIs.mono0 s h2⟩
  | .lst ds, _, h => by
    obtain ⟨a, xs, e, h1, h2⟩ := is_lst.mp h
    exact is_lst.mpr ⟨a, xs, e, s _ _ h1, AllIs.mono0 s h2⟩
  | .scr ns, _, h => by
    obtain ⟨a, e, h1⟩ := is_scr.mp h
    exact is_scr.mpr ⟨a, e, s.seq h1⟩
  | .way C f n, _, h => by
    obtain ⟨a, dx, e, h1⟩ := is_way.mp h
    exact is_way.mpr ⟨a, dx, e, s _ _ h1⟩
  | .exc C, _, h => by
    obtain ⟨a, e, h1⟩ := is_exc.mp h
    exact is_exc.mpr ⟨a, e, s _ _ h1⟩
theorem AllIs.mono0 (s : Same H H') : ∀ {ds : List Dt} {xs : List V}, AllIs K H ds xs → AllIs K H' ds xs
  | [], _, h => allIs_nil.mpr (allIs_nil.mp h)
  | d :: ds, _, h => by
    obtain ⟨x, r, e, h1, h2⟩ := allIs_cons.mp h
    exact allIs_cons.mpr ⟨x, r, e, Is.mono0 s h1, AllIs.mono0 s h2⟩
end
theorem AllIs.length : ∀ {ds : List Dt} {xs : List V}, AllIs K H ds xs → ds.length = xs.length
  | [], _, h => by rw [allIs_nil.mp h]; rfl
  | d :: ds, _, h => by
    obtain ⟨x, r, rfl, _, h2⟩ := allIs_cons.mp h
    rw [List.length_cons, List.length_cons, AllIs.length h2]
theorem AllIs.get : ∀ {ds : List Dt} {xs : List V} {i : Nat} {d : Dt}, AllIs K H ds xs → ds[i]? = some d → ∃ v, xs[i]? = some v ∧ Is K H d v
  | [], _, _, _, _, e => by simp at e
  | d :: ds, _, 0, d', h, e => by
    obtain ⟨x, r, rfl, h1, h2⟩ := allIs_cons.mp h
    simp at e; subst e
    exact ⟨x, rfl, h1⟩
  | d :: ds, _, i + 1, d', h, e => by
    obtain ⟨x, r, rfl, h1, h2⟩ := allIs_cons.mp h
    obtain ⟨v, e1, e2⟩ := AllIs.get (i := i) h2 (by simpa using e)
    exact ⟨v, by simpa using e1, e2⟩
theorem AllIs.get' : ∀ {ds : List Dt} {xs : List V} {i : Nat} {v : V}, AllIs K H ds xs → xs[i]? = some v → ∃ d, ds[i]? = some d ∧ Is K H d v
  | [], _, _, _, h, e => by rw [allIs_nil.mp h] at e; simp at e
  | d :: ds, _, 0, v, h, e => by
    obtain ⟨x, r, rfl, h1, h2⟩ := allIs_cons.mp h
    simp at e; subst e
    exact ⟨d, rfl, h1⟩
  | d :: ds, _, i + 1, v, h, e => by
    obtain ⟨x, r, rfl, h1, h2⟩ := allIs_cons.mp h
    obtain ⟨v, e1, e2⟩ := AllIs.get' (i := i) h2 (by simpa using e)
    exact ⟨v, by simpa using e1, e2⟩
theorem AllIs.append : ∀ {ds es : List Dt} {xs ys : List V}, AllIs K H ds xs → AllIs K H es ys → AllIs K H (ds ++ es) (xs ++ ys)
  | [], _, _, _, h, h' => by rw [allIs_nil.mp h]; exact h'
  | d :: ds, _, _, _, h, h' => by
    obtain ⟨x, r, rfl, h1, h2⟩ := allIs_cons.mp h
    exact allIs_cons.mpr ⟨x, _, rfl, h1, AllIs.append h2 h'⟩
theorem AllIs.drop : ∀ {ds : List Dt} {xs : List V} (n : Nat), AllIs K H ds xs → AllIs K H (ds.drop n) (xs.drop n)
  | _, _, 0, h => h
  | [], _, n + 1, h => by rw [allIs_nil.mp h]; exact allIs_nil.mpr rfl
  | d :: ds, _, n + 1, h => by
    obtain ⟨x, r, rfl, h1, h2⟩ := allIs_cons.mp h
    exact AllIs.drop n h2
theorem AllIs.take : ∀ {ds : List Dt} {xs : List V} (n : Nat), AllIs K H ds xs → AllIs K H (ds.take n) (xs.take n)
  | _, _, 0, _ => allIs_nil.mpr rfl
  | [], _, n + 1, h => by rw [allIs_nil.mp h]; exact allIs_nil.mpr rfl
  | d :: ds, _, n + 1, h => by
    obtain ⟨x, r, rfl, h1, h2⟩ := allIs_cons.mp h
    exact allIs_cons.mpr ⟨x, _, rfl, h1, AllIs.take n h2⟩
theorem AllIs.ints : ∀ {ns : List Int}, AllIs K H (ns.map Dt.int) (ns.map V.int)
  | [] => allIs_nil.mpr rfl
  | n :: ns => allIs_cons.mpr ⟨.int n, _, rfl, is_int.mpr rfl, AllIs.ints⟩
theorem AllIs.atI {ds : List Dt} {xs : List V} {i : Int} {d : Dt} (h : AllIs K H ds xs) (e : L2.atI ds i = some d) : ∃ v, L2.atI xs i = some v ∧ Is K H d v := by
  unfold L2.atI at e ⊢
  rw [← h.length]
  cases q : ixN ds.length i with
  | none => rw [q] at e; cases e
  | some j =>
    rw [q] at e
    exact h.get e
theorem AllIs.one {d : Dt} {xs : List V} (h : AllIs K H [d] xs) : ∃ v, xs = [v] ∧ Is K H d v := by
  obtain ⟨x, r, rfl, h1, h2⟩ := allIs_cons.mp h
  rw [allIs_nil.mp h2]
  exact ⟨x, rfl, h1⟩
theorem same_new {p : Addr} (h : H p = none) (o : HO) : Same H (upd H p o) := fun b u q => by rw [upd_ne (ne_of_none q h)]; exact q

structure Vw where
  g : Hp
  h : Hp
  sub : Same g h
structure Le (W W' : Vw) : Prop where
  g : Same W.g W'.g
  h : Same W.h W'.h
  n : ∀ a, W.h a ≠ none → W.g a = none → W'.g a = none
theorem Le.refl (W : Vw) : Le W W := ⟨Same.refl _, Same.refl _, fun _ _ h => h⟩
theorem Le.trans {W W1 W2 : Vw} (a : Le W W1) (b : Le W1 W2) : Le W W2 :=
  ⟨a.g.trans b.g, a.h.trans b.h, fun c h1 h2 => b.n c (fun z => h1 (a.h.free z)) (a.n c h1 h2)⟩
theorem Is.mono {W W' : Vw} {d : Dt} {v : V} (h : Is K W.g d v) (s : Le W W') : Is K W'.g d v := Is.mono0 s.g h
theorem AllIs.mono {W W' : Vw} {d : List Dt} {v : List V} (h : AllIs K W.g d v) (s : Le W W') : AllIs K W'.g d v := AllIs.mono0 s.g h
def Vw.new (W : Vw) (p : Addr) (o : HO) : Vw := ⟨upd W.g p o, upd W.h p o, fun b u q => by
  by_cases e : b = p
  · subst e; rw [upd_same] at q ⊢; exact q
  · rw [upd_ne e] at q ⊢; exact W.sub _ _ q⟩
theorem le_new {W : Vw} {p : Addr} (hp : W.h p = none) (o : HO) : Le W (W.new p o) :=
  ⟨same_new (W.sub.free hp) o, same_new hp o, fun a h1 h2 => by
    have : a ≠ p := fun e => h1 (e ▸ hp)
    show upd W.g p o a = none
    rw [upd_ne this]; exact h2⟩
def Vw.mine (W : Vw) (p : Addr) (o : HO) (hp : W.g p = none) : Vw := ⟨W.g, upd W.h p o, fun b u q => by
  have : b ≠ p := fun e => by rw [e, hp] at q; cases q
  rw [upd_ne this]; exact W.sub _ _ q⟩
theorem le_mine {W : Vw} {p : Addr} (hp : W.h p = none) (o : HO) : Le W (W.mine p o (W.sub.free hp)) :=
  ⟨Same.refl _, same_new hp o, fun _ _ h => h⟩
def Vw.frz (W : Vw) (p : Addr) (o : HO) (hp : W.h p = some o) : Vw := ⟨upd W.g p o, W.h, fun b u q => by
  by_cases e : b = p
  · subst e; rw [upd_same] at q; rw [hp]; exact q
  · rw [upd_ne e] at q; exact W.sub _ _ q⟩

inductive Sl where | none | some (d : Dt) | own (ds : List Dt) | arg (a : Addr) (ds : List Dt)
abbrev DS := List Sl
structure Rl (K : PySem.W.Frag) (Z F : Hp) (W : Vw) (ρ : DS) (σ : St) : Prop where
  len : ρ.length = σ.length
  at_ : ∀ (i : Nat) (d : Dt), ρ[i]? = some (.some d) → ∃ v, σ[i]? = some (some v) ∧ Is K W.g d v
  ow : ∀ (i : Nat) (ds : List Dt), ρ[i]? = some (.own ds) → ∃ a xs, σ[i]? = some (some (.ref a)) ∧ W.h a = some (.lst xs) ∧ W.g a = none ∧ F a = none ∧ AllIs K W.g ds xs
  ne : ∀ (i j : Nat) (ds es : List Dt), i ≠ j → ρ[i]? = some (.own ds) → ρ[j]? = some (.own es) → σ[i]? ≠ σ[j]?
  fr : Same F W.h
  z : Same Z F
  ar : ∀ (i : Nat) (a : Addr) (ds : List Dt), ρ[i]? = some (.arg a ds) → (∃ xs, σ[i]? = some (some (.ref a)) ∧ W.h a = some (.lst xs) ∧ W.g a = none ∧ F a = none ∧ AllIs K W.g ds xs) ∧ (∀ (j : Nat) (es : List Dt), ρ[j]? = some (.own es) → σ[j]? ≠ some (some (.ref a))) ∧ ∀ (j : Nat) (b : Addr) (es : List Dt), ρ[j]? = some (.arg b es) → j = i
variable {F : Hp} {W W' : Vw}
theorem Rl.mono {ρ : DS} {σ : St} (r : Rl K Z F W ρ σ) (s : Le W W') : Rl K Z F W' ρ σ :=
  ⟨r.len, fun i d e => let ⟨v, h1, h2⟩ := r.at_ i d e; ⟨v, h1, h2.mono s⟩,
   fun i ds e => let ⟨a, xs, h1, h2, h3, h4, h5⟩ := r.ow i ds e; ⟨a, xs, h1, s.h _ _ h2, s.n a (by rw [h2]; intro z; cases z) h3, h4, h5.mono s⟩, r.ne, r.fr.trans s.h, r.z,
   fun i a ds e => let ⟨⟨xs, h1, h2, h3, h4, h5⟩, k1, k2⟩ := r.ar i a ds e; ⟨⟨xs, h1, s.h _ _ h2, s.n a (by rw [h2]; intro z; cases z) h3, h4, h5.mono s⟩, k1, k2⟩⟩
theorem set_get {α : Type} {l : List α} {i j : Nat} {x y : α} (q : (l.set i x)[j]? = some y) : (i = j ∧ i < l.length ∧ x = y) ∨ (i ≠ j ∧ l[j]? = some y) := by
  by_cases hij : i = j
  · subst hij
    by_cases hl : i < l.length
    · rw [List.getElem?_set_self hl] at q
      exact .inl ⟨rfl, hl, Option.some.inj q⟩
    · rw [List.getElem?_eq_none (by rw [List.length_set]; omega)] at q
      cases q
  · rw [List.getElem?_set_ne hij] at q
    exact .inr ⟨hij, q⟩
theorem Rl.set {ρ : DS} {σ : St} (r : Rl K Z F W ρ σ) {d : Dt} {v : V} (i : Nat) (h : Is K W.g d v) : Rl K Z F W (ρ.set i (.some d)) (σ.set i (some v)) := by
  refine ⟨by rw [List.length_set, List.length_set]; exact r.len, fun j e q => ?_, fun j ds q => ?_, fun j k ds es hjk q1 q2 => ?_, r.fr, r.z, fun j a ds q => ?_⟩
  · rcases set_get q with ⟨rfl, hl, e1⟩ | ⟨hij, q⟩
    · cases e1
      exact ⟨v, by rw [List.getElem?_set_self (by rw [← r.len]; exact hl)], h⟩
    · rw [List.getElem?_set_ne hij]
      exact r.at_ j e q
  · rcases set_get q with ⟨_, _, e1⟩ | ⟨hij, q⟩
    · cases e1
    · rw [List.getElem?_set_ne hij]
      exact r.ow j ds q
  · rcases set_get q1 with ⟨_, _, e1⟩ | ⟨hij, q1⟩
    · cases e1
    rcases set_get q2 with ⟨_, _, e1⟩ | ⟨hik, q2⟩
    · cases e1
    rw [List.getElem?_set_ne hij, List.getElem?_set_ne hik]
    exact r.ne j k ds es hjk q1 q2
  · rcases set_get q with ⟨_, _, e1⟩ | ⟨hij, q⟩
    · cases e1
    obtain ⟨⟨xs, h1, h2⟩, k1, k2⟩ := r.ar j a ds q
    refine ⟨⟨xs, by rw [List.getElem?_set_ne hij]; exact h1, h2⟩, fun k es q' => ?_, fun k c es q' => ?_⟩
    · rcases set_get q' with ⟨_, _, e1⟩ | ⟨hik, q'⟩
      · cases e1
      rw [List.getElem?_set_ne hik]
      exact k1 k es q'
    · rcases set_get q' with ⟨_, _, e1⟩ | ⟨hik, q'⟩
      · cases e1
      exact k2 k c es q'
theorem Rl.own {ρ : DS} {σ : St} (r : Rl K Z F W ρ σ) (s : Le W W') {p : Addr} {xs : List V} {ds : List Dt} (i : Nat) (h0 : W.h p = none) (h1 : W'.h p = some (.lst xs)) (h2 : W'.g p = none) (h3 : AllIs K W'.g ds xs) :
    Rl K Z F W' (ρ.set i (.own ds)) (σ.set i (some (.ref p))) := by
  have r' := r.mono s
  have nep : ∀ (j : Nat) (es : List Dt), ρ[j]? = some (Sl.own es) → σ[j]? ≠ some (some (V.ref p)) := fun j es q z => by
    obtain ⟨a, ys, e1, e2, _⟩ := r.ow j es q
    rw [z] at e1
    cases e1
    rw [h0] at e2
    cases e2
  refine ⟨by rw [List.length_set, List.length_set]; exact r.len, fun j e q => ?_, fun j es q => ?_, fun j k es es' hjk q1 q2 => ?_, r'.fr, r.z, fun j a fs q => ?_⟩
  · rcases set_get q with ⟨_, _, e1⟩ | ⟨hij, q⟩
    · cases e1
    · rw [List.getElem?_set_ne hij]
      exact r'.at_ j e q
  · rcases set_get q with ⟨rfl, hl, e1⟩ | ⟨hij, q⟩
    · cases e1
      exact ⟨p, xs, by rw [List.getElem?_set_self (by rw [← r.len]; exact hl)], h1, h2, r.fr.free h0, h3⟩
    · rw [List.getElem?_set_ne hij]
      exact r'.ow j es q
  · rcases set_get q1 with ⟨rfl, hl, e1⟩ | ⟨hij, q1⟩
    · rcases set_get q2 with ⟨rfl, _, _⟩ | ⟨hik, q2⟩
      · exact absurd rfl hjk
      · rw [List.getElem?_set_self (by rw [← r.len]; exact hl), List.getElem?_set_ne hik]
        exact fun z => nep k es' q2 z.symm
    · rcases set_get q2 with ⟨rfl, hl, _⟩ | ⟨hik, q2⟩
      · rw [List.getElem?_set_self (by rw [← r.len]; exact hl), List.getElem?_set_ne hij]
        exact nep j es q1
      · rw [List.getElem?_set_ne hij, List.getElem?_set_ne hik]
        exact r.ne j k es es' hjk q1 q2
  · rcases set_get q with ⟨_, _, e1⟩ | ⟨hij, q⟩
    · cases e1
    obtain ⟨⟨ys, g1, g2⟩, k1, k2⟩ := r'.ar j a fs q
    obtain ⟨⟨_, _, g3, _⟩, _, _⟩ := r.ar j a fs q
    refine ⟨⟨ys, by rw [List.getElem?_set_ne hij]; exact g1, g2⟩, fun k es q' => ?_, fun k c es q' => ?_⟩
    · rcases set_get q' with ⟨rfl, hl, e1⟩ | ⟨hik, q'⟩
      · rw [List.getElem?_set_self (by rw [← r.len]; exact hl)]
        intro z
        cases z
        rw [h0] at g3
        cases g3
      · rw [List.getElem?_set_ne hik]
        exact k1 k es q'
    · rcases set_get q' with ⟨_, _, e1⟩ | ⟨hik, q'⟩
      · cases e1
      exact k2 k c es q'
theorem Rl.put {ρ : DS} {σ : St} (r : Rl K Z F W ρ σ) {i : Nat} {ds es : List Dt} {a : Addr} {ys : List V} (hi : ρ[i]? = some (.own ds)) (ha : σ[i]? = some (some (.ref a))) (hg : W.g a = none) (hF : F a = none) (h3 : AllIs K W.g es ys) :
    Rl K Z F (W.mine a (.lst ys) hg) (ρ.set i (.own es)) σ := by
  have hl : i < ρ.length := by
    rcases Nat.lt_or_ge i ρ.length with h | h
    · exact h
    · rw [List.getElem?_eq_none h] at hi; cases hi
  have other : ∀ j fs, j ≠ i → ρ[j]? = some (.own fs) → σ[j]? ≠ some (some (.ref a)) := fun j fs hj q z => r.ne j i fs ds hj q hi (z.trans ha.symm)
  refine ⟨by rw [List.length_set]; exact r.len, fun j e q => ?_, fun j fs q => ?_, fun j k fs fs' hjk q1 q2 => ?_, fun p o q => ?_, r.z, fun j c fs q => ?_⟩
  · rcases set_get q with ⟨_, _, e1⟩ | ⟨hij, q⟩
    · cases e1
    · exact r.at_ j e q
  · rcases set_get q with ⟨rfl, _, e1⟩ | ⟨hij, q⟩
    · cases e1
      exact ⟨a, ys, ha, upd_same, hg, hF, h3⟩
    · obtain ⟨b, xs, e1, e2, e3, e4, e5⟩ := r.ow j fs q
      have hb : b ≠ a := fun z => other j fs (fun z => hij z.symm) q (z ▸ e1)
      exact ⟨b, xs, e1, (upd_ne hb).trans e2, e3, e4, e5⟩
  · have k1 : ∃ gs, ρ[j]? = some (.own gs) := by
      rcases set_get q1 with ⟨rfl, _, _⟩ | ⟨_, q⟩
      · exact ⟨_, hi⟩
      · exact ⟨_, q⟩
    have k2 : ∃ gs, ρ[k]? = some (.own gs) := by
      rcases set_get q2 with ⟨rfl, _, _⟩ | ⟨_, q⟩
      · exact ⟨_, hi⟩
      · exact ⟨_, q⟩
    obtain ⟨_, k1⟩ := k1
    obtain ⟨_, k2⟩ := k2
    exact r.ne j k _ _ hjk k1 k2
  · have e : p ≠ a := fun e => by rw [e, hF] at q; cases q
    exact (upd_ne (H := W.h) (o := .lst ys) e).trans (r.fr p o q)
  · rcases set_get q with ⟨_, _, e1⟩ | ⟨hij, q⟩
    · cases e1
    obtain ⟨⟨ys', g1, g2, g3, g4, g5⟩, k1, k2⟩ := r.ar j c fs q
    have hc : c ≠ a := fun z => k1 i ds hi (by rw [z]; exact ha)
    refine ⟨⟨ys', g1, (upd_ne hc).trans g2, g3, g4, g5⟩, fun k es' q' => ?_, fun k c' es' q' => ?_⟩
    · rcases set_get q' with ⟨rfl, _, _⟩ | ⟨_, q'⟩
      · exact k1 i ds hi
      · exact k1 k es' q'
    · rcases set_get q' with ⟨_, _, e1⟩ | ⟨hik, q'⟩
      · cases e1
      exact k2 k c' es' q'
theorem Rl.frz {ρ : DS} {σ : St} (r : Rl K Z F W ρ σ) {i : Nat} {ds : List Dt} {a : Addr} {xs : List V} (hi : ρ[i]? = some (.own ds)) (ha : σ[i]? = some (some (.ref a))) (hh : W.h a = some (.lst xs)) (hg : W.g a = none) (h3 : AllIs K W.g ds xs) :
    Rl K Z F (W.frz a _ hh) (ρ.set i (.some (.lst ds))) σ := by
  have sg : Same W.g (upd W.g a (.lst xs)) := same_new hg _
  have other : ∀ j fs, j ≠ i → ρ[j]? = some (.own fs) → σ[j]? ≠ some (some (.ref a)) := fun j fs hj q z => r.ne j i fs ds hj q hi (z.trans ha.symm)
  refine ⟨by rw [List.length_set]; exact r.len, fun j e q => ?_, fun j fs q => ?_, fun j k fs fs' hjk q1 q2 => ?_, r.fr, r.z, fun j c fs q => ?_⟩
  · rcases set_get q with ⟨rfl, _, e1⟩ | ⟨hij, q⟩
    · cases e1
      exact ⟨_, ha, is_lst.mpr ⟨a, xs, rfl, upd_same, AllIs.mono0 sg h3⟩⟩
    · obtain ⟨v, e1, e2⟩ := r.at_ j e q
      exact ⟨v, e1, Is.mono0 sg e2⟩
  · rcases set_get q with ⟨_, _, e1⟩ | ⟨hij, q⟩
    · cases e1
    · obtain ⟨b, ys, e1, e2, e3, e4, e5⟩ := r.ow j fs q
      have hb : b ≠ a := fun z => other j fs (fun z => hij z.symm) q (z ▸ e1)
      exact ⟨b, ys, e1, e2, (upd_ne hb).trans e3, e4, AllIs.mono0 sg e5⟩
  · rcases set_get q1 with ⟨_, _, e1⟩ | ⟨_, q1⟩
    · cases e1
    rcases set_get q2 with ⟨_, _, e1⟩ | ⟨_, q2⟩
    · cases e1
    exact r.ne j k _ _ hjk q1 q2
  · rcases set_get q with ⟨_, _, e1⟩ | ⟨hij, q⟩
    · cases e1
    obtain ⟨⟨ys', g1, g2, g3, g4, g5⟩, k1, k2⟩ := r.ar j c fs q
    have hc : c ≠ a := fun z => k1 i ds hi (by rw [z]; exact ha)
    refine ⟨⟨ys', g1, g2, (upd_ne hc).trans g3, g4, AllIs.mono0 sg g5⟩, fun k es' q' => ?_, fun k c' es' q' => ?_⟩
    · rcases set_get q' with ⟨_, _, e1⟩ | ⟨_, q'⟩
      · cases e1
      · exact k1 k es' q'
    · rcases set_get q' with ⟨_, _, e1⟩ | ⟨hik, q'⟩
      · cases e1
      exact k2 k c' es' q'
def dstart (n : Nat) (ds : List Dt) : DS := ds.map Sl.some ++ List.replicate (n - ds.length) Sl.none
theorem Rl.start {N : List Str} {ds : List Dt} {vs : List V} (h : AllIs K W.g ds vs) (hz : Same Z W.h) : Rl K Z W.h W (dstart N.length ds) (L2.start N vs) := by
  have hl := h.length
  have cls : ∀ (i : Nat) (y : Sl), (dstart N.length ds)[i]? = some y → (∃ d, ds[i]? = some d ∧ y = .some d) ∨ y = .none := fun i y e => by
    unfold dstart at e
    by_cases hi : i < ds.length
    · rw [List.getElem?_append_left (by rw [List.length_map]; exact hi), List.getElem?_map] at e
      cases q : ds[i]? with
      | none => rw [q] at e; cases e
      | some d' =>
        rw [q] at e
        exact .inl ⟨d', rfl, (Option.some.inj e).symm⟩
    · rw [List.getElem?_append_right (by rw [List.length_map]; omega), List.getElem?_replicate] at e
      split at e
      · exact .inr (Option.some.inj e).symm
      · cases e
  refine ⟨by unfold L2.start dstart; rw [List.length_append, List.length_append, List.length_map, List.length_map, List.length_replicate, List.length_replicate, hl], fun i d e => ?_, fun i es e => ?_, fun i j es fs _ e _ => ?_, Same.refl _, hz, fun i a es e => ?_⟩
  · rcases cls i _ e with ⟨d', q, e1⟩ | e1
    · cases e1
      obtain ⟨v, h1, h2⟩ := h.get q
      refine ⟨v, ?_, h2⟩
      have hi : i < ds.length := by
        rcases Nat.lt_or_ge i ds.length with h | h
        · exact h
        · rw [List.getElem?_eq_none h] at q; cases q
      unfold L2.start
      rw [List.getElem?_append_left (by rw [List.length_map, ← hl]; exact hi), List.getElem?_map, h1]
      rfl
    · cases e1
  · rcases cls i _ e with ⟨d', q, e1⟩ | e1
    · cases e1
    · cases e1
  · rcases cls i _ e with ⟨d', q, e1⟩ | e1
    · cases e1
    · cases e1
  · rcases cls i _ e with ⟨d', q, e1⟩ | e1
    · cases e1
    · cases e1

abbrev DTE := DS → (Dt → Prop) → Prop
abbrev DTT := DS → (Bool → Prop) → Prop
abbrev DTA := DS → (List Dt → Prop) → Prop
def LiE (K : PySem.W.Frag) (Z : Hp) (te : TE) (t : DTE) : Prop :=
  ∀ {F : Hp} (ρ : DS) (σ : St) (H : Vw) (Q : Dt → Prop), Rl K Z F H ρ σ → t ρ Q → ∀ R : VK, (∀ d v H', Le H H' → Is K H'.g d v → Q d → R v H'.h) → te σ H.h R
def LiT (K : PySem.W.Frag) (Z : Hp) (te : TT) (t : DTT) : Prop :=
  ∀ {F : Hp} (ρ : DS) (σ : St) (H : Vw) (Q : Bool → Prop), Rl K Z F H ρ σ → t ρ Q → ∀ R : Bool → Hp → Prop, (∀ d H', Le H H' → Q d → R d H'.h) → te σ H.h R
def LiA (K : PySem.W.Frag) (Z : Hp) (te : TA) (t : DTA) : Prop :=
  ∀ {F : Hp} (ρ : DS) (σ : St) (H : Vw) (Q : List Dt → Prop), Rl K Z F H ρ σ → t ρ Q → ∀ R : List V → Hp → Prop, (∀ d v H', Le H H' → AllIs K H'.g d v → Q d → R v H'.h) → te σ H.h R
def DE (X : Cx) (e : Expr) (t : DTE) : Prop := ∃ te, PE X e te ∧ LiE X.K (Zx X) te t
def DT (X : Cx) (e : Expr) (t : DTT) : Prop := ∃ te, PT X e te ∧ LiT X.K (Zx X) te t
def DW (X : Cx) (e : Expr) (t : DTT) : Prop := ∃ te, PW X e te ∧ LiT X.K (Zx X) te t
def DA (X : Cx) (es : List Expr) (t : DTA) : Prop := ∃ te, PA X es te ∧ LiA X.K (Zx X) te t
theorem DW.dt {X : Cx} {e : Expr} {t : DTT} (h : DW X e t) : DT X e t := let ⟨te, h1, h2⟩ := h; ⟨te, h1.pt, h2⟩

def dVar (i : Nat) : DTE := fun ρ Q => ∃ d, ρ[i]? = some (.some d) ∧ Q d
def dC (d : Dt) : DTE := fun _ Q => Q d
section
variable {X : Cx} {a b c : Expr} {ta tb tc : DTE} {pos : Pos}
theorem dv (i : Nat) {x : Str} {pos : Pos} (hN : X.N[i]? = some x := by rfl) (hv : Vis X.env.scope x := by first | exact Or.inl rfl | exact Or.inr (Or.inl rfl) | exact Or.inr (Or.inr rfl)) (hd : (x == ("__debug__" : Str)) = false := by decide)
    (hcd : (x == ("__classdict__" : Str)) = false := by decide) : DE X (.Name x pos) (dVar i) :=
  ⟨tVar i, pe_var hN hv hd hcd, fun ρ σ H Q r h R k => by
    obtain ⟨d, e, q⟩ := h
    obtain ⟨v, h1, h2⟩ := r.at_ i d e
    exact ⟨v, h1, k d v H (Le.refl H) h2 q⟩⟩
theorem lic {v : V} {d : Dt} (h : ∀ H : Vw, Is K H.g d v) : LiE K Z (tC v) (dC d) := fun ρ σ H Q r q R k => k d v H (Le.refl H) (h H) q
theorem de_int {i j pos} : DE X (.Constant (.int i) j pos) (dC (.int i)) := ⟨_, pe_int, lic fun _ => is_int.mpr rfl⟩
theorem de_bl {b j pos} : DE X (.Constant (.bool b) j pos) (dC (.bl b)) := ⟨_, pe_bl, lic fun _ => is_bl.mpr rfl⟩
theorem de_non {j pos} : DE X (.Constant .none j pos) (dC .non) := ⟨_, pe_non, lic fun _ => is_non.mpr rfl⟩
theorem de_str {x j pos} : DE X (.Constant (.str x) j pos) (dC (.str x)) := ⟨_, pe_str, lic fun _ => is_str.mpr rfl⟩

def DOp (X : Cx) (f : Value → Value → Sem Value) (g : Dt → Dt → (Dt → Prop) → Prop) : Prop :=
  ∃ r, OpR X f r ∧ ∀ (H : Vw) (x y : V) (d e : Dt) (Q : Dt → Prop), Is X.K H.g d x → Is X.K H.g e y → g d e Q → ∀ R : VK, (∀ d v H', Le H H' → Is X.K H'.g d v → Q d → R v H'.h) → r x y H.h R
def dOp (g : Dt → Dt → (Dt → Prop) → Prop) (ta tb : DTE) : DTE := fun ρ Q => ta ρ fun d => tb ρ fun e => g d e Q
theorem liOp {te tf : TE} {r : R2} {g : Dt → Dt → (Dt → Prop) → Prop} (ha : LiE K Z te ta) (hb : LiE K Z tf tb)
    (hg : ∀ (H : Vw) (x y : V) (d e : Dt) (Q : Dt → Prop), Is K H.g d x → Is K H.g e y → g d e Q → ∀ R : VK, (∀ d v H', Le H H' → Is K H'.g d v → Q d → R v H'.h) → r x y H.h R) : LiE K Z (tOp r te tf) (dOp g ta tb) :=
  fun ρ σ H Q rl h R k => ha ρ σ H _ rl h _ fun d v H1 s1 i1 q1 => hb ρ σ H1 _ (rl.mono s1) q1 _ fun e u H2 s2 i2 q2 =>
    hg H2 v u d e Q (i1.mono s2) i2 q2 R fun d' v' H3 s3 i3 q3 => k d' v' H3 ((s1.trans s2).trans s3) i3 q3
theorem de_op {op : Operator} {g : Dt → Dt → (Dt → Prop) → Prop} (ho : DOp X (binaryOp op) g) (ha : DE X a ta) (hb : DE X b tb) : DE X (.BinOp a op b pos) (dOp g ta tb) := by
  obtain ⟨r, h1, h2⟩ := ho
  obtain ⟨te, p1, l1⟩ := ha
  obtain ⟨tf, p2, l2⟩ := hb
  exact ⟨_, pe_op h1 p1 p2, liOp l1 l2 h2⟩
theorem de_cmp {op : CmpOp} {g : Dt → Dt → (Dt → Prop) → Prop} (ho : DOp X (compareOp op) g) (ha : DE X a ta) (hb : DE X b tb) (hm : behindInMarks op b = false) : DE X (.Compare a [op] [b] pos) (dOp g ta tb) := by
  obtain ⟨r, h1, h2⟩ := ho
  obtain ⟨te, p1, l1⟩ := ha
  obtain ⟨tf, p2, l2⟩ := hb
  exact ⟨_, pe_cmpR h1 p1 p2 hm, liOp l1 l2 h2⟩
def dTest (t : DTE) : DTT := fun ρ Q => t ρ fun d => ∃ k, d = .bl k ∧ Q k
theorem liTest {te : TE} {t : DTE} (h : LiE K Z te t) : LiT K Z (tTest te) (dTest t) := fun ρ σ H Q r q R k =>
  h ρ σ H _ r q _ fun d v H1 s1 i1 ⟨b, e, qb⟩ => by
    subst e
    exact ⟨b, is_bl.mp i1, k b H1 s1 qb⟩
theorem dt_cmp {op : CmpOp} {g : Dt → Dt → (Dt → Prop) → Prop} (ho : DOp X (compareOp op) g) (ha : DE X a ta) (hb : DE X b tb) (hm : behindInMarks op b = false) : DT X (.Compare a [op] [b] pos) (dTest (dOp g ta tb)) := by
  obtain ⟨r, h1, h2⟩ := ho
  obtain ⟨te, p1, l1⟩ := ha
  obtain ⟨tf, p2, l2⟩ := hb
  exact ⟨_, pt_cmpR h1 p1 p2 hm, liTest (liOp l1 l2 h2)⟩
theorem dt_val {e : Expr} {t : DTE} (h : DE X e t) (he : ∀ whole, isTrue e X.env whole = (do let v ← whole; standAt e.pos; holding [v] (truthy v)) := by intro _; rfl) : DT X e (dTest t) := by
  obtain ⟨te, p, l⟩ := h
  exact ⟨_, pt_val p he, liTest l⟩
def dChain (g g' : Dt → Dt → (Dt → Prop) → Prop) (ta tb tc : DTE) : DTE := fun ρ Q => ta ρ fun d => tb ρ fun e => g d e fun z => ∃ k, z = .bl k ∧ (if k = true then tc ρ fun w => g' e w Q else Q (.bl false))
theorem liChain {te tf tg : TE} {r r' : R2} {g g' : Dt → Dt → (Dt → Prop) → Prop} (ha : LiE K Z te ta) (hb : LiE K Z tf tb) (hc : LiE K Z tg tc)
    (hg : ∀ (H : Vw) (x y : V) (d e : Dt) (Q : Dt → Prop), Is K H.g d x → Is K H.g e y → g d e Q → ∀ R : VK, (∀ d v H', Le H H' → Is K H'.g d v → Q d → R v H'.h) → r x y H.h R)
    (hg' : ∀ (H : Vw) (x y : V) (d e : Dt) (Q : Dt → Prop), Is K H.g d x → Is K H.g e y → g' d e Q → ∀ R : VK, (∀ d v H', Le H H' → Is K H'.g d v → Q d → R v H'.h) → r' x y H.h R) : LiE K Z (tChain r r' te tf tg) (dChain g g' ta tb tc) :=
  fun ρ σ H Q rl h R k => ha ρ σ H _ rl h _ fun d v H1 s1 i1 q1 => hb ρ σ H1 _ (rl.mono s1) q1 _ fun e u H2 s2 i2 q2 =>
    hg H2 v u d e _ (i1.mono s2) i2 q2 _ fun d' v' H3 s3 i3 ⟨z, ez, q3⟩ => by
      subst ez
      refine ⟨z, is_bl.mp i3, ?_⟩
      cases z with
      | false => exact k _ _ H3 ((s1.trans s2).trans s3) (is_bl.mpr rfl) q3
      | true => exact hc ρ σ H3 _ (rl.mono ((s1.trans s2).trans s3)) q3 _ fun w x H4 s4 i4 q4 => hg' H4 u x e w Q (i2.mono (s3.trans s4)) i4 q4 R fun d5 v5 H5 s5 i5 q5 => k d5 v5 H5 (((s1.trans s2).trans (s3.trans s4)).trans s5) i5 q5
theorem dt_chain {op op' : CmpOp} {g g' : Dt → Dt → (Dt → Prop) → Prop} (ho : DOp X (compareOp op) g) (ho' : DOp X (compareOp op') g') (ha : DE X a ta) (hb : DE X b tb) (hc : DE X c tc)
    (hm : lastMarks [op, op'] [b, c] = false := by with_unfolding_all rfl) : DT X (.Compare a [op, op'] [b, c] pos) (dTest (dChain g g' ta tb tc)) := by
  obtain ⟨r, h1, h2⟩ := ho
  obtain ⟨r', h3, h4⟩ := ho'
  obtain ⟨te, p1, l1⟩ := ha
  obtain ⟨tf, p2, l2⟩ := hb
  obtain ⟨tg, p3, l3⟩ := hc
  exact ⟨_, pt_chain h1 h3 p1 p2 p3 hm, liTest (liChain l1 l2 l3 h2 h4)⟩

variable {tA tB : DTT} {rest : List Expr}
def dAnd (t u : DTT) : DTT := fun ρ Q => t ρ fun c => if c = true then u ρ Q else Q false
def dOr (t u : DTT) : DTT := fun ρ Q => t ρ fun c => if c = true then Q true else u ρ Q
def dNot (t : DTT) : DTT := fun ρ Q => t ρ fun c => Q (!c)
theorem dw_and1 (ha : DT X a tA) : DW X (.BoolOp .And [a] pos) tA := let ⟨_, p, l⟩ := ha; ⟨_, pw_and1 p, l⟩
theorem dw_or1 (ha : DT X a tA) : DW X (.BoolOp .Or [a] pos) tA := let ⟨_, p, l⟩ := ha; ⟨_, pw_or1 p, l⟩
theorem dw_and (ha : DT X a tA) (hb : DW X (.BoolOp .And (b :: rest) pos) tB) : DW X (.BoolOp .And (a :: b :: rest) pos) (dAnd tA tB) := by
  obtain ⟨te, p1, l1⟩ := ha
  obtain ⟨tf, p2, l2⟩ := hb
  refine ⟨_, pw_and p1 p2, fun ρ σ H Q r h R k => l1 ρ σ H _ r h _ fun c H1 s1 q1 => ?_⟩
  cases c with
  | true => exact l2 ρ σ H1 Q (r.mono s1) q1 R fun d H2 s2 q2 => k d H2 (s1.trans s2) q2
  | false => exact k _ H1 s1 q1
theorem dw_or (ha : DT X a tA) (hb : DW X (.BoolOp .Or (b :: rest) pos) tB) : DW X (.BoolOp .Or (a :: b :: rest) pos) (dOr tA tB) := by
  obtain ⟨te, p1, l1⟩ := ha
  obtain ⟨tf, p2, l2⟩ := hb
  refine ⟨_, pw_or p1 p2, fun ρ σ H Q r h R k => l1 ρ σ H _ r h _ fun c H1 s1 q1 => ?_⟩
  cases c with
  | false => exact l2 ρ σ H1 Q (r.mono s1) q1 R fun d H2 s2 q2 => k d H2 (s1.trans s2) q2
  | true => exact k _ H1 s1 q1
theorem dt_not (ha : DT X a tA) : DT X (.UnaryOp .Not a pos) (dNot tA) := by
  obtain ⟨te, p1, l1⟩ := ha
  exact ⟨_, pt_not p1, fun ρ σ H Q r h R k => l1 ρ σ H _ r h _ fun c H1 s1 q1 => k _ H1 s1 q1⟩
def dAndV (ta tb : DTE) : DTE := fun ρ Q => ta ρ fun d => ∃ c, d = .bl c ∧ if c = true then tb ρ Q else Q (.bl false)
def dNotV (ta : DTE) : DTE := fun ρ Q => ta ρ fun d => ∃ c, d = .bl c ∧ Q (.bl (!c))
theorem de_one {op} {t : DTE} (h : DE X a t) : DE X (.BoolOp op [a] pos) t := let ⟨_, p, l⟩ := h; ⟨_, pe_one p, l⟩
theorem de_and (ha : DE X a ta) (hb : DE X (.BoolOp .And (b :: rest) pos) tb) : DE X (.BoolOp .And (a :: b :: rest) pos) (dAndV ta tb) := by
  obtain ⟨te, p1, l1⟩ := ha
  obtain ⟨tf, p2, l2⟩ := hb
  refine ⟨_, pe_and p1 p2, fun ρ σ H Q r h R k => l1 ρ σ H _ r h _ fun d v H1 s1 i1 ⟨c, e, q1⟩ => ?_⟩
  subst e
  refine ⟨c, is_bl.mp i1, ?_⟩
  cases c with
  | true => exact l2 ρ σ H1 Q (r.mono s1) q1 R fun d v H2 s2 i2 q2 => k d v H2 (s1.trans s2) i2 q2
  | false => exact k _ _ H1 s1 (is_bl.mpr rfl) q1
theorem de_not (ha : DE X a ta) : DE X (.UnaryOp .Not a pos) (dNotV ta) := by
  obtain ⟨te, p1, l1⟩ := ha
  refine ⟨_, pe_not p1, fun ρ σ H Q r h R k => l1 ρ σ H _ r h _ fun d v H1 s1 i1 ⟨c, e, q1⟩ => ?_⟩
  subst e
  exact ⟨c, is_bl.mp i1, k _ _ H1 s1 (is_bl.mpr rfl) q1⟩
def dIf (t : DTT) (ta tb : DTE) : DTE := fun ρ Q => t ρ fun c => if c = true then ta ρ Q else tb ρ Q
theorem de_ifExp {c : Expr} (hc : DT X c tA) (ha : DE X a ta) (hb : DE X b tb) : DE X (.IfExp c a b pos) (dIf tA ta tb) := by
  obtain ⟨tt, p0, l0⟩ := hc
  obtain ⟨te, p1, l1⟩ := ha
  obtain ⟨tf, p2, l2⟩ := hb
  refine ⟨_, pe_ifExp p0 p1 p2, fun ρ σ H Q r h R k => l0 ρ σ H _ r h _ fun c H1 s1 q1 => ?_⟩
  cases c with
  | true => exact l1 ρ σ H1 Q (r.mono s1) q1 R fun d v H2 s2 i2 q2 => k d v H2 (s1.trans s2) i2 q2
  | false => exact l2 ρ σ H1 Q (r.mono s1) q1 R fun d v H2 s2 i2 q2 => k d v H2 (s1.trans s2) i2 q2
end

section
variable {X : Cx} {a b c : Expr} {ta tb tc : DTE} {pos : Pos}
def gI (g : Int → Int → Dt) : Dt → Dt → (Dt → Prop) → Prop := fun d e Q => ∃ i j, d = .int i ∧ e = .int j ∧ Q (g i j)
def gIC (C : Int → Int → Prop) (g : Int → Int → Dt) : Dt → Dt → (Dt → Prop) → Prop := fun d e Q => ∃ i j, d = .int i ∧ e = .int j ∧ C i j ∧ Q (g i j)
theorem dop_I0 {f : Value → Value → Sem Value} {g : Int → Int → Int} (h : OpR X f (rI0 fun i j => .int (g i j))) : DOp X f (gI fun i j => .int (g i j)) := by
  refine ⟨_, h, fun H x y d e Q i1 i2 q R k => ?_⟩
  obtain ⟨i, j, rfl, rfl, q⟩ := q
  exact ⟨i, j, is_int.mp i1, is_int.mp i2, k _ _ H (Le.refl H) (is_int.mpr rfl) q⟩
theorem dop_B0 {f : Value → Value → Sem Value} {g : Int → Int → Bool} (h : OpR X f (rI0 fun i j => .bl (g i j))) : DOp X f (gI fun i j => .bl (g i j)) := by
  refine ⟨_, h, fun H x y d e Q i1 i2 q R k => ?_⟩
  obtain ⟨i, j, rfl, rfl, q⟩ := q
  exact ⟨i, j, is_int.mp i1, is_int.mp i2, k _ _ H (Le.refl H) (is_bl.mpr rfl) q⟩
theorem dop_IC {f : Value → Value → Sem Value} {C : Int → Int → Prop} {g : Int → Int → Int} (h : OpR X f (rI C fun i j => .int (g i j))) : DOp X f (gIC C fun i j => .int (g i j)) := by
  refine ⟨_, h, fun H x y d e Q i1 i2 q R k => ?_⟩
  obtain ⟨i, j, rfl, rfl, hc, q⟩ := q
  exact ⟨i, j, is_int.mp i1, is_int.mp i2, hc, k _ _ H (Le.refl H) (is_int.mpr rfl) q⟩
theorem op_mulB : OpR X (binaryOp .Mult) (rI IntMulOk fun i j => .int (i * j)) := opI fun _ _ _ _ _ _ _ hc q => mul_int q hc
theorem o_add : DOp X (binaryOp .Add) (gI fun i j => .int (i + j)) := dop_I0 op_add
theorem o_sub : DOp X (binaryOp .Sub) (gI fun i j => .int (i - j)) := dop_I0 op_sub
theorem o_mul : DOp X (binaryOp .Mult) (gIC IntMulOk fun i j => .int (i * j)) := dop_IC op_mulB
theorem o_fdiv : DOp X (binaryOp .FloorDiv) (gIC CDivN fun i j => .int (i.fdiv j)) := dop_IC op_fdivN
def CModN (_ j : Int) : Prop := j ≠ 0
theorem o_mod : DOp X (binaryOp .Mod) (gIC CModN fun i j => .int (i.fmod j)) := dop_IC (C := CModN) op_modN
theorem cdivN {c n : Int} (h : (n != 0 && decide (n.natAbs < 1073741824)) = true) : CDivN c n := by
  rw [Bool.and_eq_true, bne_iff_ne, decide_eq_true_iff] at h
  exact h
theorem cmodN {c n : Int} (h : (n != 0) = true) : CModN c n := bne_iff_ne.mp h
theorem cpowN {c n : Int} (h : (decide (0 ≤ n) && (decide (n ≤ 1000000) && decide (c.natAbs < 18446744073709551616))) = true) : CPow c n := by
  rw [Bool.and_eq_true, Bool.and_eq_true, decide_eq_true_iff, decide_eq_true_iff, decide_eq_true_iff] at h
  exact h
theorem mulR {c n : Int} (h : decide (n.natAbs < 9223372036854775808) = true) : IntMulOk c n := by
  rw [decide_eq_true_iff] at h
  exact .of_right (intBits_le_64 (by omega) (by omega))
theorem mulL {c n : Int} (h : decide (n.natAbs < 9223372036854775808) = true) : IntMulOk n c := by
  rw [decide_eq_true_iff] at h
  exact .of_left (intBits_le_64 (by omega) (by omega))
theorem o_pow : DOp X (binaryOp .Pow) (gIC CPow fun i j => .int (i ^ j.toNat)) := dop_IC op_pow
theorem o_lt : DOp X (compareOp .Lt) (gI fun i j => .bl (decide (i < j))) := dop_B0 op_lt
theorem o_le : DOp X (compareOp .LtE) (gI fun i j => .bl (decide (i ≤ j))) := dop_B0 op_le
theorem o_gt : DOp X (compareOp .Gt) (gI fun i j => .bl (decide (j < i))) := dop_B0 op_gt
theorem o_ge : DOp X (compareOp .GtE) (gI fun i j => .bl (decide (j ≤ i))) := dop_B0 op_ge
def dNeg (ta : DTE) : DTE := fun ρ Q => ta ρ fun d => ∃ i, d = .int i ∧ Q (.int (-i))
theorem de_neg (ha : DE X a ta) : DE X (.UnaryOp .USub a pos) (dNeg ta) := by
  obtain ⟨te, p1, l1⟩ := ha
  refine ⟨_, pe_un un_neg p1, fun ρ σ H Q r h R k => l1 ρ σ H _ r h _ fun d v H1 s1 i1 ⟨i, e, q1⟩ => ?_⟩
  subst e
  exact ⟨i, is_int.mp i1, k _ _ H1 s1 (is_int.mpr rfl) q1⟩
def dNil : DTA := fun _ Q => Q []
def dCons (te : DTE) (t : DTA) : DTA := fun ρ Q => te ρ fun d => t ρ fun ds => Q (d :: ds)
variable {es : List Expr} {t : DTA}
theorem da_nil : DA X [] dNil := ⟨_, pa_nil, fun ρ σ H Q r h R k => k [] [] H (Le.refl H) (allIs_nil.mpr rfl) h⟩
theorem da_cons (ha : DE X a ta) (hr : DA X es t) (hs : starEach (a :: es) X.env = (false, eval a X.env) :: starEach es X.env := by rfl) : DA X (a :: es) (dCons ta t) := by
  obtain ⟨te, p1, l1⟩ := ha
  obtain ⟨tf, p2, l2⟩ := hr
  exact ⟨_, pa_cons p1 p2 hs, fun ρ σ H Q r h R k => l1 ρ σ H _ r h _ fun d v H1 s1 i1 q1 => l2 ρ σ H1 _ (r.mono s1) q1 _ fun ds vs H2 s2 i2 q2 =>
    k (d :: ds) (v :: vs) H2 (s1.trans s2) (allIs_cons.mpr ⟨v, vs, rfl, i1.mono s2, i2⟩) q2⟩
def dTup (t : DTA) : DTE := fun ρ Q => t ρ fun ds => Nat.ble ds.length 1000 = true ∧ Q (.tup ds)
def dLst (t : DTA) : DTE := fun ρ Q => t ρ fun ds => Nat.ble ds.length 1000 = true ∧ Q (.lst ds)
theorem de_tup {x1} (h : DA X es t) : DE X (.Tuple es x1 pos) (dTup t) := by
  obtain ⟨te, p1, l1⟩ := h
  refine ⟨_, pe_tup p1, fun ρ σ H Q r h R k => l1 ρ σ H _ r h _ fun ds vs H1 s1 i1 ⟨hl, q1⟩ => ⟨?_, fun p hp => ?_⟩⟩
  · rw [← i1.length]; exact Nat.le_trans (Nat.le_of_ble_eq_true hl) (by decide)
  · have s := le_new hp (.tup vs)
    exact k _ _ _ (s1.trans s) (is_tup.mpr ⟨p, vs, rfl, upd_same, i1.mono s⟩) q1
theorem de_lst (h : DA X es t) : DE X (.List es pos) (dLst t) := by
  obtain ⟨te, p1, l1⟩ := h
  refine ⟨_, pe_lst p1, fun ρ σ H Q r h R k => l1 ρ σ H _ r h _ fun ds vs H1 s1 i1 ⟨hl, q1⟩ => ⟨?_, fun p hp => ?_⟩⟩
  · rw [← i1.length]; exact Nat.le_trans (Nat.le_of_ble_eq_true hl) (by decide)
  · have s := le_new hp (.lst vs)
    exact k _ _ _ (s1.trans s) (is_lst.mpr ⟨p, vs, rfl, upd_same, i1.mono s⟩) q1

def seqOf : Dt → Option (List Dt)
  | .tup ds => some ds
  | .lst ds => some ds
  | .scr ns => some (ns.map .int)
  | _ => none
theorem seq_is {H : Vw} {d : Dt} {v : V} {ds : List Dt} (h : Is K H.g d v) (e : seqOf d = some ds) : ∃ a xs, v = .ref a ∧ (SqL K H.h a xs ∨ SqT K H.h a xs) ∧ AllIs K H.g ds xs := by
  cases d with
  | tup es =>
    obtain rfl : es = ds := Option.some.inj e
    obtain ⟨a, xs, rfl, h1, h2⟩ := is_tup.mp h
    exact ⟨a, xs, rfl, .inr (.of (H.sub _ _ h1)), h2⟩
  | lst es =>
    obtain rfl : es = ds := Option.some.inj e
    obtain ⟨a, xs, rfl, h1, h2⟩ := is_lst.mp h
    exact ⟨a, xs, rfl, .inl (.of (H.sub _ _ h1)), h2⟩
  | scr ns =>
    obtain rfl : ns.map Dt.int = ds := Option.some.inj e
    obtain ⟨a, rfl, h1⟩ := is_scr.mp h
    exact ⟨a, _, rfl, .inl (H.sub.seq h1), AllIs.ints⟩
  | _ => cases e
def dIx (ta tb : DTE) : DTE := fun ρ Q => ta ρ fun d => tb ρ fun e => ∃ ds i d', seqOf d = some ds ∧ e = .int i ∧ atI ds i = some d' ∧ Q d'
theorem de_ix (ha : DE X a ta) (hb : DE X b tb) (hs : PlainIx b) : DE X (.Subscript a b pos) (dIx ta tb) := by
  obtain ⟨te, p1, l1⟩ := ha
  obtain ⟨tf, p2, l2⟩ := hb
  refine ⟨_, pe_ix ix_seq p1 p2 hs, fun ρ σ H Q r h R k => l1 ρ σ H _ r h _ fun d v H1 s1 i1 q1 => l2 ρ σ H1 _ (r.mono s1) q1 _ fun e u H2 s2 i2 q2 => ?_⟩
  obtain ⟨ds, i, d', e1, e2, e3, q⟩ := q2
  subst e2
  obtain ⟨p, xs, e4, h1, h2⟩ := seq_is (i1.mono s2) e1
  obtain ⟨w, e5, h3⟩ := h2.atI e3
  rcases h1 with h1 | h1
  · exact .inl ⟨p, xs, i, w, e4, is_int.mp i2, h1, e5, k d' w H2 (s1.trans s2) h3 q⟩
  · exact .inr (.inl ⟨p, xs, i, w, e4, is_int.mp i2, h1, e5, k d' w H2 (s1.trans s2) h3 q⟩)
def dLen (t : DTE) : DTE := fun ρ Q => t ρ fun d => ∃ ds, seqOf d = some ds ∧ Q (.int ds.length)
theorem de_len {p : Pos} (hg : Gl X "len") (hm : X.mg "len" = none) (ha : DE X a ta) (hs : starEach [a] X.env = (false, eval a X.env) :: starEach [] X.env := by rfl) (hpl : (backTo pos (starEach [] X.env)).any (·.1) = false := by rfl) :
    DE X (.Call (.Name "len" p) [a] [] pos) (dLen ta) := by
  obtain ⟨te, p1, l1⟩ := ha
  refine ⟨_, pe_callB call_len_seq hg hm PySem.boot_len (pa_cons p1 pa_nil hs) (by decide) (by decide) hs hpl, fun ρ σ H Q r h R k => l1 ρ σ H _ r h _ fun d v H1 s1 i1 ⟨ds, e, q⟩ => ?_⟩
  obtain ⟨a, xs, rfl, h1, h2⟩ := seq_is i1 e
  exact ⟨a, xs, rfl, h1, by rw [← h2.length]; exact k _ _ H1 s1 (is_int.mpr rfl) q⟩
def cutD (xs : List Dt) (lo hi : Option Int) : List Dt := (xs.drop (HT.sIx xs.length 0 lo)).take (HT.sIx xs.length xs.length hi - HT.sIx xs.length 0 lo)
theorem AllIs.cut {G : Hp} {ds : List Dt} {xs : List V} (h : AllIs K G ds xs) (lo hi : Option Int) : AllIs K G (cutD ds lo hi) (cutV xs lo hi) := by
  unfold cutD cutV
  rw [← h.length]
  exact (h.drop _).take _
abbrev DTO := DS → (Option Int → Prop) → Prop
def DO (X : Cx) (e : Option Expr) (t : DTO) : Prop := ∃ te, PO X e te ∧ ∀ {F : Hp} (ρ : DS) (σ : St) (H : Vw) (Q : Option Int → Prop), Rl X.K (Zx X) F H ρ σ → t ρ Q → ∀ R : Option Int → Hp → Prop, (∀ o H', Le H H' → Q o → R o H'.h) → te σ H.h R
def dNoPart : DTO := fun _ Q => Q none
def dPart (t : DTE) : DTO := fun ρ Q => t ρ fun d => ∃ i, d = .int i ∧ Q (some i)
theorem do_none : DO X none dNoPart := ⟨_, po_none, fun ρ σ H Q r h R k => k none H (Le.refl H) h⟩
theorem do_some (ha : DE X a ta) : DO X (some a) (dPart ta) := by
  obtain ⟨te, p1, l1⟩ := ha
  refine ⟨_, po_some p1, fun ρ σ H Q r h R k => l1 ρ σ H _ r h _ fun d v H1 s1 i1 ⟨i, e, q⟩ => ?_⟩
  subst e
  exact ⟨i, is_int.mp i1, k _ H1 s1 q⟩
def listOf : Dt → Option (List Dt)
  | .lst ds => some ds
  | .scr ns => some (ns.map .int)
  | _ => none
theorem list_is {H : Vw} {d : Dt} {v : V} {ds : List Dt} (h : Is K H.g d v) (e : listOf d = some ds) : ∃ a xs, v = .ref a ∧ SqL K H.h a xs ∧ AllIs K H.g ds xs := by
  cases d with
  | lst es =>
    obtain rfl : es = ds := Option.some.inj e
    obtain ⟨a, xs, rfl, h1, h2⟩ := is_lst.mp h
    exact ⟨a, xs, rfl, .of (H.sub _ _ h1), h2⟩
  | scr ns =>
    obtain rfl : ns.map Dt.int = ds := Option.some.inj e
    obtain ⟨a, rfl, h1⟩ := is_scr.mp h
    exact ⟨a, _, rfl, H.sub.seq h1, AllIs.ints⟩
  | _ => cases e
def dSl (te : DTE) (tl th : DTO) : DTE := fun ρ Q => te ρ fun d => tl ρ fun l => th ρ fun u => ∃ ds, listOf d = some ds ∧ Q (.lst (cutD ds l u))
theorem de_slice {lo hi : Option Expr} {tl th : DTO} {p2 : Pos} (ha : DE X a ta) (hl : DO X lo tl) (hu : DO X hi th) : DE X (.Subscript a (.Slice lo hi none p2) pos) (dSl ta tl th) := by
  obtain ⟨te, p1, l1⟩ := ha
  obtain ⟨tf, p2, l2⟩ := hl
  obtain ⟨tg, p3, l3⟩ := hu
  refine ⟨_, pe_slice sl_list p1 p2 p3, fun ρ σ H Q r h R k => l1 ρ σ H _ r h _ fun d v H1 s1 i1 q1 => l2 ρ σ H1 _ (r.mono s1) q1 _ fun l H2 s2 q2 => l3 ρ σ H2 _ (r.mono (s1.trans s2)) q2 _ fun u H3 s3 ⟨ds, e, q⟩ => ?_⟩
  obtain ⟨a, xs, rfl, h1, h2⟩ := list_is (i1.mono (s2.trans s3)) e
  refine ⟨a, xs, rfl, h1, fun p hp => ?_⟩
  have s := le_new hp (.lst (cutV xs l u))
  exact k _ _ _ (((s1.trans s2).trans s3).trans s) (is_lst.mpr ⟨p, _, rfl, upd_same, (h2.cut l u).mono s⟩) q
end

def LiF (K : PySem.W.Frag) (Z : Hp) (te : TE) (t : DTE) : Prop :=
  ∀ {F : Hp} (ρ : DS) (σ : St) (H : Vw) (Q : Dt → Prop), Rl K Z F H ρ σ → t ρ Q → ∀ R : VK,
    (∀ es p xs H', Le H H' → H.h p = none → H'.h p = some (.lst xs) → H'.g p = none → AllIs K H'.g es xs → Q (.lst es) → R (.ref p) H'.h) → te σ H.h R
def DF (X : Cx) (e : Expr) (t : DTE) : Prop := ∃ te, PE X e te ∧ LiF X.K (Zx X) te t
theorem le_frz {H H' : Vw} {p : Addr} {o : HO} (s : Le H H') (h0 : H.h p = none) (h1 : H'.h p = some o) (h2 : H'.g p = none) : Le H (H'.frz p o h1) :=
  ⟨s.g.trans (same_new h2 o), s.h, fun a z1 z2 => by
    have : a ≠ p := fun e => z1 (e ▸ h0)
    show upd H'.g p o a = none
    rw [upd_ne this]; exact s.n a z1 z2⟩
section
variable {X : Cx} {a b c e : Expr} {ta tb tc : DTE} {t : DTA} {pos p0 p1 p2 : Pos} {es : List Expr}
theorem DF.de {t : DTE} (h : DF X e t) : DE X e t := by
  obtain ⟨te, p, l⟩ := h
  exact ⟨te, p, fun ρ σ H Q r h R k => l ρ σ H Q r h R fun es q xs H' s h0 h1 h2 i z => k (.lst es) (.ref q) (H'.frz q _ h1) (le_frz s h0 h1 h2) (is_lst.mpr ⟨q, xs, rfl, upd_same, AllIs.mono0 (same_new h2 _) i⟩) z⟩
theorem df_lst (h : DA X es t) : DF X (.List es pos) (dLst t) := by
  obtain ⟨te, p1, l1⟩ := h
  refine ⟨_, pe_lst p1, fun ρ σ H Q r h R k => l1 ρ σ H _ r h _ fun ds vs H1 s1 i1 ⟨hl, q1⟩ => ⟨?_, fun p hp => ?_⟩⟩
  · rw [← i1.length]; exact Nat.le_trans (Nat.le_of_ble_eq_true hl) (by decide)
  · exact k ds p vs (H1.mine p (.lst vs) (H1.sub.free hp)) (s1.trans (le_mine hp _)) (s1.h.free hp) upd_same (H1.sub.free hp) i1 q1
variable {i : Nat} {x : Str}
open Classical in
def scalD : Dt → Bool
  | .non => true | .bl _ => true | .int _ => true | .str _ => true | _ => false
end

abbrev DSp := List Dt → (Dt → Prop) → Prop
def PureSp (K : PySem.W.Frag) (S : DSp) : Sp := fun vs H Q _ => ∃ (W : Vw) (ds : List Dt) (Qd : Dt → Prop), W.h = H ∧ AllIs K W.g ds vs ∧ S ds Qd ∧ ∀ d v W', Le W W' → Is K W'.g d v → Qd d → Q v W'.h
def FreshSp (K : PySem.W.Frag) (S : DSp) : Sp := fun vs H Q _ => ∃ (W : Vw) (ds : List Dt) (Qd : Dt → Prop), W.h = H ∧ AllIs K W.g ds vs ∧ S ds Qd ∧
  ∀ es p xs W', Le W W' → W.h p = none → W'.h p = some (.lst xs) → W'.g p = none → AllIs K W'.g es xs → Qd (.lst es) → Q (.ref p) W'.h
structure DOk (P : Program) (w : World) (K : PySem.W.Frag) (mg : Str → Option Value) (base : Heap) (n : Nat) (x : Str) (S : DSp) : Prop where
  ex : ∃ f fd ps, mg x = some (.ref f) ∧ PySem.W.keepIn K (.ref f) = true ∧ Binds K fd ps [] ∧ FnOk P w K mg base CX0 n f fd ps (PureSp K S)
structure FOk (P : Program) (w : World) (K : PySem.W.Frag) (mg : Str → Option Value) (base : Heap) (n : Nat) (x : Str) (S : DSp) : Prop where
  ex : ∃ f fd ps, mg x = some (.ref f) ∧ PySem.W.keepIn K (.ref f) = true ∧ Binds K fd ps [] ∧ FnOk P w K mg base CX0 n f fd ps (FreshSp K S)
structure MOk (P : Program) (w : World) (K : PySem.W.Frag) (mg : Str → Option Value) (base : Heap) (n : Nat) (C : Addr) (m : Str) (S : DSp) : Prop where
  cl : Cls K C
  ex : ∃ f fd ps, Meth K C m f ∧ Binds K fd ps [] ∧ FnOk P w K mg base CX0 n f fd ps (PureSp K S)
structure FMOk (P : Program) (w : World) (K : PySem.W.Frag) (mg : Str → Option Value) (base : Heap) (n : Nat) (C : Addr) (m : Str) (S : DSp) : Prop where
  cl : Cls K C
  ex : ∃ f fd ps, Meth K C m f ∧ Binds K fd ps [] ∧ FnOk P w K mg base CX0 n f fd ps (FreshSp K S)
section
variable {X : Cx} {a b c e o : Expr} {ta tb tc : DTE} {pos p apos : Pos} {es : List Expr} {t : DTA} {n : Nat} {x m : Str} {S : DSp}
def dCall (S : DSp) (t : DTA) : DTE := fun ρ Q => t ρ fun ds => S ds Q
theorem de_call (G : DOk X.prog X.w X.K X.mg X.base n x S) (hr : Room n X.A) (hg : Gl X x) (ha : DA X (e :: es) t) (hdb : (x == ("__debug__" : Str)) = false := by decide)
    (he : starEach (e :: es) X.env = (false, eval e X.env) :: starEach es X.env := by rfl) (hpl : (backTo pos (starEach es X.env)).any (·.1) = false := by rfl) : DE X (.Call (.Name x p) (e :: es) [] pos) (dCall S t) := by
  obtain ⟨f, fd, ps, hm, hk, hb, F⟩ := G.ex
  obtain ⟨te, p1, l1⟩ := ha
  refine ⟨_, pe_call F hr hg hm hk hb .nil pass0 p1 hdb he hpl, fun ρ σ H Q r h R k => l1 ρ σ H _ r h _ fun ds vs H1 s1 i1 q1 => ?_⟩
  rw [List.append_nil]
  exact ⟨H1, ds, Q, rfl, i1, q1, fun d v H2 s2 i2 q2 => k d v H2 (s1.trans s2) i2 q2⟩
structure KitT (K : PySem.W.Frag) : Prop where
  ib : PySem.W.kitOne K (.type "int") (.type "bool") = some false
  it : PySem.W.kitOne K (.type "int") (.type "tuple") = some false
  il : PySem.W.kitOne K (.type "int") (.type "list") = some false
  bi : PySem.W.kitOne K (.type "bool") (.type "int") = some true
  bt : PySem.W.kitOne K (.type "bool") (.type "tuple") = some false
  bl : PySem.W.kitOne K (.type "bool") (.type "list") = some false
  ti : PySem.W.kitOne K (.type "tuple") (.type "int") = some false
  tb : PySem.W.kitOne K (.type "tuple") (.type "bool") = some false
  tl : PySem.W.kitOne K (.type "tuple") (.type "list") = some false
  li : PySem.W.kitOne K (.type "list") (.type "int") = some false
  lb : PySem.W.kitOne K (.type "list") (.type "bool") = some false
  lt : PySem.W.kitOne K (.type "list") (.type "tuple") = some false
theorem kit_same {K : PySem.W.Frag} {t : Value} : PySem.W.kitOne K t t = some true := by
  unfold PySem.W.kitOne
  rw [if_pos (beq_self_eq_true t)]
theorem kit_bb {K : PySem.W.Frag} {t c : String} {b : Bool} (h1 : (Value.type t == Value.type c) = false) (h2 : PySem.W.kitMeta c = true) (h3 : (fastBuiltinMro t).map (·.contains (Value.type c)) = some b) : PySem.W.kitOne K (.type t) (.type c) = some b := by
  unfold PySem.W.kitOne PySem.W.kitCls
  rw [if_neg (by rw [h1]; decide)]
  show (if PySem.W.kitMeta c = true then PySem.W.subIn K (.type t) (.type c) else none) = some b
  rw [if_pos h2]
  exact h3
theorem kitT (K : PySem.W.Frag) : KitT K := by
  constructor <;> exact kit_bb (by decide +kernel) (by decide +kernel) (by decide +kernel)
inductive TyN where | int | bool | tuple | list
def TyN.str : TyN → String
  | .int => "int" | .bool => "bool" | .tuple => "tuple" | .list => "list"
def isiD : Dt → TyN → Option Bool
  | .int _, .int => some true | .int _, .bool => some false | .int _, .tuple => some false | .int _, .list => some false
  | .bl _, .int => some true | .bl _, .bool => some true | .bl _, .tuple => some false | .bl _, .list => some false
  | .tup _, .int => some false | .tup _, .bool => some false | .tup _, .tuple => some true | .tup _, .list => some false
  | .lst _, .int => some false | .lst _, .bool => some false | .lst _, .tuple => some false | .lst _, .list => some true
  | _, _ => none
theorem isi_ty {H : Vw} {d : Dt} {v : V} {T : TyN} {b : Bool} (kt : KitT K) (h : Is K H.g d v) (e : isiD d T = some b) : ∃ tv, TyOf K H.h v tv ∧ PySem.W.kitOne K tv (.type T.str) = some b := by
  cases d with
  | int i =>
    obtain rfl := is_int.mp h
    refine ⟨_, .int i, ?_⟩
    cases T <;> (obtain rfl := Option.some.inj e; first | exact kit_same | exact kt.ib | exact kt.it | exact kt.il)
  | bl i =>
    obtain rfl := is_bl.mp h
    refine ⟨_, .bl i, ?_⟩
    cases T <;> (obtain rfl := Option.some.inj e; first | exact kit_same | exact kt.bi | exact kt.bt | exact kt.bl)
  | tup ds =>
    obtain ⟨a, xs, rfl, h1, _⟩ := is_tup.mp h
    refine ⟨_, .tup (H.sub _ _ h1), ?_⟩
    cases T <;> (obtain rfl := Option.some.inj e; first | exact kit_same | exact kt.ti | exact kt.tb | exact kt.tl)
  | lst ds =>
    obtain ⟨a, xs, rfl, h1, _⟩ := is_lst.mp h
    refine ⟨_, .lst (H.sub _ _ h1), ?_⟩
    cases T <;> (obtain rfl := Option.some.inj e; first | exact kit_same | exact kt.li | exact kt.lb | exact kt.lt)
  | _ => cases T <;> cases e
theorem call_isi : CallR X (.builtin "isinstance") (fun xs H Q => ∃ v T tv b, xs = [v, .ty T] ∧ TyOf X.K H v tv ∧ PySem.W.kitOne X.K tv (.type T) = some b ∧ Q (.bl b) H) := by
  intro pins s σ H xs us Q I r h
  obtain ⟨v, T, tv, b, rfl, hty, hk, q⟩ := h
  cases r with
  | cons r1 r2 =>
    cases r2 with
    | cons r3 r4 =>
      cases r4
      cases r3
      exact isinst_ok I r1 hty hk fun tk => ⟨.bl b, H, I.tok _, rfl, q⟩
def dIsi (T : TyN) (ta : DTE) : DTE := fun ρ Q => ta ρ fun d => ∃ b, isiD d T = some b ∧ Q (.bl b)
theorem de_isi {T : TyN} {y : Str} {p' : Pos} (kt : KitT X.K) (hm : X.mg "isinstance" = none) (hmc : X.mg y = none) (hv : bootBuiltins y = some (.type T.str)) (ha : DE X a ta)
    (hg : Gl X "isinstance" := by rfl) (hgc : Gl X y := by rfl) (hny : y ≠ "__name__" := by decide) (hdy : (y == ("__debug__" : Str)) = false := by decide)
    (hs : starEach [a, .Name y p'] X.env = (false, eval a X.env) :: starEach [.Name y p'] X.env := by rfl) (hs2 : starEach [.Name y p'] X.env = (false, eval (.Name y p') X.env) :: starEach [] X.env := by rfl)
    (hpl : (backTo pos (starEach [.Name y p'] X.env)).any (·.1) = false := by rfl) :
    DE X (.Call (.Name "isinstance" p) [a, .Name y p'] [] pos) (dIsi T ta) := by
  obtain ⟨te, p1, l1⟩ := ha
  have pc : PE X (.Name y p') (tC (.ty T.str)) := pe_bltn hgc hmc hv rfl hny hdy
  refine ⟨_, pe_callB call_isi hg hm boot_isinstance (pa_cons p1 (pa_cons pc pa_nil hs2) hs) (by decide) (by decide) hs hpl, fun ρ σ H Q r h R k => l1 ρ σ H _ r h _ fun d v H1 s1 i1 ⟨b, e, q⟩ => ?_⟩
  obtain ⟨tv, h1, h2⟩ := isi_ty kt i1 e
  exact ⟨v, T.str, tv, b, rfl, h1, h2, k _ _ H1 s1 (is_bl.mpr rfl) q⟩
end

structure DEnds where
  nx : DS → Prop
  rt : Dt → Prop
  bk : DS → Prop := fun _ => False
  ct : DS → Prop := fun _ => False
abbrev DTS := DEnds → DS → Prop
structure At (K : PySem.W.Frag) (Z : Hp) (W0 : Vw) (G : Hp) (W : Vw) (ρ : DS) (σ : St) : Prop where
  le : Le W0 W
  gs : Same G W.g
  rl : Rl K Z W0.h W ρ σ
inductive Fr where | d | l | t (a b : Bool)
def NewL (K : PySem.W.Frag) (F : Hp) (W : Vw) (d : Dt) (v : V) : Prop := ∃ es p xs, d = .lst es ∧ v = .ref p ∧ F p = none ∧ W.h p = some (.lst xs) ∧ W.g p = none ∧ AllIs K W.g es xs
def Prt (K : PySem.W.Frag) (F : Hp) (W : Vw) (b : Bool) (d : Dt) (v : V) : Prop := match b with
  | false => Is K W.g d v
  | true => NewL K F W d v ∨ scalD d = true ∧ Is K W.g d v
def Tld (K : PySem.W.Frag) (F : Hp) (W : Vw) : Fr → Dt → V → Prop
  | .d, d, v => Is K W.g d v
  | .l, d, v => NewL K F W d v
  | .t a b, d, v => ∃ d1 d2 q u1 u2, d = .tup [d1, d2] ∧ v = .ref q ∧ W.g q = some (.tup [u1, u2]) ∧ Prt K F W a d1 u1 ∧ Prt K F W b d2 u2 ∧ (∀ es fs, a = true → b = true → d1 = .lst es → d2 = .lst fs → u1 ≠ u2)
structure Sim (K : PySem.W.Frag) (Z : Hp) (fr : Fr) (W0 : Vw) (G : Hp) (D : DEnds) (D' : Ends) : Prop where
  nx : ∀ ρ σ W', At K Z W0 G W' ρ σ → D.nx ρ → D'.nx σ W'.h
  tl : ∀ d v W', Le W0 W' → Tld K W0.h W' fr d v → D.rt d → D'.rt v W'.h
  bk : ∀ ρ σ W', At K Z W0 G W' ρ σ → D.bk ρ → D'.bk σ W'.h
  ct : ∀ ρ σ W', At K Z W0 G W' ρ σ → D.ct ρ → D'.ct σ W'.h
theorem NewL.le {F G : Hp} {W : Vw} {d : Dt} {v : V} (h : NewL K F W d v) (z : ∀ p, F p = none → G p = none) : NewL K G W d v :=
  let ⟨es, p, xs, h1, h2, h3, h4⟩ := h; ⟨es, p, xs, h1, h2, z p h3, h4⟩
section
variable {W0 : Vw} {G G' : Hp} {ρ : DS} {σ : St} {fr : Fr}
theorem At.step (a : At K Z W0 G W ρ σ) (s : Le W W') : At K Z W0 G W' ρ σ := ⟨a.le.trans s, a.gs.trans s.g, a.rl.mono s⟩
theorem At.set (a : At K Z W0 G W ρ σ) {d : Dt} {v : V} (i : Nat) (h : Is K W.g d v) : At K Z W0 G W (ρ.set i (.some d)) (σ.set i (some v)) := ⟨a.le, a.gs, a.rl.set i h⟩
theorem At.weak (a : At K Z W0 G W ρ σ) (s : Same G' G) : At K Z W0 G' W ρ σ := ⟨a.le, s.trans a.gs, a.rl⟩
theorem At.own (a : At K Z W0 G W ρ σ) (s : Le W W') {p : Addr} {xs : List V} {ds : List Dt} (i : Nat) (h0 : W.h p = none) (h1 : W'.h p = some (.lst xs)) (h2 : W'.g p = none) (h3 : AllIs K W'.g ds xs) :
    At K Z W0 G W' (ρ.set i (.own ds)) (σ.set i (some (.ref p))) := ⟨a.le.trans s, a.gs.trans s.g, a.rl.own s i h0 h1 h2 h3⟩
theorem At.put (at_ : At K Z W0 G W ρ σ) {i : Nat} {ds es : List Dt} {a : Addr} {ys : List V} (hi : ρ[i]? = some (.own ds)) (ha : σ[i]? = some (some (.ref a))) (hg : W.g a = none) (hF : W0.h a = none) (h3 : AllIs K W.g es ys) :
    At K Z W0 G (W.mine a (.lst ys) hg) (ρ.set i (.own es)) σ :=
  ⟨⟨at_.le.g, fun b o q => by
      have : b ≠ a := fun e => by rw [e, hF] at q; cases q
      show upd W.h a _ b = some o
      rw [upd_ne this]; exact at_.le.h _ _ q, at_.le.n⟩, at_.gs, at_.rl.put hi ha hg hF h3⟩
theorem At.frz (at_ : At K Z W0 G W ρ σ) {i : Nat} {ds : List Dt} {a : Addr} {xs : List V} (hi : ρ[i]? = some (.own ds)) (ha : σ[i]? = some (some (.ref a))) (hh : W.h a = some (.lst xs)) (hg : W.g a = none) (hF : W0.h a = none) (h3 : AllIs K W.g ds xs) :
    At K Z W0 G (W.frz a _ hh) (ρ.set i (.some (.lst ds))) σ :=
  ⟨le_frz at_.le hF hh hg, at_.gs.trans (same_new hg _), at_.rl.frz hi ha hh hg h3⟩
theorem Sim.weak {D : DEnds} {D' : Ends} (h : Sim K Z fr W0 G' D D') (s : Same G' G) : Sim K Z fr W0 G D D' :=
  ⟨fun ρ σ W' a => h.nx ρ σ W' (a.weak s), h.tl, fun ρ σ W' a => h.bk ρ σ W' (a.weak s), fun ρ σ W' a => h.ct ρ σ W' (a.weak s)⟩
end
def LiS (K : PySem.W.Frag) (Z : Hp) (fr : Fr) (ts : TS) (t : DTS) : Prop := ∀ (W0 : Vw) (G : Hp) (ρ : DS) (σ : St) (W : Vw) (D : DEnds) (D' : Ends), At K Z W0 G W ρ σ → Sim K Z fr W0 G D D' → t D ρ → ts D' σ W.h
def DSt (X : Cx) (fr : Fr) (st : Stmt) (t : DTS) : Prop := ∃ ts, PS X st ts ∧ LiS X.K (Zx X) fr ts t
def DSs (X : Cx) (fr : Fr) (sts : List Stmt) (t : DTS) : Prop := ∃ ts, PSs X sts ts ∧ LiS X.K (Zx X) fr ts t
def dNext : DTS := fun D ρ => D.nx ρ
def dSeq (t u : DTS) : DTS := fun D ρ => t { D with nx := u D } ρ
def dRet (te : DTE) : DTS := fun D ρ => te ρ D.rt
def dSet (i : Nat) (te : DTE) : DTS := fun D ρ => te ρ fun d => D.nx (ρ.set i (.some d))
def dSetO (i : Nat) (te : DTE) : DTS := fun D ρ => te ρ fun d => ∃ ds, d = .lst ds ∧ D.nx (ρ.set i (.own ds))
def dIfS (c : DTT) (t u : DTS) : DTS := fun D ρ => c ρ fun b => if b = true then t D ρ else u D ρ
def dNever : DTS := fun _ _ => False
def dForL (j : Nat) (te : DTE) (tb : DTS) : DTS := fun D ρ => te ρ fun d => ∃ (ds : List Dt) (Pv : Nat → DS → Prop), listOf d = some ds ∧ Pv 0 ρ ∧
  (∀ i e ρ', ds[i]? = some e → Pv i ρ' → tb { D with nx := Pv (i + 1), ct := Pv (i + 1), bk := D.nx } (ρ'.set j (.some e))) ∧ ∀ ρ', Pv ds.length ρ' → D.nx ρ'
def dWhile (c : DTT) (tb : DTS) : DTS := fun D ρ => ∃ Pv : Nat → DS → Prop, (∃ m, Pv m ρ) ∧ ∀ m ρ', Pv m ρ' →
  c ρ' fun b => if b = true then tb { D with nx := fun ρ2 => ∃ m', m' < m ∧ Pv m' ρ2, ct := fun ρ2 => ∃ m', m' < m ∧ Pv m' ρ2, bk := D.nx } ρ' else D.nx ρ'
section
variable {X : Cx} {fr : Fr} {st : Stmt} {rest : List Stmt} {t u : DTS} {e : Expr} {te : DTE} {pos p0 p1 p2 : Pos}
theorem dss_nil : DSs X fr [] dNext := ⟨_, pss_nil, fun W0 G ρ σ W D D' a s h => s.nx ρ σ W a h⟩
theorem dss_cons (h1 : DSt X fr st t) (h2 : DSs X fr rest u) : DSs X fr (st :: rest) (dSeq t u) := by
  obtain ⟨ts, p1, l1⟩ := h1
  obtain ⟨us, p2, l2⟩ := h2
  exact ⟨_, pss_cons p1 p2, fun W0 G ρ σ W D D' a s h => l1 W0 G ρ σ W { D with nx := u D } { D' with nx := us D' } a ⟨fun ρ' σ' W' a' q => l2 W0 G ρ' σ' W' D D' a' s q, s.tl, s.bk, s.ct⟩ h⟩
theorem dss_one (h : DSt X fr st t) : DSs X fr [st] t := let ⟨_, p, l⟩ := h; ⟨_, pss_one p, l⟩
def dFrz (i : Nat) (t : DTS) : DTS := fun D ρ => ∃ ds, ρ[i]? = some (.own ds) ∧ t D (ρ.set i (.some (.lst ds)))
theorem dss_frz (i : Nat) (h : DSs X fr rest t) : DSs X fr rest (dFrz i t) := by
  obtain ⟨ts, p, l⟩ := h
  refine ⟨ts, p, fun W0 G ρ σ W D D' a s h => ?_⟩
  obtain ⟨ds, e, q⟩ := h
  obtain ⟨b, xs, e1, e2, e3, e4, e5⟩ := a.rl.ow i ds e
  exact l W0 G _ σ (W.frz b _ e2) D D' (a.frz e e1 e2 e3 e4 e5) s q
theorem ds_ret (h : DE X e te) : DSt X .d (.Return (some e) pos) (dRet te) := by
  obtain ⟨tt, p, l⟩ := h
  exact ⟨_, ps_ret p, fun W0 G ρ σ W D D' a s h => l ρ σ W _ a.rl h _ fun d v W1 s1 i1 q1 => s.tl d v W1 (a.le.trans s1) i1 q1⟩
theorem ds_set {i : Nat} {x : Str} {pos' : Pos} (hN : X.N.Nodup) (hi : X.N[i]? = some x) (hx : Loc X.env.scope x) (h : DE X e te) (hs : swapsWith e (some (.Name x pos')) pos.line X.env = pure false := by rfl) (hf : X.fn x = true ∨ X.env.scope.names.lookup x = some .local := by first | exact .inl rfl | exact .inr rfl | assumption) :
    DSt X fr (.Assign [.Name x pos'] e pos) (dSet i te) := by
  obtain ⟨tt, p, l⟩ := h
  exact ⟨_, ps_set hN hi hx p hs hf, fun W0 G ρ σ W D D' a s h => l ρ σ W _ a.rl h _ fun d v W1 s1 i1 q1 => s.nx _ _ W1 ((a.step s1).set i i1) q1⟩
theorem ds_setO {i : Nat} {x : Str} {pos' : Pos} (hN : X.N.Nodup) (hi : X.N[i]? = some x) (hx : Loc X.env.scope x) (h : DF X e te) (hs : swapsWith e (some (.Name x pos')) pos.line X.env = pure false := by rfl) (hf : X.fn x = true ∨ X.env.scope.names.lookup x = some .local := by first | exact .inl rfl | exact .inr rfl | assumption) :
    DSt X fr (.Assign [.Name x pos'] e pos) (dSetO i te) := by
  obtain ⟨tt, p, l⟩ := h
  refine ⟨_, ps_set hN hi hx p hs hf, fun W0 G ρ σ W D D' a s h => l ρ σ W _ a.rl h _ fun es q xs W1 s1 h0 h1 h2 i1 ⟨ds, ed, q1⟩ => ?_⟩
  cases ed
  exact s.nx _ _ W1 (a.own s1 i h0 h1 h2 i1) q1
theorem ds_if {c : Expr} {a b : List Stmt} {tc : DTT} (hc : DT X c tc) (ha : DSs X fr a t) (hb : DSs X fr b u) : DSt X fr (.If c a b pos) (dIfS tc t u) := by
  obtain ⟨t0, p0, l0⟩ := hc
  obtain ⟨t1, p1, l1⟩ := ha
  obtain ⟨t2, p2, l2⟩ := hb
  refine ⟨_, ps_if p0 p1 p2, fun W0 G ρ σ W D D' a s h => l0 ρ σ W _ a.rl h _ fun k W1 s1 q1 => ?_⟩
  cases k with
  | true => exact l1 W0 G ρ σ W1 D D' (a.step s1) s q1
  | false => exact l2 W0 G ρ σ W1 D D' (a.step s1) s q1
theorem ds_never : DSt X fr st dNever := ⟨_, ps_never, fun _ _ _ _ _ _ _ _ _ h => h.elim⟩
def InL (K : PySem.W.Frag) (Z : Hp) (W0 W1 : Vw) (Pv : DS → Prop) (σ : St) (H : Hp) : Prop := ∃ (ρ : DS) (W : Vw), W.h = H ∧ At K Z W0 W1.g W ρ σ ∧ Pv ρ
theorem sim_loop {K : PySem.W.Frag} {W0 W1 : Vw} {G : Hp} {D : DEnds} {D' : Ends} {Pv : DS → Prop} (s : Sim K Z fr W0 G D D') (hg : Same G W1.g) :
    Sim K Z fr W0 W1.g { D with nx := Pv, ct := Pv, bk := D.nx } { D' with nx := InL K Z W0 W1 Pv, ct := InL K Z W0 W1 Pv, bk := D'.nx } :=
  ⟨fun ρ3 σ3 W3 a3 q3 => ⟨ρ3, W3, rfl, a3, q3⟩, s.tl, fun ρ3 σ3 W3 a3 q3 => s.nx ρ3 σ3 W3 (a3.weak hg) q3, fun ρ3 σ3 W3 a3 q3 => ⟨ρ3, W3, rfl, a3, q3⟩⟩
theorem At.now {K : PySem.W.Frag} {W0 : Vw} {G : Hp} {W : Vw} {ρ : DS} {σ : St} (a : At K Z W0 G W ρ σ) : At K Z W0 W.g W ρ σ := ⟨a.le, Same.refl _, a.rl⟩
theorem ds_for {j : Nat} {x : Str} {iter : Expr} {body : List Stmt} {tb : DTS} {px : Pos} (hc : X.calm = true) (hN : X.N.Nodup) (hi : X.N[j]? = some x) (hx : Loc X.env.scope x) (hp : PassesOwn (model X.prog X.w) X.A X.env X.xe)
    (h : DE X iter te) (hb : DSs X fr body tb) (hs : ∀ x, foldedSetIterable iter X.env x = pure x := by intro _; rfl)
    (hf : X.fn x = true ∨ X.env.scope.names.lookup x = some .local := by first | exact .inl rfl | exact .inr rfl | assumption) : DSt X fr (.For (.Name x px) iter body [] pos) (dForL j te tb) := by
  obtain ⟨tt, p, l⟩ := h
  obtain ⟨tbs, p2, l2⟩ := hb
  refine ⟨_, ps_for hp hc (pi_list p) (pg_name hN hi hx hf) p2 hs, fun W0 G ρ σ W D D' at_ s h => l ρ σ W _ at_.rl h _ fun d v W1 s1 i1 ⟨ds, Pv, el, h0, ht, hd⟩ => ?_⟩
  have hg : Same G W1.g := at_.gs.trans s1.g
  have hq : ∃ a xs, v = .ref a ∧ (∀ W2 : Vw, Same W1.g W2.g → SqL X.K W2.h a xs) ∧ AllIs X.K W1.g ds xs := by
    cases d with
    | lst es =>
      obtain rfl : es = ds := Option.some.inj el
      obtain ⟨a, xs, rfl, h1, h2⟩ := is_lst.mp i1
      exact ⟨a, xs, rfl, fun W2 s2 => .of (W2.sub _ _ (s2 _ _ h1)), h2⟩
    | scr ns =>
      obtain rfl : ns.map Dt.int = ds := Option.some.inj el
      obtain ⟨a, rfl, h1⟩ := is_scr.mp i1
      exact ⟨a, _, rfl, fun W2 s2 => W2.sub.seq (s2.seq h1), AllIs.ints⟩
    | _ => cases el
  obtain ⟨a, xs, rfl, hq, ha⟩ := hq
  refine ⟨a, rfl, ⟨xs, hq W1 (Same.refl _)⟩, for_list (K := X.K) (a := a) (xs := xs) (fun i => InL X.K (Zx X) W0 W1 (Pv i)) ⟨ρ, W1, rfl, (at_.step s1).now, h0⟩ (fun i σ' H' _ ⟨_, W2, e2, a2, _⟩ => e2 ▸ hq W2 a2.gs) ?_ ?_⟩
  · rintro i x σ' _ hi ⟨ρ', W2, rfl, a2, hp2⟩
    obtain ⟨e, he, ie⟩ := ha.get' hi
    exact l2 W0 W1.g _ _ W2 { D with nx := Pv (i + 1), ct := Pv (i + 1), bk := D.nx } _ (a2.set j (Is.mono0 a2.gs ie)) (sim_loop s hg) (ht i e ρ' he hp2)
  · rintro σ' _ ⟨ρ', W2, rfl, a2, hp2⟩
    exact s.nx ρ' σ' W2 (a2.weak hg) (hd ρ' (by rw [ha.length]; exact hp2))
theorem ds_while {c : Expr} {body : List Stmt} {tc : DTT} {tb : DTS} (hp : PassesOwn (model X.prog X.w) X.A X.env X.xe) (hc : DT X c tc) (hb : DSs X fr body tb) : DSt X fr (.While c body [] pos) (dWhile tc tb) := by
  obtain ⟨t0, p0, l0⟩ := hc
  obtain ⟨tbs, p2, l2⟩ := hb
  refine ⟨_, ps_while hp p0 p2, fun W0 G ρ σ W D D' at_ s h => ?_⟩
  obtain ⟨Pv, ⟨m0, h0⟩, ht⟩ := h
  refine ⟨fun m => InL X.K (Zx X) W0 W (Pv m), ⟨m0, ρ, W, rfl, at_.now, h0⟩, ?_⟩
  rintro m σ' _ ⟨ρ', W2, rfl, a2, hp2⟩
  refine l0 ρ' σ' W2 _ a2.rl (ht m ρ' hp2) _ fun b W3 s3 q3 => ?_
  have a3 := a2.step s3
  cases b with
  | true =>
    refine ⟨InL X.K (Zx X) W0 W (fun ρ2 => ∃ m', m' < m ∧ Pv m' ρ2), fun σ4 H4 ⟨ρ4, W4, e4, a4, m', hm, p4⟩ => ⟨m', hm, ρ4, W4, e4, a4, p4⟩, ?_⟩
    exact l2 W0 W.g _ _ W3 { D with nx := fun ρ2 => ∃ m', m' < m ∧ Pv m' ρ2, ct := fun ρ2 => ∃ m', m' < m ∧ Pv m' ρ2, bk := D.nx } _ a3 (sim_loop s at_.gs) q3
  | false => exact s.nx ρ' σ' W3 (a3.weak at_.gs) q3

variable {i : Nat} {x : Str}
def dApp (i : Nat) (te : DTE) : DTS := fun D ρ => ∃ ds, ρ[i]? = some (.own ds) ∧ te ρ fun d => ds.length ≤ 100000 ∧ D.nx (ρ.set i (.own (ds ++ [d])))
theorem ds_app (i : Nat) (h : DE X e te) (hN : X.N[i]? = some x := by rfl) (hv : Vis X.env.scope x := by first | exact Or.inl rfl | exact Or.inr (Or.inl rfl) | exact Or.inr (Or.inr rfl)) (hd : (x == ("__debug__" : Str)) = false := by decide)
    (hcd : (x == ("__classdict__" : Str)) = false := by decide) (hst : starEach [e] X.env = (false, eval e X.env) :: starEach [] X.env := by rfl) (hpl : (backTo p2 (starEach [] X.env)).any (·.1) = false := by rfl)
    (hfew : ((backTo p2 (starEach [e] X.env)).all (fun x => !x.1) && (backToKw p2 (keywordEach [] X.env)).all (fun x => x.1.isSome)
      && decide ([e].length + ([] : List Keyword).length + (if ([] : List Keyword).isEmpty then 0 else 1) < 30)) = true := by rfl)
    (hbase : attributeBase (.Name x p0) "append" X.env (eval (.Name x p0) X.env) = eval (.Name x p0) X.env := by rfl) (hline : (p1.endLine == p2.line) = true := by rfl)
    (hs : swapsWith (.Call (.Attribute (.Name x p0) "append" p1) [e] [] p2) none pos.line X.env = pure false := by rfl) :
    DSt X fr (.Expr (.Call (.Attribute (.Name x p0) "append" p1) [e] [] p2) pos) (dApp i te) := by
  obtain ⟨tt, p, l⟩ := h
  refine ⟨_, ps_expr (pe_bm PySem.F.plainAttrs_list PySem.F.slot_list_append PySem.F.type_list_append mt_append (pe_var hN hv hd hcd) (pa_cons p pa_nil hst) hbase hfew hline hst hpl) hs, fun W0 G ρ σ W D D' at_ s h => ?_⟩
  obtain ⟨ds, ei, h⟩ := h
  obtain ⟨b, xs, e1, e2, e3, e4, e5⟩ := at_.rl.ow i ds ei
  refine ⟨.ref b, e1, .inl ⟨rfl, xs, .of e2⟩, l ρ σ W _ at_.rl h _ fun d v W1 s1 i1 ⟨hl, q1⟩ => ?_⟩
  have a1 := at_.step s1
  have hg1 : W1.g b = none := s1.n b (by rw [e2]; intro z; cases z) e3
  refine ⟨b, xs, v, rfl, rfl, s1.h _ _ e2, by rw [← e5.length]; exact Nat.lt_of_le_of_lt hl (by decide), ?_⟩
  exact s.nx _ _ _ (a1.put ei e1 hg1 e4 ((e5.mono s1).append (allIs_cons.mpr ⟨v, [], rfl, i1, allIs_nil.mpr rfl⟩))) q1
theorem AllIs.dropLast {G : Hp} {ds : List Dt} {xs : List V} (h : AllIs K G ds xs) : AllIs K G ds.dropLast xs.dropLast := by
  rw [List.dropLast_eq_take, List.dropLast_eq_take, h.length]
  exact h.take _
theorem AllIs.reverse {G : Hp} : ∀ {ds : List Dt} {xs : List V}, AllIs K G ds xs → AllIs K G ds.reverse xs.reverse
  | [], _, h => by rw [allIs_nil.mp h]; exact allIs_nil.mpr rfl
  | d :: ds, _, h => by
    obtain ⟨x, r, rfl, h1, h2⟩ := allIs_cons.mp h
    rw [List.reverse_cons, List.reverse_cons]
    exact (AllIs.reverse h2).append (allIs_cons.mpr ⟨x, [], rfl, h1, allIs_nil.mpr rfl⟩)
theorem AllIs.set {G : Hp} : ∀ {ds : List Dt} {xs : List V} {d : Dt} {v : V} (j : Nat), AllIs K G ds xs → Is K G d v → AllIs K G (ds.set j d) (xs.set j v)
  | [], _, _, _, _, h, _ => by rw [allIs_nil.mp h]; exact allIs_nil.mpr rfl
  | d :: ds, _, _, _, 0, h, i => by
    obtain ⟨x, r, rfl, h1, h2⟩ := allIs_cons.mp h
    exact allIs_cons.mpr ⟨_, _, rfl, i, h2⟩
  | d :: ds, _, _, _, j + 1, h, i => by
    obtain ⟨x, r, rfl, h1, h2⟩ := allIs_cons.mp h
    exact allIs_cons.mpr ⟨_, _, rfl, h1, AllIs.set j h2 i⟩
def dRev (i : Nat) : DTS := fun D ρ => ∃ ds, ρ[i]? = some (.own ds) ∧ D.nx (ρ.set i (.own ds.reverse))
theorem ds_rev (i : Nat) (hN : X.N[i]? = some x := by rfl) (hv : Vis X.env.scope x := by first | exact Or.inl rfl | exact Or.inr (Or.inl rfl) | exact Or.inr (Or.inr rfl)) (hd : (x == ("__debug__" : Str)) = false := by decide)
    (hcd : (x == ("__classdict__" : Str)) = false := by decide)
    (hbase : attributeBase (.Name x p0) "reverse" X.env (eval (.Name x p0) X.env) = eval (.Name x p0) X.env := by rfl) (hline : (p1.endLine == p2.line) = true := by rfl)
    (hs : swapsWith (.Call (.Attribute (.Name x p0) "reverse" p1) [] [] p2) none pos.line X.env = pure false := by rfl) :
    DSt X fr (.Expr (.Call (.Attribute (.Name x p0) "reverse" p1) [] [] p2) pos) (dRev i) := by
  refine ⟨_, ps_expr (pe_bm0 PySem.F.plainAttrs_list PySem.F.slot_list_reverse PySem.F.type_list_reverse mt_reverse (pe_var hN hv hd hcd) hbase hline) hs, fun W0 G ρ σ W D D' at_ s h => ?_⟩
  obtain ⟨ds, ei, q1⟩ := h
  obtain ⟨b, xs, e1, e2, e3, e4, e5⟩ := at_.rl.ow i ds ei
  exact ⟨.ref b, e1, .inl ⟨rfl, xs, .of e2⟩, b, xs, rfl, rfl, e2, s.nx _ _ _ (at_.put ei e1 e3 e4 e5.reverse) q1⟩
end

section
variable {P : Program} {w : World} {K : PySem.W.Frag} {mg : Str → Option Value} {base : Heap}
theorem at_start {W : Vw} {N : List Str} {ds : List Dt} {vs : List V} (ia : AllIs K W.g ds vs) (hz : Z = W.h) : At K Z W W.g W (dstart N.length ds) (start N vs) := ⟨Le.refl W, Same.refl _, Rl.start ia (hz ▸ Same.refl _)⟩
theorem okD {x qual : Str} {st : Stmt} {f : Addr} {fd : FuncData} {N ps : List Str} {k : Nat} {S : DSp} (F : Fun K x qual st f fd) (sc : FnScope N ps (defScope st)) (len : ∀ ds Q, S ds Q → ds.length = ps.length)
    (hbody : ∀ (cdv : Value) (A : Around) (outer : List Env) (s : Shared) (H : Hp) (E : XK), Room k (A.deeper (envOfC qual (defScope st) s.heap.objs.size f cdv)) → ∀ (ds : List Dt) (Q : Dt → Prop), S ds Q →
      ∃ t, DSs (cxOf CX0 P w K mg base N qual (defScope st) f cdv A outer s H E).nox .d (defBody st) t ∧ t { nx := fun _ => Q .non, rt := Q } (dstart N.length ds)) : FnOk P w K mg base CX0 (k + 1) f fd ps (PureSp K S) := by
  refine F.ok sc (fun vs H Q E h => ?_) (fun cdv A outer s H vs Q E hr h => ?_)
  · obtain ⟨W, ds, Qd, _, ia, hS, _⟩ := h
    rw [← ia.length]
    exact len ds Qd hS
  obtain ⟨W, ds, Qd, rfl, ia, hS, kk⟩ := h
  obtain ⟨t, ⟨ts, p, l⟩, ht⟩ := hbody cdv A outer s W.h E hr ds Qd hS
  refine ⟨ts, p, l W W.g (dstart N.length ds) (start N vs) W { nx := fun _ => Qd .non, rt := Qd } _ (at_start ia (zx_stk (Nat.succ_ne_self _))) ⟨fun ρ σ W' a q => kk .non .non W' a.le (is_non.mpr rfl) q, fun d v W' s' i' q => kk d v W' s' i' q, fun _ _ _ _ q => q.elim, fun _ _ _ _ q => q.elim⟩ ht⟩
theorem DOk.mk' {x qual : Str} {st : Stmt} {f : Addr} {fd : FuncData} {ps : List Str} {n : Nat} {S : DSp} (F : Fun K x qual st f fd) (hm : mg x = some (.ref f)) (hb : Binds K fd ps []) (h : FnOk P w K mg base CX0 n f fd ps (PureSp K S)) : DOk P w K mg base n x S :=
  ⟨f, fd, ps, hm, F.kp, hb, h⟩
theorem FOk.mk' {x qual : Str} {st : Stmt} {f : Addr} {fd : FuncData} {ps : List Str} {n : Nat} {S : DSp} (F : Fun K x qual st f fd) (hm : mg x = some (.ref f)) (hb : Binds K fd ps []) (h : FnOk P w K mg base CX0 n f fd ps (FreshSp K S)) : FOk P w K mg base n x S :=
  ⟨f, fd, ps, hm, F.kp, hb, h⟩
theorem DOk.mono {x : Str} {m n : Nat} {S : DSp} (h : DOk P w K mg base m x S) (hl : m ≤ n) : DOk P w K mg base n x S :=
  let ⟨f, fd, ps, h1, h2, h3, h4⟩ := h.ex; ⟨f, fd, ps, h1, h2, h3, h4.mono hl⟩
theorem FOk.mono {x : Str} {m n : Nat} {S : DSp} (h : FOk P w K mg base m x S) (hl : m ≤ n) : FOk P w K mg base n x S :=
  let ⟨f, fd, ps, h1, h2, h3, h4⟩ := h.ex; ⟨f, fd, ps, h1, h2, h3, h4.mono hl⟩
theorem MOk.mono {C : Addr} {x : Str} {m n : Nat} {S : DSp} (h : MOk P w K mg base m C x S) (hl : m ≤ n) : MOk P w K mg base n C x S :=
  ⟨h.cl, let ⟨f, fd, ps, h1, h3, h4⟩ := h.ex; ⟨f, fd, ps, h1, h3, h4.mono hl⟩⟩
theorem FMOk.mono {C : Addr} {x : Str} {m n : Nat} {S : DSp} (h : FMOk P w K mg base m C x S) (hl : m ≤ n) : FMOk P w K mg base n C x S :=
  ⟨h.cl, let ⟨f, fd, ps, h1, h3, h4⟩ := h.ex; ⟨f, fd, ps, h1, h3, h4.mono hl⟩⟩
end
end OD

namespace OD
open PySem PySem.Spec PyProof.Rows L2
mutual
/-- Python's == of data -/
def eqD : Dt → Dt → Bool
  | .non, .non => true
  | .bl a, .bl b => a == b
  | .bl a, .int b => (if a then (1 : Int) else 0) == b
  | .int a, .bl b => a == (if b then (1 : Int) else 0)
  | .int a, .int b => a == b
  | .str a, .str b => a == b
  | .tup ds, .tup es => eqDs ds es
  | .lst ds, .lst es => eqDs ds es
  | _, _ => false
def eqDs : List Dt → List Dt → Bool
  | [], [] => true
  | d :: ds, e :: es => eqD d e && eqDs ds es
  | _, _ => false
end
def okE : Nat → Dt → Bool
  | _, .non => true
  | _, .bl _ => true
  | _, .int _ => true
  | _, .str _ => true
  | n + 1, .tup ds => ds.all (okE n)
  | n + 1, .lst ds => ds.all (okE n)
  | _, _ => false
theorem eqD_int (a b : Int) : eqD (.int a) (.int b) = (a == b) := by unfold eqD; rfl
theorem eqD_bl (a b : Bool) : eqD (.bl a) (.bl b) = (a == b) := by unfold eqD; rfl
theorem eqD_str (a b : Str) : eqD (.str a) (.str b) = (a == b) := by unfold eqD; rfl
theorem eqD_tup (ds es : List Dt) : eqD (.tup ds) (.tup es) = eqDs ds es := by rw [eqD]
theorem eqD_lst (ds es : List Dt) : eqD (.lst ds) (.lst es) = eqDs ds es := by rw [eqD]
theorem eqDs_nil : eqDs [] [] = true := by unfold eqDs; rfl
theorem eqDs_cons (d e : Dt) (ds es : List Dt) : eqDs (d :: ds) (e :: es) = (eqD d e && eqDs ds es) := by rw [eqDs]
theorem eqDs_nil_cons (e : Dt) (es : List Dt) : eqDs [] (e :: es) = false := by unfold eqDs; rfl
theorem eqDs_cons_nil (e : Dt) (es : List Dt) : eqDs (e :: es) [] = false := by unfold eqDs; rfl
theorem eqDs_range : ∀ ds es : List Dt, (((List.range (min ds.length es.length)).all fun j => eqD (ds.getD j .non) (es.getD j .non)) && (ds.length == es.length)) = eqDs ds es
  | [], [] => by rw [eqDs_nil]; rfl
  | [], e :: es => by
    rw [eqDs_nil_cons]
    have h : ((([] : List Dt).length == (e :: es).length)) = false := by simp
    rw [h, Bool.and_false]
  | d :: ds, [] => by
    rw [eqDs_cons_nil]
    have h : (((d :: ds).length == ([] : List Dt).length)) = false := by simp
    rw [h, Bool.and_false]
  | d :: ds, e :: es => by
    have ih := eqDs_range ds es
    rw [eqDs_cons, ← ih]
    have hm : min (d :: ds).length (e :: es).length = min ds.length es.length + 1 := by
      rw [List.length_cons, List.length_cons]; omega
    rw [hm, List.range_succ_eq_map, List.all_cons, List.all_map, Bool.and_assoc]
    have hl : ((d :: ds).length == (e :: es).length) = (ds.length == es.length) := by
      rw [List.length_cons, List.length_cons]
      rw [Bool.eq_iff_iff, beq_iff_eq, beq_iff_eq]
      omega
    rw [hl]
    rfl
theorem eqDs_lens {ds es : List Dt} (h : ds.length ≠ es.length) : eqDs ds es = false := by
  rw [← eqDs_range ds es]
  have h : (ds.length == es.length) = false := beq_eq_false_iff_ne.mpr h
  rw [h, Bool.and_false]
theorem eqDs_all {ds es : List Dt} (h : ds.length = es.length) : ((List.range ds.length).all fun j => eqD (ds.getD j .non) (es.getD j .non)) = eqDs ds es := by
  rw [← eqDs_range ds es]
  have h' : (ds.length == es.length) = true := beq_iff_eq.mpr h
  rw [h', Bool.and_true, ← h, Nat.min_self]
theorem eqDs_self : ∀ {ds : List Dt}, (∀ d ∈ ds, eqD d d = true) → eqDs ds ds = true
  | [], _ => eqDs_nil
  | d :: ds, h => by
    rw [eqDs_cons, h d List.mem_cons_self, eqDs_self fun e he => h e (List.mem_cons_of_mem _ he)]
    rfl
theorem eqD_self : ∀ (n : Nat) {d : Dt}, okE n d = true → eqD d d = true := by
  intro n
  induction n with
  | zero =>
    intro d h
    cases d with
    | non => unfold eqD; rfl
    | bl b => rw [eqD_bl]; exact beq_self_eq_true _
    | int b => rw [eqD_int]; exact beq_self_eq_true _
    | str b => rw [eqD_str]; exact beq_self_eq_true _
    | _ => simp [okE] at h
  | succ n ih =>
    intro d h
    cases d with
    | non => unfold eqD; rfl
    | bl b => rw [eqD_bl]; exact beq_self_eq_true _
    | int b => rw [eqD_int]; exact beq_self_eq_true _
    | str b => rw [eqD_str]; exact beq_self_eq_true _
    | tup ds =>
      rw [eqD_tup]
      have h' : ∀ d ∈ ds, okE n d = true := by simpa [okE] using h
      exact eqDs_self fun d hd => ih (h' d hd)
    | lst ds =>
      rw [eqD_lst]
      have h' : ∀ d ∈ ds, okE n d = true := by simpa [okE] using h
      exact eqDs_self fun d hd => ih (h' d hd)
    | _ => simp [okE] at h
example : eqD (.int ((2 : Nat) : Int)) (.int 2) = true := by rfl
section
variable {X : Cx} {pins : List (Addr × Obj)} {σ : St} {K : PySem.W.Frag} {H : Hp} {s : Shared}
theorem eqs_of : ∀ {ds es : List Dt} {xs : List V}, (∀ d e v, d ∈ ds → e ∈ es → Is K H d v → Is K H e v → eqD d e = true) → AllIs K H ds xs → AllIs K H es xs → eqDs ds es = true
  | [], es, xs, ih, i1, i2 => by
    obtain rfl := allIs_nil.mp i1
    cases es with
    | nil => exact eqDs_nil
    | cons e es => obtain ⟨_, _, z, _⟩ := allIs_cons.mp i2; cases z
  | d :: ds, es, xs, ih, i1, i2 => by
    obtain ⟨x, r, rfl, j1, j2⟩ := allIs_cons.mp i1
    cases es with
    | nil => cases allIs_nil.mp i2
    | cons e es =>
      obtain ⟨y, r', z, k1, k2⟩ := allIs_cons.mp i2
      cases z
      rw [eqDs_cons, ih d e x List.mem_cons_self List.mem_cons_self j1 k1, eqs_of (fun d' e' v' hd he => ih d' e' v' (List.mem_cons_of_mem _ hd) (List.mem_cons_of_mem _ he)) j2 k2]
      rfl
def flatD : Dt → Bool
  | .non => true
  | .bl _ => true
  | .int _ => true
  | .str _ => true
  | _ => false
def vD : Dt → V
  | .bl b => .bl b
  | .int i => .int i
  | .str x => .str x
  | _ => .non
theorem is_flat {d : Dt} {v : V} (h : flatD d = true) (i : Is K H d v) : v = vD d := by
  cases d <;> first | exact is_non.mp i | exact is_bl.mp i | exact is_int.mp i | exact is_str.mp i | cases h
theorem flat_V {d : Dt} (h : flatD d = true) : flatV (vD d) = true := by cases d <;> first | rfl | cases h
theorem flat_ref {d : Dt} {a : Addr} (h : flatD d = true) (e : vD d = .ref a) : False := by cases d <;> first | cases e | cases h
theorem eqV_self {v : V} (h : flatV v = true) : eqV v v = true := by cases v <;> first | rfl | exact beq_self_eq_true _ | cases h
theorem eqD_flat {d e : Dt} (h1 : flatD d = true) (h2 : flatD e = true) : eqD d e = eqV (vD d) (vD e) := by cases d <;> first | exact absurd h1 Bool.false_ne_true | (cases e <;> first | exact absurd h2 Bool.false_ne_true | rfl)
theorem eqD_ft {d : Dt} {es : List Dt} (h : flatD d = true) : eqD d (.tup es) = false ∧ eqD (.tup es) d = false ∧ eqD d (.lst es) = false ∧ eqD (.lst es) d = false := by
  cases d <;> first | exact ⟨rfl, rfl, rfl, rfl⟩ | cases h
theorem shape {n : Nat} {d : Dt} (h : okE n d = true) : flatD d = true ∨ ∃ m ds, n = m + 1 ∧ (d = .tup ds ∨ d = .lst ds) ∧ ∀ d ∈ ds, okE m d = true := by
  cases d with
  | non => exact .inl rfl
  | bl b => exact .inl rfl
  | int b => exact .inl rfl
  | str b => exact .inl rfl
  | tup ds =>
    cases n with
    | zero => simp [okE] at h
    | succ m => exact .inr ⟨m, ds, rfl, .inl rfl, by simpa [okE] using h⟩
  | lst ds =>
    cases n with
    | zero => simp [okE] at h
    | succ m => exact .inr ⟨m, ds, rfl, .inr rfl, by simpa [okE] using h⟩
  | _ => cases n <;> simp [okE] at h
theorem eq_same : ∀ (n : Nat) {d e : Dt} {v : V}, okE n d = true → okE n e = true → Is K H d v → Is K H e v → eqD d e = true := by
  intro n
  induction n with
  | zero =>
    intro d e v h1 h2 i1 i2
    rcases shape h1 with f1 | ⟨m, ds, z, _⟩
    · rcases shape h2 with f2 | ⟨m, ds, z, _⟩
      · rw [eqD_flat f1 f2, ← is_flat f1 i1, ← is_flat f2 i2]
        exact eqV_self (by rw [is_flat f1 i1]; exact flat_V f1)
      · cases z
    · cases z
  | succ n ih =>
    intro d e v h1 h2 i1 i2
    rcases shape h1 with f1 | ⟨m, ds, z, hk, hd⟩
    · rcases shape h2 with f2 | ⟨m, es, z, hk, he⟩
      · rw [eqD_flat f1 f2, ← is_flat f1 i1, ← is_flat f2 i2]
        exact eqV_self (by rw [is_flat f1 i1]; exact flat_V f1)
      · obtain rfl := is_flat f1 i1
        rcases hk with rfl | rfl
        · obtain ⟨_, _, e, _⟩ := is_tup.mp i2; exact (flat_ref f1 e).elim
        · obtain ⟨_, _, e, _⟩ := is_lst.mp i2; exact (flat_ref f1 e).elim
    · cases z
      rcases shape h2 with f2 | ⟨m, es, z, hk2, he⟩
      · obtain rfl := is_flat f2 i2
        rcases hk with rfl | rfl
        · obtain ⟨_, _, e, _⟩ := is_tup.mp i1; exact (flat_ref f2 e).elim
        · obtain ⟨_, _, e, _⟩ := is_lst.mp i1; exact (flat_ref f2 e).elim
      · cases z
        rcases hk with rfl | rfl
        · obtain ⟨a, xs, rfl, hx, ha⟩ := is_tup.mp i1
          rcases hk2 with rfl | rfl
          · obtain ⟨b, ys, eb, hy, hb⟩ := is_tup.mp i2
            cases eb
            rw [hx] at hy
            cases hy
            rw [eqD_tup]
            exact eqs_of (fun d e v q1 q2 => ih (hd d q1) (he e q2)) ha hb
          · obtain ⟨b, ys, eb, hy, hb⟩ := is_lst.mp i2
            cases eb
            rw [hx] at hy
            cases hy
        · obtain ⟨a, xs, rfl, hx, ha⟩ := is_lst.mp i1
          rcases hk2 with rfl | rfl
          · obtain ⟨b, ys, eb, hy, hb⟩ := is_tup.mp i2
            cases eb
            rw [hx] at hy
            cases hy
          · obtain ⟨b, ys, eb, hy, hb⟩ := is_lst.mp i2
            cases eb
            rw [hx] at hy
            cases hy
            rw [eqD_lst]
            exact eqs_of (fun d e v q1 q2 => ih (hd d q1) (he e q2)) ha hb
section
variable {A : Around}
open SeqAt
theorem flat_tupE {d : Dt} {v : Value} {b : Addr} {its : Array Value} (f : flatD d = true) (q : RelV (vD d) v) (t : s.heap.IsTuple b its) (hA : A.units < cLine) :
    (EqAt A s v (.ref b) false ∧ EqAt A s (.ref b) v false) ∧ (RcAt A s v (.ref b) false ∧ RcNeAt A s v (.ref b) true) ∧ RcAt A s (.ref b) v false ∧ RcNeAt A s (.ref b) v true := by
  cases d with
  | non => cases q; exact ⟨⟨.none_tuple t hA, .tuple_none t hA⟩, ⟨.none_tuple t hA, .none_tuple t hA⟩, .tuple_none t hA, .tuple_none t hA⟩
  | bl a => cases q; exact ⟨⟨.bool_tuple a t hA, .tuple_bool a t hA⟩, ⟨.bool_tuple a t hA, .bool_tuple a t hA⟩, .tuple_bool a t hA, .tuple_bool a t hA⟩
  | int a => obtain ⟨u, rfl⟩ := q; exact ⟨⟨.int_tuple a u t hA, .tuple_int a u t hA⟩, ⟨.int_tuple a u t hA, .int_tuple a u t hA⟩, .tuple_int a u t hA, .tuple_int a u t hA⟩
  | str a => obtain ⟨u, rfl⟩ := q; exact ⟨⟨.str_tuple a u t hA, .tuple_str a u t hA⟩, ⟨.str_tuple a u t hA, .str_tuple a u t hA⟩, .tuple_str a u t hA, .tuple_str a u t hA⟩
  | _ => cases f
theorem flat_lstE {d : Dt} {v : Value} {b : Addr} {its : Array Value} (f : flatD d = true) (q : RelV (vD d) v) (t : s.heap.IsList b its) (hA : A.units < cLine) :
    (EqAt A s v (.ref b) false ∧ EqAt A s (.ref b) v false) ∧ (RcAt A s v (.ref b) false ∧ RcNeAt A s v (.ref b) true) ∧ RcAt A s (.ref b) v false ∧ RcNeAt A s (.ref b) v true := by
  cases d with
  | non => cases q; exact ⟨⟨.none_list t hA, .list_none t hA⟩, ⟨.none_list t hA, .none_list t hA⟩, .list_none t hA, .list_none t hA⟩
  | bl a => cases q; exact ⟨⟨.bool_list a t hA, .list_bool a t hA⟩, ⟨.bool_list a t hA, .bool_list a t hA⟩, .list_bool a t hA, .list_bool a t hA⟩
  | int a => obtain ⟨u, rfl⟩ := q; exact ⟨⟨.int_list a u t hA, .list_int a u t hA⟩, ⟨.int_list a u t hA, .int_list a u t hA⟩, .list_int a u t hA, .list_int a u t hA⟩
  | str a => obtain ⟨u, rfl⟩ := q; exact ⟨⟨.str_list a u t hA, .list_str a u t hA⟩, ⟨.str_list a u t hA, .str_list a u t hA⟩, .list_str a u t hA, .list_str a u t hA⟩
  | _ => cases f
theorem flat_rc {d e : Dt} {v u : Value} (f1 : flatD d = true) (f2 : flatD e = true) (q1 : RelV (vD d) v) (q2 : RelV (vD e) u) : RcAt A s v u (eqD d e) ∧ RcNeAt A s v u (!eqD d e) := by
  cases d with
  | non =>
    cases q1
    cases e with
    | non => cases q2; exact ⟨.none_none, .none_none⟩
    | bl b => cases q2; exact ⟨.none_bool b, .none_bool b⟩
    | int b => obtain ⟨t, rfl⟩ := q2; exact ⟨.none_int b t, .none_int b t⟩
    | str b => obtain ⟨t, rfl⟩ := q2; exact ⟨.none_str b t, .none_str b t⟩
    | _ => cases f2
  | bl a =>
    cases q1
    cases e with
    | non => cases q2; exact ⟨.bool_none a, .bool_none a⟩
    | bl b => cases q2; exact ⟨.bool_bool a b, .bool_bool a b⟩
    | int b => obtain ⟨t, rfl⟩ := q2; exact ⟨.bool_int a b t, .bool_int a b t⟩
    | str b => obtain ⟨t, rfl⟩ := q2; exact ⟨.bool_str a b t, .bool_str a b t⟩
    | _ => cases f2
  | int a =>
    obtain ⟨ta, rfl⟩ := q1
    cases e with
    | non => cases q2; exact ⟨.int_none a ta, .int_none a ta⟩
    | bl b => cases q2; exact ⟨.int_bool a ta b, .int_bool a ta b⟩
    | int b => obtain ⟨t, rfl⟩ := q2; exact ⟨.int_int a ta b t, .int_int a ta b t⟩
    | str b => obtain ⟨t, rfl⟩ := q2; exact ⟨.int_str a ta b t, .int_str a ta b t⟩
    | _ => cases f2
  | str a =>
    obtain ⟨ta, rfl⟩ := q1
    cases e with
    | non => cases q2; exact ⟨.str_none a ta, .str_none a ta⟩
    | bl b => cases q2; exact ⟨.str_bool a ta b, .str_bool a ta b⟩
    | int b => obtain ⟨t, rfl⟩ := q2; exact ⟨.str_int a ta b t, .str_int a ta b t⟩
    | str b => obtain ⟨t, rfl⟩ := q2; exact ⟨.str_str a ta b t, .str_str a ta b t⟩
    | _ => cases f2
  | _ => cases f1
end
theorem items_eq {n : Nat} {A : Around} {ds es : List Dt} {xs ys : List V} {its its2 : List Value}
    (ih : ∀ {d e : Dt} {x y : V} {v u : Value}, okE n d = true → okE n e = true → Is K H d x → Is K H e y → RelV x v → RelV y u → SeqAt.EqAt A s v u (eqD d e))
    (hd : ∀ d ∈ ds, okE n d = true) (he : ∀ d ∈ es, okE n d = true) (a1 : AllIs K H ds xs) (a2 : AllIs K H es ys) (r1 : Vals xs its) (r2 : Vals ys its2) :
    ∀ j (h1 : j < its.toArray.size) (h2 : j < its2.toArray.size), SeqAt.EqAt A s its.toArray[j] its2.toArray[j] (eqD (ds.getD j .non) (es.getD j .non)) := by
  intro j h1 h2
  have l1 := a1.length.trans r1.length
  have l2 := a2.length.trans r2.length
  rw [List.size_toArray] at h1 h2
  have g1 : ds[j]? = some ds[j] := List.getElem?_eq_getElem (by omega)
  have g2 : es[j]? = some es[j] := List.getElem?_eq_getElem (by omega)
  obtain ⟨x, e1, i1⟩ := a1.get g1
  obtain ⟨y, e2, i2⟩ := a2.get g2
  obtain ⟨v, e3, q1⟩ := r1.get e1
  obtain ⟨u, e4, q2⟩ := r2.get e2
  have f1 : ds.getD j .non = ds[j] := by rw [List.getD_eq_getElem?_getD, g1]; rfl
  have f2 : es.getD j .non = es[j] := by rw [List.getD_eq_getElem?_getD, g2]; rfl
  have f3 : its.toArray[j] = v := by
    have z : its[j]? = some its[j] := List.getElem?_eq_getElem h1
    rw [z] at e3
    simpa using Option.some.inj e3
  have f4 : its2.toArray[j] = u := by
    have z : its2[j]? = some its2[j] := List.getElem?_eq_getElem h2
    rw [z] at e4
    simpa using Option.some.inj e4
  rw [f1, f2, f3, f4]
  exact ih (hd _ (List.mem_of_getElem? g1)) (he _ (List.mem_of_getElem? g2)) i1 i2 q1 q2
theorem eq_at (I : Inv X pins σ H s) : ∀ (n : Nat) {A : Around} {d e : Dt} {x y : V} {v u : Value}, A.units + n < cLine → okE n d = true → okE n e = true → Is X.K H d x → Is X.K H e y → RelV x v → RelV y u → SeqAt.EqAt A s v u (eqD d e) := by
  intro n
  induction n with
  | zero =>
    intro A d e x y v u hu h1 h2 i1 i2 q1 q2
    rcases shape h1 with f1 | ⟨m, ds, z, _⟩
    · rcases shape h2 with f2 | ⟨m, ds, z, _⟩
      · rw [eqD_flat f1 f2]
        rw [is_flat f1 i1] at q1
        rw [is_flat f2 i2] at q2
        exact eqAt_V q1 q2 (flat_V f1) (flat_V f2)
      · cases z
    · cases z
  | succ n ih =>
    intro A d e x y v u hu h1 h2 i1 i2 q1 q2
    have hA : A.units < cLine := by omega
    have hu' : A.in1.units + n < cLine := by show A.units + 1 + n < cLine; omega
    rcases shape h1 with f1 | ⟨m, ds, z, hk, hd⟩
    · rw [is_flat f1 i1] at q1
      rcases shape h2 with f2 | ⟨m, es, z, rfl | rfl, he⟩
      · rw [eqD_flat f1 f2]
        rw [is_flat f2 i2] at q2
        exact eqAt_V q1 q2 (flat_V f1) (flat_V f2)
      · obtain ⟨b, ys, rfl, hy, hb⟩ := is_tup.mp i2
        obtain ⟨its2, r2, t2, _⟩ := I.tuple (.of hy)
        cases q2
        rw [(eqD_ft f1).1]
        exact (flat_tupE f1 q1 t2 hA).1.1
      · obtain ⟨b, ys, rfl, hy, hb⟩ := is_lst.mp i2
        obtain ⟨its2, r2, t2, _⟩ := I.list (.of hy)
        cases q2
        rw [(eqD_ft f1).2.2.1]
        exact (flat_lstE f1 q1 t2.isList hA).1.1
    · cases z
      rcases hk with rfl | rfl
      · obtain ⟨a, xs, rfl, hx, ha⟩ := is_tup.mp i1
        obtain ⟨its, r1, t1, _⟩ := I.tuple (.of hx)
        cases q1
        rcases shape h2 with f2 | ⟨m, es, z, rfl | rfl, he⟩
        · rw [is_flat f2 i2] at q2
          rw [(eqD_ft f2).2.1]
          exact (flat_tupE f2 q2 t1 hA).1.2
        · cases z
          have i2' := i2
          obtain ⟨b, ys, rfl, hy, hb⟩ := is_tup.mp i2
          obtain ⟨its2, r2, t2, _⟩ := I.tuple (.of hy)
          cases q2
          by_cases hab : a = b
          · subst hab
            rw [eq_same _ h1 h2 i1 i2']
            exact SeqAt.EqAt.same _
          · have q := SeqAt.RcAt.tuples t1 t2 hA (items_eq (fun {d e x y v u} => ih (A := A.in1) hu') hd he ha hb r1 r2)
            rw [List.size_toArray, List.size_toArray, ← r1.length, ← r2.length, ← ha.length, ← hb.length, eqDs_range] at q
            rw [eqD_tup]
            exact .of_refs hab q
        · obtain ⟨b, ys, rfl, hy, hb⟩ := is_lst.mp i2
          obtain ⟨its2, r2, t2, _⟩ := I.list (.of hy)
          cases q2
          exact SeqAt.EqAt.tuple_list t1 t2.isList hA
      · obtain ⟨a, xs, rfl, hx, ha⟩ := is_lst.mp i1
        obtain ⟨its, r1, t1, _⟩ := I.list (.of hx)
        cases q1
        rcases shape h2 with f2 | ⟨m, es, z, rfl | rfl, he⟩
        · rw [is_flat f2 i2] at q2
          rw [(eqD_ft f2).2.2.2]
          exact (flat_lstE f2 q2 t1.isList hA).1.2
        · obtain ⟨b, ys, rfl, hy, hb⟩ := is_tup.mp i2
          obtain ⟨its2, r2, t2, _⟩ := I.tuple (.of hy)
          cases q2
          exact SeqAt.EqAt.list_tuple t1.isList t2 hA
        · cases z
          have i2' := i2
          obtain ⟨b, ys, rfl, hy, hb⟩ := is_lst.mp i2
          obtain ⟨its2, r2, t2, _⟩ := I.list (.of hy)
          cases q2
          by_cases hab : a = b
          · subst hab
            rw [eq_same _ h1 h2 i1 i2']
            exact SeqAt.EqAt.same _
          · rw [eqD_lst]
            have l1 := ha.length.trans r1.length
            have l2 := hb.length.trans r2.length
            by_cases hl : ds.length = es.length
            · have q := SeqAt.RcAt.lists t1.isList t2.isList (by rw [List.size_toArray, List.size_toArray]; omega) hA (items_eq (fun {d e x y v u} => ih (A := A.in1) hu') hd he ha hb r1 r2)
              rw [List.size_toArray, ← l1, eqDs_all hl] at q
              exact .of_refs hab q
            · have q := SeqAt.RcAt.lists_lengths t1.isList t2.isList (by rw [List.size_toArray, List.size_toArray, bne_iff_ne]; omega) hA
              rw [eqDs_lens hl]
              exact .of_refs hab q
theorem rc_at (I : Inv X pins σ H s) {n : Nat} {A : Around} {d e : Dt} {x y : V} {v u : Value} (hu : A.units + (n + 1) < cLine) (h1 : okE (n + 1) d = true) (h2 : okE (n + 1) e = true) (i1 : Is X.K H d x) (i2 : Is X.K H e y) (q1 : RelV x v) (q2 : RelV y u) :
    SeqAt.RcAt A s v u (eqD d e) ∧ SeqAt.RcNeAt A s v u (!eqD d e) := by
  have hA : A.units < cLine := by omega
  have hu' : A.in1.units + n < cLine := by show A.units + 1 + n < cLine; omega
  have ih := fun {d e : Dt} {x y : V} {v u : Value} => eq_at I n (A := A.in1) (d := d) (e := e) (x := x) (y := y) (v := v) (u := u) hu'
  rcases shape h1 with f1 | ⟨m, ds, z, hk, hd⟩
  · rw [is_flat f1 i1] at q1
    rcases shape h2 with f2 | ⟨m, es, z, rfl | rfl, he⟩
    · rw [is_flat f2 i2] at q2
      exact flat_rc f1 f2 q1 q2
    · obtain ⟨b, ys, rfl, hy, hb⟩ := is_tup.mp i2
      obtain ⟨its2, r2, t2, _⟩ := I.tuple (.of hy)
      cases q2
      rw [(eqD_ft f1).1]
      exact (flat_tupE f1 q1 t2 hA).2.1
    · obtain ⟨b, ys, rfl, hy, hb⟩ := is_lst.mp i2
      obtain ⟨its2, r2, t2, _⟩ := I.list (.of hy)
      cases q2
      rw [(eqD_ft f1).2.2.1]
      exact (flat_lstE f1 q1 t2.isList hA).2.1
  · cases z
    rcases hk with rfl | rfl
    · obtain ⟨a, xs, rfl, hx, ha⟩ := is_tup.mp i1
      obtain ⟨its, r1, t1, _⟩ := I.tuple (.of hx)
      cases q1
      rcases shape h2 with f2 | ⟨m, es, z, rfl | rfl, he⟩
      · rw [is_flat f2 i2] at q2
        rw [(eqD_ft f2).2.1]
        exact (flat_tupE f2 q2 t1 hA).2.2
      · cases z
        obtain ⟨b, ys, rfl, hy, hb⟩ := is_tup.mp i2
        obtain ⟨its2, r2, t2, _⟩ := I.tuple (.of hy)
        cases q2
        have it := items_eq (A := A.in1) ih hd he ha hb r1 r2
        have q := SeqAt.RcAt.tuples t1 t2 hA it
        have q' := SeqAt.RcNeAt.tuples t1 t2 hA it
        rw [List.size_toArray, List.size_toArray, ← r1.length, ← r2.length, ← ha.length, ← hb.length, eqDs_range] at q q'
        rw [eqD_tup]
        exact ⟨q, q'⟩
      · obtain ⟨b, ys, rfl, hy, hb⟩ := is_lst.mp i2
        obtain ⟨its2, r2, t2, _⟩ := I.list (.of hy)
        cases q2
        exact ⟨SeqAt.RcAt.tuple_list t1 t2.isList hA, SeqAt.RcNeAt.tuple_list t1 t2.isList hA⟩
    · obtain ⟨a, xs, rfl, hx, ha⟩ := is_lst.mp i1
      obtain ⟨its, r1, t1, _⟩ := I.list (.of hx)
      cases q1
      rcases shape h2 with f2 | ⟨m, es, z, rfl | rfl, he⟩
      · rw [is_flat f2 i2] at q2
        rw [(eqD_ft f2).2.2.2]
        exact (flat_lstE f2 q2 t1.isList hA).2.2
      · obtain ⟨b, ys, rfl, hy, hb⟩ := is_tup.mp i2
        obtain ⟨its2, r2, t2, _⟩ := I.tuple (.of hy)
        cases q2
        exact ⟨SeqAt.RcAt.list_tuple t1.isList t2 hA, SeqAt.RcNeAt.list_tuple t1.isList t2 hA⟩
      · cases z
        obtain ⟨b, ys, rfl, hy, hb⟩ := is_lst.mp i2
        obtain ⟨its2, r2, t2, _⟩ := I.list (.of hy)
        cases q2
        rw [eqD_lst]
        have l1 := ha.length.trans r1.length
        have l2 := hb.length.trans r2.length
        by_cases hl : ds.length = es.length
        · have it := items_eq (A := A.in1) ih hd he ha hb r1 r2
          have q := SeqAt.RcAt.lists t1.isList t2.isList (by rw [List.size_toArray, List.size_toArray]; omega) hA it
          have q' := SeqAt.RcNeAt.lists t1.isList t2.isList (by rw [List.size_toArray, List.size_toArray]; omega) hA it
          rw [List.size_toArray, ← l1, eqDs_all hl] at q q'
          exact ⟨q, q'⟩
        · have q := SeqAt.RcAt.lists_lengths t1.isList t2.isList (by rw [List.size_toArray, List.size_toArray, bne_iff_ne]; omega) hA
          have q' := SeqAt.RcNeAt.lists_lengths t1.isList t2.isList (by rw [List.size_toArray, List.size_toArray, bne_iff_ne]; omega) hA
          rw [eqDs_lens hl]
          exact ⟨q, q'⟩
def gEq : Dt → Dt → (Dt → Prop) → Prop := fun d e Q => okE 40 d = true ∧ okE 40 e = true ∧ Q (.bl (eqD d e))
def gNe : Dt → Dt → (Dt → Prop) → Prop := fun d e Q => okE 40 d = true ∧ okE 40 e = true ∧ Q (.bl (!eqD d e))
theorem o_eq {k : Nat} (hr : Room k X.A) : DOp X (compareOp .Eq) gEq := by
  refine ⟨fun x y H Q => ∃ d e, Is X.K H d x ∧ Is X.K H e y ∧ okE 40 d = true ∧ okE 40 e = true ∧ Q (.bl (eqD d e)) H, fun pins s σ H x y v u Q I rx ry h => ?_, fun H x y d e Q i1 i2 q R k => ⟨d, e, Is.mono0 H.sub i1, Is.mono0 H.sub i2, q.1, q.2.1, k _ _ H (Le.refl H) (is_bl.mpr rfl) q.2.2⟩⟩
  obtain ⟨d, e, i1, i2, h1, h2, q⟩ := h
  have hu := hr.units
  exact (rc_at (n := 39) I (A := X.A) (by omega) h1 h2 i1 i2 rx ry).1 _ _ _ _ ⟨.bl _, H, I, rfl, q⟩
theorem o_ne {k : Nat} (hr : Room k X.A) : DOp X (compareOp .NotEq) gNe := by
  refine ⟨fun x y H Q => ∃ d e, Is X.K H d x ∧ Is X.K H e y ∧ okE 40 d = true ∧ okE 40 e = true ∧ Q (.bl (!eqD d e)) H, fun pins s σ H x y v u Q I rx ry h => ?_, fun H x y d e Q i1 i2 q R k => ⟨d, e, Is.mono0 H.sub i1, Is.mono0 H.sub i2, q.1, q.2.1, k _ _ H (Le.refl H) (is_bl.mpr rfl) q.2.2⟩⟩
  obtain ⟨d, e, i1, i2, h1, h2, q⟩ := h
  have hu := hr.units
  exact (rc_at (n := 39) I (A := X.A) (by omega) h1 h2 i1 i2 rx ry).2 _ _ _ _ ⟨.bl _, H, I, rfl, q⟩
end
end OD

namespace OD
open PySem PySem.Spec PyProof.Rows L2
section
variable {X : Cx} {pins : List (Addr × Obj)} {σ : St} {H : Hp} {s : Shared} {scope : Scope} {x : Str} {fp : List Addr}
end
end OD

namespace OD
variable {Z : Hp}
open PySem PySem.Spec PyProof.Rows L2
section
variable {X : Cx} {pins : List (Addr × Obj)} {σ : St} {H : Hp} {s : Shared} {h' : Heap}
end
section
variable {X : Cx}
end

section
variable {X : Cx} {fr : Fr} {ta : DTA} {tb : DTS} {pos : Pos}
theorem list_g {K : PySem.W.Frag} {W1 : Vw} {d : Dt} {v : V} {ds : List Dt} (i1 : Is K W1.g d v) (el : listOf d = some ds) : ∃ a xs, v = .ref a ∧ (∀ W2 : Vw, Same W1.g W2.g → SqL K W2.h a xs) ∧ AllIs K W1.g ds xs := by
  cases d with
  | lst es =>
    obtain rfl : es = ds := Option.some.inj el
    obtain ⟨a, xs, rfl, h1, h2⟩ := is_lst.mp i1
    exact ⟨a, xs, rfl, fun W2 s2 => .of (W2.sub _ _ (s2 _ _ h1)), h2⟩
  | scr ns =>
    obtain rfl : ns.map Dt.int = ds := Option.some.inj el
    obtain ⟨a, rfl, h1⟩ := is_scr.mp i1
    exact ⟨a, _, rfl, fun W2 s2 => W2.sub.seq (s2.seq h1), AllIs.ints⟩
  | _ => cases el
def dComp (tl te : DTE) : DTE := fun ρ Q => tl ρ fun d => ∃ (ds : List Dt) (Pv : Nat → List Dt → Prop), listOf d = some ds ∧ ds.length ≤ 100000 ∧ Pv 0 [] ∧
  (∀ i e es, ds[i]? = some e → Pv i es → te [.some e] fun y => Pv (i + 1) (es ++ [y])) ∧ ∀ es, Pv ds.length es → Q (.lst es)
def liftE (K : PySem.W.Frag) (t : DTE) : TE := fun σ H R => ∃ (F : Hp) (ρ : DS) (W : Vw) (Q : Dt → Prop), W.h = H ∧ Rl K (fun _ => none) F W ρ σ ∧ t ρ Q ∧ ∀ d v W', Le W W' → Is K W'.g d v → Q d → R v W'.h
theorem DE.up {e : Expr} {t : DTE} (h : DE X e t) (hz : X.stack.length = X.outer.length := by rfl) : PE X e (liftE X.K t) := by
  obtain ⟨te, p, l⟩ := h
  intro pins s σ H R I q
  obtain ⟨F, ρ, W, Q, rfl, r, h, k⟩ := q
  have r' : Rl X.K (Zx X) F W ρ σ := by unfold Zx; rw [if_pos (Or.inl hz)]; exact r
  exact p pins s σ W.h R I (l ρ σ W Q r' h R k)
theorem li_lift {K : PySem.W.Frag} {t : DTE} : LiE K (fun _ => none) (liftE K t) t := fun ρ σ H Q r h R k => ⟨_, ρ, H, Q, rfl, r, h, k⟩
theorem LiF.le {K : PySem.W.Frag} {te : TE} {t : DTE} (l : LiF K Z te t) : LiE K Z te t := fun ρ σ H Q r h R k => l ρ σ H Q r h R fun es q xs H' s h0 h1 h2 i z => k (.lst es) (.ref q) (H'.frz q _ h1) (le_frz s h0 h1 h2) (is_lst.mpr ⟨q, xs, rfl, upd_same, AllIs.mono0 (same_new h2 _) i⟩) z
variable {scope : Scope} {x : Str} {elt iter : Expr} {px : Pos} {tl te : DTE}
end
end OD

namespace OD
variable {Z : Hp}
open PySem PySem.Spec PyProof.Rows L2
section
variable {X : Cx}
end
section
variable {X : Cx} {fr : Fr} {ta : DTA} {tb : DTS} {pos p0 p1 p2 : Pos}
end
end OD

namespace OD
variable {Z : Hp}
open PySem PySem.Spec PyProof.Rows L2
section
variable {X : Cx} {tg : Expr}
variable {fr : Fr} {ta : DTA} {tb : DTS} {te : DTE} {pos p0 p1 p2 : Pos}
def isNon : Dt → Bool
  | .non => true
  | _ => false
theorem isNon_iff {K : PySem.W.Frag} {H : Hp} {d : Dt} {v : V} (h : Is K H d v) : decide (v = .non) = isNon d := by
  cases d with
  | non => rw [is_non.mp h]; rfl
  | bl b => rw [is_bl.mp h]; rfl
  | int b => rw [is_int.mp h]; rfl
  | str b => rw [is_str.mp h]; rfl
  | tup b => obtain ⟨a, xs, rfl, _⟩ := is_tup.mp h; rfl
  | lst b => obtain ⟨a, xs, rfl, _⟩ := is_lst.mp h; rfl
  | scr b => obtain ⟨a, rfl, _⟩ := is_scr.mp h; rfl
  | way b _ _ => obtain ⟨a, xs, rfl, _⟩ := is_way.mp h; rfl
  | exc b => obtain ⟨a, rfl, _⟩ := is_exc.mp h; rfl
def dIsNo (ta : DTE) : DTE := fun ρ Q => ta ρ fun d => Q (.bl (isNon d))
theorem dt_isN {a : Expr} {j pos'} (ha : DE X a te) : DT X (.Compare a [.Is] [.Constant .none j pos'] pos) (dTest (dIsNo te)) := by
  obtain ⟨t1, p1, l1⟩ := ha
  refine ⟨_, pt_cmp (pc_isN p1), liTest (te := tIsN t1) (t := dIsNo te) fun ρ σ H Q r h R k => l1 ρ σ H _ r h _ fun d v H1 s1 i1 q => k (.bl (isNon d)) (.bl (decide (v = .non))) H1 s1 (is_bl.mpr (by rw [isNon_iff i1])) q⟩
end
end OD

namespace OD
variable {Z : Hp}
open PySem PySem.Spec PyProof.Rows L2
section
variable {X : Cx} {a : Expr} {te : TE} {tl th ts : TO} {lo hi : Option Expr} {st : Expr} {pos p2 : Pos} {ta : DTE} {dl dh dt : DTO}
variable {fr : Fr} {tA : DTA} {tb : DTS} {p0 p1 : Pos}
def CDivG (i j : Int) : Prop := j ≠ 0 ∧ Builtin.divisionGoesByPylong i j = false
theorem o_fdivG : DOp X (binaryOp .FloorDiv) (gIC CDivG fun i j => .int (i.fdiv j)) := dop_IC (C := CDivG) (opI fun _ _ _ _ _ _ _ hc q => floordiv_int hc.1 q (.inl hc.2))
theorem cdivG {c n : Int} (h0 : n ≠ 0) (h : n.natAbs < 2 ^ 9000) : CDivG c n := ⟨h0, PyProof.noPylong_of_log2 ((Nat.log2_lt (by omega)).mpr h)⟩
def dSeqJ (t u : DTS) : DTS := fun D ρ => ∃ P : DS → Prop, t { D with nx := P } ρ ∧ ∀ ρ', P ρ' → u D ρ'
theorem dss_join {sst : Stmt} {rest : List Stmt} {t u : DTS} (h1 : DSt X fr sst t) (h2 : DSs X fr rest u) : DSs X fr (sst :: rest) (dSeqJ t u) := by
  obtain ⟨ts, p1, l1⟩ := h1
  obtain ⟨us, p2, l2⟩ := h2
  refine ⟨_, pss_cons p1 p2, fun W0 G ρ σ W D D' a s h => ?_⟩
  obtain ⟨P, h, k⟩ := h
  exact l1 W0 G ρ σ W { D with nx := P } { D' with nx := us D' } a ⟨fun ρ' σ' W' a' q => l2 W0 G ρ' σ' W' D D' a' s (k ρ' q), s.tl, s.bk, s.ct⟩ h
end
end OD

namespace OD
open PySem PySem.Spec PyProof.Rows L2
section
variable {X : Cx} {ta : DTE} {pos p0 : Pos}
end
end OD

namespace OD
variable {Z : Hp}
open PySem PySem.Spec PyProof.Rows L2
section
variable {X : Cx} {K : PySem.W.Frag} {H : Hp}
def gS (f : Str → Str → Dt) : Dt → Dt → (Dt → Prop) → Prop := fun d e Q => ∃ x y, d = .str x ∧ e = .str y ∧ Q (f x y)
theorem dec_strV {x y : Str} : decide (V.str x = V.str y) = (x == y) := by
  rw [Bool.eq_iff_iff]
  simp
theorem o_eqS : DOp X (compareOp .Eq) (gS fun x y => .bl (x == y)) := by
  refine ⟨_, op_eq, fun H x y d e Q i1 i2 ⟨a, b, ed, ee, q⟩ R k => ?_⟩
  subst ed
  subst ee
  obtain rfl := is_str.mp i1
  obtain rfl := is_str.mp i2
  refine ⟨rfl, ?_⟩
  rw [dec_strV]
  exact k _ _ H (Le.refl H) (is_bl.mpr rfl) q
theorem o_neS : DOp X (compareOp .NotEq) (gS fun x y => .bl (!(x == y))) := by
  refine ⟨_, op_ne, fun H x y d e Q i1 i2 ⟨a, b, ed, ee, q⟩ R k => ?_⟩
  subst ed
  subst ee
  obtain rfl := is_str.mp i1
  obtain rfl := is_str.mp i2
  refine ⟨rfl, ?_⟩
  rw [dec_strV]
  exact k _ _ H (Le.refl H) (is_bl.mpr rfl) q
end
section
variable {X : Cx} {fr : Fr} {te : DTE} {tb : DTS} {pos p0 p1 p2 : Pos}
end
end OD

namespace OD
variable {Z : Hp}
open PySem PySem.Spec PyProof.Rows L2
def capV (σ : St) (js : List Nat) : St := js.map fun j => (σ[j]?).getD none
section
variable {X : Cx} {pins : List (Addr × Obj)} {σ : St} {H : Hp} {s : Shared} {scope : Scope} {cl : List (Str × Addr)} {x : Str} {caps : List Str} {js : List Nat} {fp : List Addr}
end
def clOf (cells : List (Str × Addr)) (names : List (Str × NameKind)) : List (Str × Addr) := (names.filterMap fun y => if y.2 == .free then (cells.lookup y.1).map (y.1, ·) else none).reverse
theorem mem_lookup {α : Type} {y : Str} {c : α} : ∀ {l : List (Str × α)}, (y, c) ∈ l → ∃ c', l.lookup y = some c'
  | [], h => nomatch h
  | (z, d) :: r, h => by
    rw [List.lookup_cons]
    cases q : y == z with
    | true => exact ⟨d, rfl⟩
    | false =>
      rcases List.mem_cons.mp h with e | e
      · cases e
        rw [beq_self_eq_true] at q
        cases q
      · exact mem_lookup e
theorem mem_clOf {cells : List (Str × Addr)} {names : List (Str × NameKind)} {y : Str} {c : Addr} : (y, c) ∈ clOf cells names ↔ (y, NameKind.free) ∈ names ∧ cells.lookup y = some c := by
  unfold clOf
  rw [List.mem_reverse, List.mem_filterMap]
  constructor
  · rintro ⟨⟨z, k⟩, hz, e⟩
    split at e
    · rename_i hk
      obtain rfl := eq_of_beq hk
      obtain ⟨d, hd, e⟩ := Option.map_eq_some_iff.mp e
      cases e
      exact ⟨hz, hd⟩
    · cases e
  · rintro ⟨h1, h2⟩
    exact ⟨(y, .free), h1, by show Option.map _ (List.lookup y cells) = _; rw [h2]; rfl⟩
theorem clos_of {scope : Scope} {env : Env} (h : ∀ y, (y, NameKind.free) ∈ scope.names → ∃ c, env.cells.lookup y = some c) : closureFor scope env = pure (clOf env.cells scope.names) := by
  have key : ∀ (names : List (Str × NameKind)) (acc : List (Str × Addr)), (∀ y, (y, NameKind.free) ∈ names → ∃ c, env.cells.lookup y = some c) →
      (forIn names acc fun x r => (if x.2 == NameKind.free then do let c ← cellOf env x.1; pure (ForInStep.yield ((x.1, c) :: r)) else pure (ForInStep.yield r) : Sem (ForInStep (List (Str × Addr))))) = (pure (clOf env.cells names ++ acc) : Sem (List (Str × Addr))) := by
    intro names
    induction names with
    | nil => intro acc _; rfl
    | cons a r ih =>
      intro acc ha
      obtain ⟨n, k⟩ := a
      rw [List.forIn_cons]
      cases hk : k == NameKind.free with
      | true =>
        obtain rfl := eq_of_beq hk
        obtain ⟨c, hc⟩ := ha n List.mem_cons_self
        have e1 : cellOf env n = pure c := by unfold cellOf; rw [hc]
        have e2 : clOf env.cells ((n, NameKind.free) :: r) = clOf env.cells r ++ [(n, c)] := by
          unfold clOf
          rw [List.filterMap_cons_some (b := (n, c)) (by show Option.map _ (List.lookup n env.cells) = _; rw [hc]; rfl), List.reverse_cons]
        show (do let c ← cellOf env n; pure (ForInStep.yield ((n, c) :: acc)) : Sem _) >>= _ = _
        rw [e1, pure_bind, pure_bind, e2, List.append_assoc]
        exact ih ((n, c) :: acc) fun y hy => ha y (List.mem_cons_of_mem _ hy)
      | false =>
        have e2 : clOf env.cells ((n, k) :: r) = clOf env.cells r := by
          unfold clOf
          rw [List.filterMap_cons_none (by show (if (k == NameKind.free) = true then _ else none) = none; rw [hk]; rfl)]
        show (pure (ForInStep.yield acc) : Sem _) >>= _ = _
        rw [pure_bind, e2]
        exact ih acc fun y hy => ha y (List.mem_cons_of_mem _ hy)
  have := key scope.names [] h
  rw [List.append_nil] at this
  unfold closureFor
  rw [← this]
  exact (bind_pure _).trans rfl
theorem lookup_relabel_free {env : Env} (hk : env.scope.kind = .function) : ∀ {names : List (Str × NameKind)} {x : Str}, names.lookup x = some .free → env.scope.names.lookup x = some .cell →
    (names.map fun (n, k) => if (k == NameKind.free && env.scope.kind == .function && env.kindOf n == some .cell) then (n, NameKind.cell) else (n, k)).lookup x = some .cell
  | [], _, h, _ => by simp at h
  | (n, k) :: r, x, h, he => by
    have ih := @lookup_relabel_free env hk r x
    show List.lookup x ((if (k == NameKind.free && env.scope.kind == .function && env.kindOf n == some .cell) = true then (n, NameKind.cell) else (n, k)) :: _) = _
    cases hx : x == n with
    | true =>
      obtain rfl := eq_of_beq hx
      simp only [List.lookup_cons, hx] at h
      cases h
      have e : env.kindOf x = some .cell := he
      rw [hk, e]
      simp [List.lookup_cons]
    | false =>
      simp only [List.lookup_cons, hx] at h
      by_cases hc : (k == NameKind.free && env.scope.kind == .function && env.kindOf n == some .cell) = true
      · rw [if_pos hc]; simp only [List.lookup_cons, hx]; exact ih h he
      · rw [if_neg hc]; simp only [List.lookup_cons, hx]; exact ih h he
def capS (ρ : DS) (js : List Nat) : DS := js.map fun j => match (ρ[j]? : Option Sl) with
  | Option.some (Sl.some d) => Sl.some d
  | _ => Sl.none
section
variable {X : Cx} {fr : Fr} {osc scope : Scope} {x : Str} {caps : List Str} {js : List Nat} {N0 : List Str} {L : Addr} {a elt : Expr} {ta te : DTE} {px p0 pos pos1 : Pos}
end
section
variable {X : Cx} {a : Expr} {p0 pos : Pos}
theorem boot_intT : bootBuiltins "int" = some (.type "int") := by decide +kernel
end
end OD

namespace OD
variable {Z : Hp}
open PySem PySem.Spec PyProof.Rows L2
def dCompLC (js : List Nat) (ta te : DTE) : DTE := fun ρ Q => ta ρ fun d => ∃ (ds : List Dt) (Pv : Nat → List Dt → Prop), listOf d = some ds ∧ ds.length ≤ 100000 ∧ Pv 0 [] ∧
  (∀ (i : Nat) e es, ds[i]? = some e → Pv i es → te (.some e :: capS ρ js) fun y => Pv (i + 1) (es ++ [y])) ∧ ∀ es, Pv ds.length es → Q (.lst es)
section
variable {X : Cx} {fr : Fr} {osc scope : Scope} {x : Str} {caps : List Str} {js : List Nat} {N0 : List Str} {L : Addr} {iter elt : Expr} {ta te : DTE} {px pos : Pos}
end
end OD

namespace L2
open PySem PySem.Spec PyProof.Rows
section
variable {P : Program} {w : World} {H H' : Hp} {h B : Heap}
theorem HOk.part (x : HOk P w H h) (k : ∀ b u, H b ≠ none → h.get? b = some u → B.get? b = some u) : HOk P w H B := fun a o e =>
  (x a o e).stay (fun b u hb q => k b u (fun z => by rcases hb with rfl | y; (rw [e] at z; cases z); (rw [y] at z; cases z)) q) (fun _ q => q) fun _ _ q => q
theorem ObjOk.there {a : Addr} {o : HO} (x : ObjOk P w H h a o) : ∃ u, h.get? a = some u := by
  cases o with
  | lst xs => obtain ⟨_, _, _, _, e⟩ := x; exact ⟨_, e⟩
  | tup xs => obtain ⟨_, _, _, o, e, _⟩ := x; exact ⟨_, e⟩
  | dK kvs => obtain ⟨_, _, _, _, o, _, _, e, _⟩ := x; exact ⟨_, e⟩
  | dT kvs => obtain ⟨_, _, _, _, o, _, _, e, _⟩ := x; exact ⟨_, e⟩
  | set S n => obtain ⟨o, _, _, _, e, _⟩ := x; exact ⟨_, e⟩
  | ins C dx fs => obtain ⟨_, _, _, e, _⟩ := x; exact ⟨_, e⟩
  | own y => exact x
  | xd fs => obtain ⟨_, ⟨_, _, _, e, _⟩, _⟩ := x; exact ⟨_, e⟩
  | rng lo hi => obtain ⟨_, _, _, e⟩ := x; exact ⟨_, e⟩
  | frz ob u => obtain ⟨e, _⟩ := x; exact ⟨_, e⟩
  | tbl ps => exact ⟨_, (show h.get? a = some _ from x)⟩
  | met f y => exact ⟨_, (show h.get? a = some _ from x)⟩
  | ext φ => obtain ⟨_, e, _⟩ := x; exact e
end
structure Flies (P : Program) (w : World) (stack : List Env) (H : Hp) (h0 : Heap) (H' : Hp) (e : Addr) (cls : Value) (h : Heap) : Prop where
  ex : ∃ B a0, Heap.FlyingW B stack e cls a0 h ∧ (∀ b o, h0.get? b = some o → H b = none → b ∉ frs stack → B.get? b = some o) ∧ (∀ b o, h0.get? b = some o → b ∉ frs stack → ∃ o', B.get? b = some o') ∧ HOk P w H' B
  slot : ∀ b o, h0.get? b = some o → b ∈ frs stack → ∃ sl, h.get? b = some { o with slots := sl }
  free : ∀ b o, h0.get? b = some o → H b = none → H' b = none
  tups : ∀ b xs, H b = some (.tup xs) → H' b = some (.tup xs)
  frzs : ∀ b o u, H b = some (.frz o u) → H' b = some (.frz o u)
  tbls : ∀ b ps, H b = some (.tbl ps) → ∃ more, H' b = some (.tbl (ps ++ more))
  new : h0.get? e = none
section
variable {P : Program} {w : World} {stack : List Env} {H H' : Hp} {h0 h : Heap} {e : Addr} {cls : Value}
theorem Flies.un (f : Flies P w stack H h0 H' e cls h) : Un (frs stack) [] H H' h0 h := by
  obtain ⟨B, a0, ⟨st, _, _, _⟩, k1, k2, _⟩ := f.ex
  refine ⟨fun b o q n hb _ => st b o (k1 b o q n hb), fun b o q _ hb _ => f.slot b o q hb, fun b o q n _ => f.free b o q n, fun b o q _ => ?_, f.tups, f.frzs, f.tbls⟩
  by_cases hb : b ∈ frs stack
  · obtain ⟨sl, z⟩ := f.slot b o q hb
    exact ⟨_, z⟩
  · obtain ⟨o', z⟩ := k2 b o q hb
    exact ⟨o', st b o' z⟩
theorem Flies.hok (f : Flies P w stack H h0 H' e cls h) : HOk P w H' h := by
  obtain ⟨B, a0, ⟨st, _, _, _⟩, _, _, k3⟩ := f.ex
  exact k3.kept st
theorem Flies.go (f : Flies P w stack H h0 H' e cls h) : ∃ B a0, Heap.FlyingW B stack e cls a0 h ∧ ∀ h', Heap.FlyingW B stack e cls a0 h' → h.UpToSlots h' → Flies P w stack H h0 H' e cls h' := by
  obtain ⟨B, a0, fl, k1, k2, k3⟩ := f.ex
  refine ⟨B, a0, fl, fun h' fl' up => ⟨⟨B, a0, fl', k1, k2, k3⟩, fun b o q hb => ?_, f.free, f.tups, f.frzs, f.tbls, f.new⟩⟩
  obtain ⟨sl, z⟩ := f.slot b o q hb
  obtain ⟨_, ob, ho, hd⟩ := fl.2.2.1.mem hb
  rw [z] at ho
  cases ho
  obtain ⟨sl', z'⟩ := up b _ z hd
  exact ⟨sl', z'⟩
end
section
variable {X : Cx} {pins : List (Addr × Obj)} {σ : St} {H H' : Hp} {s s' : Shared} {M : Model} {E : Value → Shared → Prop} {e : Addr} {cls : Value}
theorem Inv.neL (I : Inv X pins σ H s) {b : Addr} {o : Obj} (q : X.s₀.heap.get? b = some o) : b ≠ X.env.locals := Nat.ne_of_lt (Nat.lt_of_lt_of_le (Heap.lt_size q) I.ok.above)
theorem fly_made {vs : List Value} {h1 : Heap} {Q : Unit → Shared → Prop} (I : Inv X pins σ H s) (hstk : X.stack = X.env :: X.outer) (hf : X.env.frame = some X.env.locals) (hex : X.ex = []) (hx : Heap.MadeExcOf s.heap h1 e cls vs)
    (hQ : ∀ h', Flies X.prog X.w X.outer X.H₀ X.s₀.heap H e cls h' → Q () { s with heap := h' }) : wpAny M X.A (leaving X.env (.ref e)) Q E { s with heap := h1 } := by
  have hfr : X.A.frames = some (X.env :: X.outer) := by rw [← hstk]; exact I.ok.frames
  have hfs : frs X.stack = X.env.locals :: frs X.outer := by rw [hstk]; unfold frs; rw [List.filterMap_cons, hf]
  have hl : s.heap.FunFrames (PySem.W.hideAll s.heap (frs X.stack)) (X.env :: X.outer) := by
    have z := I.stack
    rw [hstk] at z
    refine PySem.W.funFrames_hide z fun env he a ha => ?_
    rw [hstk]
    exact List.mem_filterMap.mpr ⟨env, he, ha⟩
  have nx : ∀ b, b ∉ X.ex := fun b z => by rw [hex] at z; cases z
  have nst : ∀ b o, X.s₀.heap.get? b = some o → b ∉ frs X.outer → b ∉ frs X.stack := fun b o q nb z => by
    rw [hfs] at z
    rcases List.mem_cons.mp z with z | z
    · exact I.neL q z
    · exact nb z
  refine PySem.wpAny_leaves_madeW (s := { s with heap := h1 }) (h := s.heap) (base := PySem.W.hideAll s.heap (frs X.stack)) hfr hf (fun b o q => PySem.W.of_hideAll _ q) hl hx fun h' t x1 x2 x3 x4 => hQ h' ⟨⟨_, _, x1, fun b o q n nb => ?_, fun b o q nb => ?_, ?_⟩, fun b o q hb => ?_, fun b o q n => I.base.free b o q n (nx b), I.base.tups, I.base.frzs, I.base.tbls, ?_⟩
  · exact PySem.W.hideAll_get _ (I.base.keep b o q n nb (nx b)) (nst b o q nb)
  · obtain ⟨o', z⟩ := I.base.there b o q (nx b)
    exact ⟨o', PySem.W.hideAll_get _ z (nst b o q nb)⟩
  · exact I.hok.part fun b u hb q => PySem.W.hideAll_get _ q fun z => hb (I.stkFree b z)
  · obtain ⟨sl, z⟩ := I.base.slot b o q (I.ok.frf b hb) hb (nx b)
    obtain ⟨_, ob, ho, hd⟩ := I.funs.mem hb
    rw [z] at ho
    cases ho
    obtain ⟨sl', z'⟩ := x4 b _ (hx.keeps b _ z) hd
    exact ⟨sl', z'⟩
  · cases q : X.s₀.heap.get? e with
    | none => rfl
    | some o =>
      obtain ⟨o', z⟩ := I.base.there e o q (nx e)
      rw [hx.new] at z; cases z
theorem fly_on {Q : Unit → Shared → Prop} (I : Inv X pins σ H s) (hstk : X.stack = X.env :: X.outer) (hf : X.env.frame = some X.env.locals) (hex : X.ex = []) (f : Flies X.prog X.w X.stack H s.heap H' e cls s'.heap)
    (hQ : ∀ h', Flies X.prog X.w X.outer X.H₀ X.s₀.heap H' e cls h' → Q () { s' with heap := h' }) : wpAny M X.A (leaving X.env (.ref e)) Q E s' := by
  have hfr : X.A.frames = some (X.env :: X.outer) := by rw [← hstk]; exact I.ok.frames
  have hfs : frs X.stack = X.env.locals :: frs X.outer := by rw [hstk]; unfold frs; rw [List.filterMap_cons, hf]
  have nx : ∀ b, b ∉ X.ex := fun b z => by rw [hex] at z; cases z
  have nst : ∀ b o, X.s₀.heap.get? b = some o → b ∉ frs X.outer → b ∉ frs X.stack := fun b o q nb z => by
    rw [hfs] at z
    rcases List.mem_cons.mp z with z | z
    · exact I.neL q z
    · exact nb z
  obtain ⟨B, a0, fl, k1, k2, k3⟩ := f.ex
  have fl' := fl
  rw [hstk] at fl'
  refine PySem.wpAny_leaves_onW hfr hf fl' fun h' x1 x2 => hQ h' ⟨⟨B, a0, x1, fun b o q n nb => ?_, fun b o q nb => ?_, k3⟩, fun b o q hb => ?_, fun b o q n => ?_, fun b xs q => f.tups b xs (I.base.tups b xs q), fun b o u q => f.frzs b o u (I.base.frzs b o u q), fun b ps q => ?_, ?_⟩
  · exact k1 b o (I.base.keep b o q n nb (nx b)) (I.base.free b o q n (nx b)) (nst b o q nb)
  · obtain ⟨o', z⟩ := I.base.there b o q (nx b)
    exact k2 b o' z (nst b o q nb)
  · obtain ⟨sl, z⟩ := I.base.slot b o q (I.ok.frf b hb) hb (nx b)
    have hb' : b ∈ frs X.stack := by rw [hfs]; exact List.mem_cons_of_mem _ hb
    obtain ⟨sl', z'⟩ := f.slot b _ z hb'
    obtain ⟨_, ob, ho, hd⟩ := fl.2.2.1.mem hb'
    rw [z'] at ho
    cases ho
    obtain ⟨sl2, z2⟩ := x2 b _ z' hd
    exact ⟨sl2, z2⟩
  · obtain ⟨o', z⟩ := I.base.there b o q (nx b)
    exact f.free b o' z (I.base.free b o q n (nx b))
  · obtain ⟨m1, e1⟩ := I.base.tbls b ps q
    obtain ⟨m2, e2⟩ := f.tbls b _ e1
    exact ⟨m1 ++ m2, by rw [e2, Array.append_assoc]⟩
  · cases q : X.s₀.heap.get? e with
    | none => rfl
    | some o =>
      obtain ⟨o', z⟩ := I.base.there e o q (nx e)
      rw [f.new] at z; cases z
end
def ExcK (K : PySem.W.Frag) (C : Addr) : Prop := PySem.W.excIn K C [.type "ValueError", .type "Exception", .type "BaseException", .type "object"] "ValueError.__new__" = true
theorem exc_obj {K : PySem.W.Frag} {h : Heap} {C : Addr} (X : K.In h) (q : ExcK K C) : ∃ bm N nm qn bs hdct sn sub ab col dd k0 k1 k2 k3 k5 mN, h.get? C = some (excClassObj nm qn C N bs bm hdct sn sub ab col dd k0 k1 k2 k3 k5 "ValueError.__new__") ∧ h.Ns N mN ∧ mN "__init__" = none ∧ OwnTail h [.type "ValueError", .type "Exception", .type "BaseException", .type "object"] bm := by
  unfold ExcK PySem.W.excIn at q
  split at q
  · rename_i d1 cl s1 look
    split at q
    · rename_i C1 tl w0 w1 w2 w3 nid w5 em es
      simp only [Bool.and_eq_true, Bool.not_eq_true', beq_iff_eq] at q
      obtain ⟨⟨⟨⟨⟨rfl, rfl⟩, q1⟩, q2⟩, q3⟩, q4⟩ := q
      obtain ⟨a1, a2, a3, a4, a5, a6, a7, a8, a9, b1, b2⟩ := cl
      dsimp only at em q1 q3 q4
      subst em q1
      obtain rfl : s1 = #[w0, w1, w2, w3, some (.builtin "ValueError.__new__"), w5] := by
        obtain ⟨l⟩ := s1
        simp only at es; rw [es]
      exact ⟨tl, a4, a1, a5, a2, a6, a7, a8, a9, b1, d1, w0, w1, w2, w3, w5, _, X _ _ look, .of_isNs (PySem.W.isNs_of_in X q3), PySem.W.nsMap_none_of_in X q3 q4, PySem.W.tail_of_in X q2⟩
    · cases q
  · cases q
def XOk (X : Cx) (C : Addr) (H : Hp) : Prop := ∀ (pins : List (Addr × Obj)) (σ : St) (s : Shared) (h1 : Heap) (e : Addr) (vs : List Value), Inv X pins σ H s → Heap.MadeExcOf s.heap h1 e (.ref C) vs → X.xe (.ref e) { s with heap := h1 }
def sRaise (X : Cx) (C : Addr) (te : TE) : TS := fun _ σ H => te σ H fun _ H1 => XOk X C H1
theorem ps_raise {X : Cx} {C : Addr} {x : Str} {a : Expr} {te : TE} {np cpos pos : Pos} (hc : X.calm = true) (hg : Gl X x) (hm : X.mg x = some (.ref C)) (hC : ExcK X.K C) (ha : PE X a te)
    (hdb : (x == ("__debug__" : Str)) = false := by decide) (he : starEach [a] X.env = (false, eval a X.env) :: starEach [] X.env := by rfl) : PS X (.Raise (some (.Call (.Name x np) [a] [] cpos)) none pos) (sRaise X C te) := by
  intro pins s σ H D I h
  obtain ⟨bm, N, nm, qn, bs, hdct, sn, sub, ab, col, dd, k0, k1, k2, k3, k5, mN, hO, hN, hni, T⟩ := exc_obj I.ok.mod.kin hC
  refine PySem.wpAny_Raise_call_subU (C := C) (nm := nm) (q := qn) (N := N) (bs := bs) (bm := bm) (hdct := hdct) (sn := sn) (sub := sub) (ab := ab) (col := col) (dd := dd) (k0 := k0) (k1 := k1) (k2 := k2) (k3 := k3) (k5 := k5)
    PySem.F.excBase_ValueError (by decide) PySem.F.excBase_ValueError (mN := mN) (T.hasType PySem.F.excBase_ValueError.hasBase) (I.ok.hd hc) (by rw [he]; rfl) hni (ld_glob I hg hm ⟨rfl, ?_⟩ hdb)
  have z := pa_cons ha pa_nil he cpos pins s σ H (fun us H1 => us.length = 1 ∧ XOk X C H1) I (show te σ H (fun x H1 => [x].length = 1 ∧ XOk X C H1) from by
    have h : te σ H (fun _ H1 => XOk X C H1) := h
    simpa using h)
  rw [he] at z ⊢
  refine Calls.evalArgs_plain (thn z fun vs s1 ⟨us, H1, I1, r, hl, q⟩ => ⟨rfl, ?_, I1.bk _ _ hO, hN.keeps I1.bk, T.keeps I1.bk, fun h' e hx => q pins σ s1 h' e vs I1 hx⟩)
  show vs.length ≤ _
  rw [← r.length, hl]
  decide
def CX1 (P : Program) (w : World) : CXT := fun outer H s E e s' => ∃ a C H', e = .ref a ∧ s'.os = s.os ∧ AllBare s'.gens ∧ Flies P w outer H s.heap H' a (.ref C) s'.heap ∧ E (.ref C) none H'
section
variable {P : Program} {w : World} {K : PySem.W.Frag} {mg : Str → Option Value} {base : Heap} {N : List Str} {qual : Str} {scope : Scope} {f C : Addr} {cd : Value} {A : Around} {outer : List Env} {s : Shared} {H H1 : Hp} {E : XK}
theorem xok_of (h : E (.ref C) none H1) : XOk (cxOf (CX1 P w) P w K mg base N qual scope f cd A outer s H E) C H1 := fun pins σ s' h1 e vs I hx =>
  fly_made (X := cxOf (CX1 P w) P w K mg base N qual scope f cd A outer s H E) I rfl rfl rfl hx fun h' fl => ⟨e, C, H1, rfl, I.os, I.bare, fl, h⟩
end
section
variable {X : Cx} {CX : CXT} {k : Nat} {f C : Addr} {fd : FuncData} {ps : List Str} {sp : Sp} {dvs : List V} {ds : List Value} {x y : Str} {p pos : Pos} {e : Expr} {es : List Expr} {t : TA}
def XPx (X : Cx) (pins : List (Addr × Obj)) (σ : St) (E : XK) (e : Value) (s' : Shared) : Prop := ∃ a C H' H1 s1, e = .ref a ∧ Inv X pins σ H1 s1 ∧ s'.os = s1.os ∧ AllBare s'.gens ∧ Flies X.prog X.w X.stack H1 s1.heap H' a (.ref C) s'.heap ∧ E (.ref C) none H'
theorem call_x (F : FnOk X.prog X.w X.K X.mg X.base (CX1 X.prog X.w) k f fd ps sp) (hr : Room k X.A) (hg : Gl X x) (hm : X.mg x = some (.ref f)) (hk : PySem.W.keepIn X.K (.ref f) = true) (hb : Binds X.K fd ps [])
    (ha : PA X.nox (e :: es) t) {pins : List (Addr × Obj)} {s : Shared} {σ : St} {H : Hp} {Q : VK} {E : XK} (I : Inv X pins σ H s) (h : t σ H fun vs H1 => sp vs H1 Q E)
    (hdb : (x == ("__debug__" : Str)) = false := by decide) (he : starEach (e :: es) X.env = (false, eval e X.env) :: starEach es X.env := by rfl) (hpl : (backTo pos (starEach es X.env)).any (·.1) = false := by rfl) :
    wpAny (model X.prog X.w) X.A (eval (.Call (.Name x p) (e :: es) [] pos) X.env) (EP X pins σ Q) (XPx X pins σ E) s := by
  refine wpAny_Call_Name_kw (ld_glob I hg hm ?_ hdb)
  refine PySem.W.callWith_K (h₀ := X.base) I.ok.mod.kin hk (wpAny_mono (ha pos pins s σ H _ (I.wish _) h) (fun us s1 ⟨vs, H1, I1, r, q⟩ => ⟨I1.unwish.kIn, ?_⟩) fun _ _ z => z.elim) he hpl
  have I1 := I1.unwish
  have hl : us.length = ps.length := by rw [← r.length]; exact F.len _ _ _ _ q
  refine wpAny_call (codeAny_mono (F.run X.A X.stack s1 H1 ⟨us, []⟩ us vs Q E hr I1.env0 ?_ r q) fun rr s' hq => ?_)
  · have z := hb s1 us I1.kIn (by rw [List.append_nil]; exact hl)
    rw [List.append_nil] at z
    exact z
  cases rr with
  | error e =>
    obtain ⟨a, C, H', ee, os, bare, fl, z⟩ := hq
    exact ⟨a, C, H', H1, s1, ee, I1, os, bare, fl, z⟩
  | ok fl =>
    cases fl with
    | ret u => exact I1.after hq
    | next => exact False.elim hq
    | brk => exact False.elim hq
    | cont => exact False.elim hq
end
abbrev TB := (St → Hp → Prop) → XK → St → Hp → Prop
def PB (X : Cx) (body : List Stmt) (t : TB) : Prop := ∀ (pins : List (Addr × Obj)) (s : Shared) (σ : St) (H : Hp) (nx : St → Hp → Prop) (E : XK), Inv X pins σ H s → t nx E σ H →
  wpAny (model X.prog X.w) X.A (execs body X.env) (fun f s' => f = .next ∧ ∃ σ' H', Inv X pins σ' H' s' ∧ nx σ' H') (XPx X pins σ E) s
def Cx.inH (X : Cx) (a : Addr) : Cx := { X with A := X.A.mark (some (.ref a)), calm := false, xe := fun _ _ => False }
section
variable {X : Cx} {pins : List (Addr × Obj)} {σ : St} {H : Hp} {s : Shared} {a : Addr}
theorem Inv.inH (I : Inv X pins σ H s) (a : Addr) : Inv (X.inH a) pins σ H s :=
  ⟨⟨I.ok.mod, I.ok.kind, I.ok.glob, I.ok.blt, I.ok.above, I.ok.inj, I.ok.has, I.ok.cab, fun z => Bool.noConfusion z, I.ok.frames, I.ok.stk, I.ok.exf, I.ok.bs, I.ok.bsz, I.ok.noex, I.ok.exfs, I.ok.funs, I.ok.frf⟩, I.os, I.bare, I.base, I.loc, I.cell, I.free, I.freeC, I.pin, I.hok, I.len⟩
theorem Inv.outH (ok : X.Ok) (I : Inv (X.inH a) pins σ H s) : Inv X pins σ H s := ⟨ok, I.os, I.bare, I.base, I.loc, I.cell, I.free, I.freeC, I.pin, I.hok, I.len⟩
theorem SP.outH {D : Ends} {f : Flow} {s' : Shared} (ok : X.Ok) (h : SP (X.inH a) pins D f s') : SP X pins D f s' := by
  cases f with
  | next => obtain ⟨σ', H', I, q⟩ := h; exact ⟨σ', H', I.outH ok, q⟩
  | brk => obtain ⟨σ', H', I, q⟩ := h; exact ⟨σ', H', I.outH ok, q⟩
  | cont => obtain ⟨σ', H', I, q⟩ := h; exact ⟨σ', H', I.outH ok, q⟩
  | ret u => obtain ⟨v, σ', H', I, r, q⟩ := h; exact ⟨v, σ', H', I.outH ok, r, q⟩
end
section
variable {X : Cx} {t : TB} {th : TS} {y : Str} {c : Value} {py hpos pos : Pos} {body : List Stmt} {b₀ : Stmt} {suite : List Stmt}
def sTry (K : PySem.W.Frag) (c : Value) (t : TB) (th : TS) : TS := fun D σ H => t D.nx (fun cls _ H' => PySem.W.exmOne K cls c = some true ∧ th D σ H') σ H
theorem ps_try (hstk : X.stack = X.env :: X.outer) (hf : X.env.frame = some X.env.locals) (hb : PB X body t) (hh : ∀ a, PSs (X.inH a) (b₀ :: suite) th) (hg : Gl X y) (hm : X.mg y = some c) (hd : (y == ("__debug__" : Str)) = false := by decide) :
    PS X (.Try body [.ExceptHandler (some (.Name y py)) none (b₀ :: suite) hpos] [] [] pos) (sTry X.K c t th) := by
  intro pins s σ H D I h
  have hfr : X.A.frames = some (X.env :: X.outer) := by rw [← hstk]; exact I.ok.frames
  refine wpAny_Try_except (wpAny_mono (hb pins s σ H _ _ I h) (fun f s1 ⟨ef, σ', H', I', q⟩ => ?_) fun e s1 hx => ?_)
  · subst ef
    exact wpAny_execs_nil ⟨σ', H', I', q⟩
  · obtain ⟨a, C, H', H1, s2, rfl, I1, os, bare, fl, hex, hth⟩ := hx
    obtain ⟨B, a0, fl0, go⟩ := fl.go
    have inv : ∀ h', Heap.FlyingW B X.stack a (.ref C) a0 h' → s1.heap.UpToSlots h' → Inv X pins σ H' { s1 with heap := h' } := fun h' x1 x2 =>
      have f' := go h' x1 x2
      I1.call' (s' := { s1 with heap := h' }) os f'.un f'.hok bare (fun _ z => nomatch z)
    rw [hstk] at fl0
    refine wpAny_looks_onW hfr hf fl0 fun h4 held4 up4 => ?_
    refine wpAny_landsW held4 fun h5 fl5 up5 => ?_
    have I5 := inv h5 (by rw [hstk]; exact fl5) (up4.trans up5)
    obtain ⟨ob, hob, hoc⟩ := fl5.there
    have ty : PySem.W.Looks (model X.prog X.w) h5 (typeOf (.ref a)) (.ref C) := by rw [← hoc]; exact (PySem.W.Looks.ld hob).andThen .now
    refine wpAny_handleBy_cons (codeAny_handlers_test (ld_glob (X := X.inH a) (I5.inH a) hg hm ((PySem.W.exm_one I5.kIn ty hex).here ?_) hd)) (by intro q; cases q)
    refine codeAny_handlers_suite ?_
    refine lands_againW fl5 fun h6 fl6 up6 => ?_
    have I6 := inv h6 (by rw [hstk]; exact fl6) ((up4.trans up5).trans up6)
    exact wpAny_mono (hh a pins _ σ H' D (I6.inH a) hth) (fun f s3 q => SP.outH I.ok q) fun _ _ z => z.elim
end
section
variable {X : Cx} {pins : List (Addr × Obj)} {σ : St} {H : Hp} {s : Shared}
end
section
variable {X : Cx} {t : TB} {th : TS} {y n : Str} {j : Nat} {c : Value} {py hpos pos : Pos} {body : List Stmt} {b₀ : Stmt} {suite : List Stmt}
end
end L2
namespace L2
open PySem PySem.Spec PyProof.Rows PySem.W PySem.Builtin PySem.Builtin.ObjectAttr PySem.Builtin.Getset_descriptor
structure IsxOk (K : PySem.W.Frag) (C : Addr) : Prop where
  ga : PySem.W.findIn K (.ref C) "__getattribute__" = some (some (.builtin "BaseException.__getattribute__"))
  gn : PySem.W.findIn K (.ref C) "__getattr__" = some none
  ha : PySem.W.findIn K (.ref C) "__class__" = some (some (.builtin "object.__class__"))
  hn : PySem.W.specialIn K (.builtin "object.__class__") "__get__" = some (some (.builtin "getset_descriptor.__get__"))
  htk : PySem.W.takesIn K (.builtin "object.__class__") = some true
  hm : PySem.W.mroIn K C (.type "object") = some true
  hb : PySem.W.mroIn K C (.type "BaseException") = some true
section
variable {prog : Program} {w : World} {A : Around} {E : Value → Shared → Prop} {s : Shared} {K : PySem.W.Frag} {a C : Addr} {oa : Obj}
end
end L2
namespace OD
open PySem PySem.Spec PyProof.Rows L2
variable {Z : Hp}
def XOn (X : Cx) (C : Addr) (H' : Hp) : Prop := ∀ (pins : List (Addr × Obj)) (σ : L2.St) (H : Hp) (s : Shared) (a : Addr) (s' : Shared), Inv X pins σ H s → s'.os = s.os → AllBare s'.gens → Flies X.prog X.w X.stack H s.heap H' a (.ref C) s'.heap → X.xe (.ref a) s'
def Ecan (X : Cx) : XK := fun cls _ H' => ∃ C, cls = .ref C ∧ XOn X C H'
theorem pass_can {X : Cx} : Passes (CX1 X.prog X.w) X (Ecan X) := fun pins σ H s e s' I ⟨a, C, H', ee, os, bare, fl, C', ec, h⟩ => by
  cases ec
  subst ee
  exact h pins σ H s a s' I os bare fl
def Rz (X : Cx) (C : Addr) : Prop := ∀ H', Same (Zx X) H' → XOk X C H' ∧ XOn X C H'
section
variable {P : Program} {w : World} {K : PySem.W.Frag} {mg : Str → Option Value} {base : Heap} {N : List Str} {qual : Str} {scope : Scope} {f C : Addr} {cd : Value} {A : Around} {outer : List Env} {s : Shared} {H H1 : Hp} {E : XK}
theorem rz_of (h : ∀ H', Same H H' → E (.ref C) none H') : Rz (cxOf (CX1 P w) P w K mg base N qual scope f cd A outer s H E) C := fun H' z => by
  rw [zx_def] at z
  refine ⟨xok_of (h H' z), fun pins σ H2 s2 a s' I os bare fl => ?_⟩
  exact fly_on (X := cxOf (CX1 P w) P w K mg base N qual scope f cd A outer s H E) I rfl rfl rfl fl fun h' fl' => ⟨a, C, H', rfl, os.trans I.os, bare, fl', h H' z⟩
end
abbrev DSpX := List Dt → (Dt → Prop) → (Addr → Prop) → Prop
def PureSpX (K : PySem.W.Frag) (S : DSpX) : Sp := fun vs H Q E => ∃ (W : Vw) (ds : List Dt) (Qd : Dt → Prop) (Ed : Addr → Prop), W.h = H ∧ AllIs K W.g ds vs ∧ S ds Qd Ed ∧ (∀ d v W', Le W W' → Is K W'.g d v → Qd d → Q v W'.h) ∧ ∀ C H', Same W.h H' → Ed C → E (.ref C) none H'
def FreshSpX (K : PySem.W.Frag) (S : DSpX) : Sp := fun vs H Q E => ∃ (W : Vw) (ds : List Dt) (Qd : Dt → Prop) (Ed : Addr → Prop), W.h = H ∧ AllIs K W.g ds vs ∧ S ds Qd Ed ∧
  (∀ es p xs W', Le W W' → W.h p = none → W'.h p = some (.lst xs) → W'.g p = none → AllIs K W'.g es xs → Qd (.lst es) → Q (.ref p) W'.h) ∧ ∀ C H', Same W.h H' → Ed C → E (.ref C) none H'
structure DOkX (P : Program) (w : World) (K : PySem.W.Frag) (mg : Str → Option Value) (base : Heap) (n : Nat) (x : Str) (S : DSpX) : Prop where
  ex : ∃ f fd ps, mg x = some (.ref f) ∧ PySem.W.keepIn K (.ref f) = true ∧ Binds K fd ps [] ∧ FnOk P w K mg base (CX1 P w) n f fd ps (PureSpX K S)
structure FOkX (P : Program) (w : World) (K : PySem.W.Frag) (mg : Str → Option Value) (base : Heap) (n : Nat) (x : Str) (S : DSpX) : Prop where
  ex : ∃ f fd ps, mg x = some (.ref f) ∧ PySem.W.keepIn K (.ref f) = true ∧ Binds K fd ps [] ∧ FnOk P w K mg base (CX1 P w) n f fd ps (FreshSpX K S)
section
variable {P : Program} {w : World} {K : PySem.W.Frag} {mg : Str → Option Value} {base : Heap}
theorem Fun.okX {CX : CXT} {x qual : Str} {st : Stmt} {f : Addr} {fd : FuncData} {N ps : List Str} {k : Nat} {sp : Sp} (F : Fun K x qual st f fd) (S : FnScope N ps (defScope st)) (len : ∀ vs H Q E, sp vs H Q E → vs.length = ps.length)
    (hbody : ∀ (cdv : Value) (A : Around) (outer : List Env) (s : Shared) (H : Hp) (vs : List V) (Q : VK) (E : XK), Room k (A.deeper (envOfC qual (defScope st) s.heap.objs.size f cdv)) → sp vs H Q E →
      ∃ t, PSs (cxOf CX P w K mg base N qual (defScope st) f cdv A outer s H E) (defBody st) t ∧ t { nx := fun _ H' => Q .non H', rt := Q } (start N vs) H) : FnOk P w K mg base CX (k + 1) f fd ps sp := by
  obtain ⟨oc, od, kV, doc, pm, an, cdv, ct, osl, rfl, lk, hcd⟩ := F.ex
  exact fn_of lk hcd S len fun A outer s H vs Q E hr h => hbody cdv A outer s H vs Q E hr h
theorem okDX {x qual : Str} {st : Stmt} {f : Addr} {fd : FuncData} {N ps : List Str} {k : Nat} {S : DSpX} (F : Fun K x qual st f fd) (sc : FnScope N ps (defScope st)) (len : ∀ ds Q R, S ds Q R → ds.length = ps.length)
    (hbody : ∀ (cdv : Value) (A : Around) (outer : List Env) (s : Shared) (H : Hp) (E : XK), Room k (A.deeper (envOfC qual (defScope st) s.heap.objs.size f cdv)) → ∀ (ds : List Dt) (Q : Dt → Prop) (R : Addr → Prop), S ds Q R →
      (∀ C, R C → Rz (cxOf (CX1 P w) P w K mg base N qual (defScope st) f cdv A outer s H E) C) →
      ∃ t, DSs (cxOf (CX1 P w) P w K mg base N qual (defScope st) f cdv A outer s H E) .d (defBody st) t ∧ t { nx := fun _ => Q .non, rt := Q } (dstart N.length ds)) : FnOk P w K mg base (CX1 P w) (k + 1) f fd ps (PureSpX K S) := by
  refine Fun.okX F sc (fun vs H Q E h => ?_) (fun cdv A outer s H vs Q E hr h => ?_)
  · obtain ⟨W, ds, Qd, Ed, _, ia, hS, _⟩ := h
    rw [← ia.length]
    exact len ds Qd Ed hS
  obtain ⟨W, ds, Qd, Ed, rfl, ia, hS, kk, ke⟩ := h
  obtain ⟨t, ⟨ts, p, l⟩, ht⟩ := hbody cdv A outer s W.h E hr ds Qd Ed hS fun C hC => rz_of fun H' z => ke C H' z hC
  refine ⟨ts, p, l W W.g (dstart N.length ds) (start N vs) W { nx := fun _ => Qd .non, rt := Qd } _ (at_start ia (zx_stk (Nat.succ_ne_self _))) ⟨fun ρ σ W' a q => kk .non .non W' a.le (is_non.mpr rfl) q, fun d v W' s' i' q => kk d v W' s' i' q, fun _ _ _ _ q => q.elim, fun _ _ _ _ q => q.elim⟩ ht⟩
theorem DOkX.mk' {x qual : Str} {st : Stmt} {f : Addr} {fd : FuncData} {ps : List Str} {n : Nat} {S : DSpX} (F : Fun K x qual st f fd) (hm : mg x = some (.ref f)) (hb : Binds K fd ps []) (h : FnOk P w K mg base (CX1 P w) n f fd ps (PureSpX K S)) : DOkX P w K mg base n x S :=
  ⟨f, fd, ps, hm, F.kp, hb, h⟩
theorem FOkX.mk' {x qual : Str} {st : Stmt} {f : Addr} {fd : FuncData} {ps : List Str} {n : Nat} {S : DSpX} (F : Fun K x qual st f fd) (hm : mg x = some (.ref f)) (hb : Binds K fd ps []) (h : FnOk P w K mg base (CX1 P w) n f fd ps (FreshSpX K S)) : FOkX P w K mg base n x S :=
  ⟨f, fd, ps, hm, F.kp, hb, h⟩
theorem DOkX.mono {x : Str} {m n : Nat} {S : DSpX} (h : DOkX P w K mg base m x S) (hl : m ≤ n) : DOkX P w K mg base n x S :=
  let ⟨f, fd, ps, h1, h2, h3, h4⟩ := h.ex; ⟨f, fd, ps, h1, h2, h3, h4.mono hl⟩
theorem FOkX.mono {x : Str} {m n : Nat} {S : DSpX} (h : FOkX P w K mg base m x S) (hl : m ≤ n) : FOkX P w K mg base n x S :=
  let ⟨f, fd, ps, h1, h2, h3, h4⟩ := h.ex; ⟨f, fd, ps, h1, h2, h3, h4.mono hl⟩
end
section
variable {X : Cx} {e a : Expr} {es : List Expr} {t : DTA} {ta : DTE} {n : Nat} {x y : Str} {S : DSpX} {p pos np cpos : Pos} {fr : Fr} {C : Addr}
theorem rl_zx {F : Hp} {W : Vw} {ρ : DS} {σ : L2.St} {K : PySem.W.Frag} (r : Rl K Z F W ρ σ) : Same Z W.h := r.z.trans r.fr
def dCallX (X : Cx) (S : DSpX) (t : DTA) : DTE := fun ρ Q => t ρ fun ds => S ds Q (Rz X)
theorem de_callX (G : DOkX X.prog X.w X.K X.mg X.base n x S) (hr : Room n X.A) (hg : Gl X x) (ha : DA X (e :: es) t) (hdb : (x == ("__debug__" : Str)) = false := by decide)
    (he : starEach (e :: es) X.env = (false, eval e X.env) :: starEach es X.env := by rfl) (hpl : (backTo pos (starEach es X.env)).any (·.1) = false := by rfl) : DE X (.Call (.Name x p) (e :: es) [] pos) (dCallX X S t) := by
  obtain ⟨f, fd, ps, hm, hk, hb, F⟩ := G.ex
  obtain ⟨te, p1, l1⟩ := ha
  refine ⟨_, pe_call F hr hg hm hk hb .nil pass_can p1 hdb he hpl, fun ρ σ H Q r h R k => l1 ρ σ H _ r h _ fun ds vs H1 s1 i1 q1 => ?_⟩
  rw [List.append_nil]
  exact ⟨H1, ds, Q, Rz X, rfl, i1, q1, fun d v H2 s2 i2 q2 => k d v H2 (s1.trans s2) i2 q2, fun C H' s' hC => ⟨C, rfl, (hC H' (((rl_zx r).trans s1.h).trans s')).2⟩⟩
def dRaise (X : Cx) (C : Addr) (ta : DTE) : DTS := fun _ ρ => ta ρ fun _ => Rz X C
theorem ds_raise (hc : X.calm = true) (hg : Gl X x) (hm : X.mg x = some (.ref C)) (hC : ExcK X.K C) (ha : DE X a ta) (hdb : (x == ("__debug__" : Str)) = false := by decide)
    (he : starEach [a] X.env = (false, eval a X.env) :: starEach [] X.env := by rfl) : DSt X fr (.Raise (some (.Call (.Name x np) [a] [] cpos)) none pos) (dRaise X C ta) := by
  obtain ⟨te, p1, l1⟩ := ha
  exact ⟨_, ps_raise hc hg hm hC p1 hdb he, fun W0 G ρ σ W D D' at_ s h => l1 ρ σ W _ at_.rl h _ fun d v W1 s1 i1 q1 => (q1 W1.h ((rl_zx at_.rl).trans s1.h)).1⟩
def liftS (K : PySem.W.Frag) (Z : Hp) (fr : Fr) (t : DTS) : TS := fun D' σ H => ∃ (W0 : Vw) (G : Hp) (ρ : DS) (W : Vw) (D : DEnds), W.h = H ∧ At K Z W0 G W ρ σ ∧ Sim K Z fr W0 G D D' ∧ t D ρ
theorem DSs.up {sts : List Stmt} {t : DTS} (h : DSs X fr sts t) : PSs X sts (liftS X.K (Zx X) fr t) := by
  obtain ⟨ts, p, l⟩ := h
  intro pins s σ H D' I q
  obtain ⟨W0, G, ρ, W, D, rfl, a, sm, ht⟩ := q
  exact p pins s σ W.h D' I (l W0 G ρ σ W D D' a sm ht)
def Vw.at (W : Vw) (H' : Hp) (s : Same W.h H') : Vw := ⟨W.g, H', W.sub.trans s⟩
theorem le_at {W : Vw} {H' : Hp} (s : Same W.h H') : Le W (W.at H' s) := ⟨Same.refl _, s, fun _ _ h => h⟩
def dTry (K : PySem.W.Frag) (c : Value) (S : DSpX) (t : DTA) (th : DTS) : DTS := fun D ρ => t ρ fun ds => S ds (fun _ => D.nx ρ) fun C => PySem.W.exmOne K (.ref C) c = some true ∧ th D ρ
variable {b₀ : Stmt} {suite : List Stmt} {th : DTS} {c : Value} {py hpos epos tpos : Pos}
theorem pb_expr {f : Addr} {fd : FuncData} {ps : List Str} {sp : Sp} {te : TA} (F : FnOk X.prog X.w X.K X.mg X.base (CX1 X.prog X.w) n f fd ps sp) (hr : Room n X.A) (hg : Gl X x) (hm : X.mg x = some (.ref f)) (hk : PySem.W.keepIn X.K (.ref f) = true) (hb : Binds X.K fd ps []) (ha : PA X.nox (e :: es) te)
    (hs : swapsWith (.Call (.Name x p) (e :: es) [] pos) none epos.line X.env = pure false := by rfl) (hdb : (x == ("__debug__" : Str)) = false := by decide)
    (he : starEach (e :: es) X.env = (false, eval e X.env) :: starEach es X.env := by rfl) (hpl : (backTo pos (starEach es X.env)).any (·.1) = false := by rfl) :
    PB X [.Expr (.Call (.Name x p) (e :: es) [] pos) epos] (fun nx E σ H => te σ H fun vs H1 => sp vs H1 (fun _ H2 => nx σ H2) E) := by
  intro pins s σ H nx E I h
  refine wpAny_execs_cons (wpAny_Expr_any (thn (call_x F hr hg hm hk hb ha I h hdb he hpl) fun v s1 ⟨x, H1, I1, r1, q1⟩ => ?_) I.quiet hs)
  exact wpAny_execs_nil ⟨rfl, σ, H1, I1, q1⟩
theorem ds_try (hstk : X.stack = X.env :: X.outer) (hf : X.env.frame = some X.env.locals) (G : DOkX X.prog X.w X.K X.mg X.base n x S) (hr : Room n X.A) (hg : Gl X x) (ha : DA X.nox (e :: es) t) (hh : ∀ a, DSs (X.inH a) fr (b₀ :: suite) th) (hgy : Gl X y) (hmy : X.mg y = some c)
    (hs : swapsWith (.Call (.Name x p) (e :: es) [] pos) none epos.line X.env = pure false := by rfl) (hdb : (x == ("__debug__" : Str)) = false := by decide) (hdy : (y == ("__debug__" : Str)) = false := by decide)
    (he : starEach (e :: es) X.env = (false, eval e X.env) :: starEach es X.env := by rfl) (hpl : (backTo pos (starEach es X.env)).any (·.1) = false := by rfl) :
    DSt X fr (.Try [.Expr (.Call (.Name x p) (e :: es) [] pos) epos] [.ExceptHandler (some (.Name y py)) none (b₀ :: suite) hpos] [] [] tpos) (dTry X.K c S t th) := by
  obtain ⟨f, fd, ps, hm, hk, hb, F⟩ := G.ex
  obtain ⟨te, p1, l1⟩ := ha
  refine ⟨_, ps_try (th := liftS X.K (Zx X) fr th) hstk hf (pb_expr F hr hg hm hk hb p1 hs hdb he hpl) (fun a => (hh a).up) hgy hmy hdy, fun W0 G ρ σ W D D' at_ s h => ?_⟩
  refine l1 ρ σ W _ at_.rl h _ fun ds vs W1 s1 i1 q1 => ⟨W1, ds, _, _, rfl, i1, q1, fun d v W2 s2 i2 q2 => s.nx ρ σ W2 ((at_.step s1).step s2) q2, fun C H' s' ⟨e1, e2⟩ => ⟨e1, W0, G, ρ, W1.at H' s', D, rfl, (at_.step s1).step (le_at s'), s, e2⟩⟩
end
section
variable {X : Cx} {e : Expr} {es : List Expr} {t : DTA} {n : Nat} {x y m : Str} {i j : Nat} {S : DSpX} {p pos py hpos epos tpos : Pos} {fr : Fr} {b₀ : Stmt} {suite : List Stmt} {th : DTS} {c : Value}
theorem pb_set {f : Addr} {fd : FuncData} {ps : List Str} {sp : Sp} {te : TA} (hN : X.N.Nodup) (hi : X.N[i]? = some m) (hx : Loc X.env.scope m) (F : FnOk X.prog X.w X.K X.mg X.base (CX1 X.prog X.w) n f fd ps sp) (hr : Room n X.A) (hg : Gl X x) (hm : X.mg x = some (.ref f)) (hk : PySem.W.keepIn X.K (.ref f) = true) (hb : Binds X.K fd ps []) (ha : PA X.nox (e :: es) te)
    (hs : swapsWith (.Call (.Name x p) (e :: es) [] pos) (some (.Name m py)) epos.line X.env = pure false := by rfl) (hdb : (x == ("__debug__" : Str)) = false := by decide)
    (he : starEach (e :: es) X.env = (false, eval e X.env) :: starEach es X.env := by rfl) (hpl : (backTo pos (starEach es X.env)).any (·.1) = false := by rfl) (hf : X.fn m = true ∨ X.env.scope.names.lookup m = some .local := by first | exact .inl rfl | exact .inr rfl | assumption) :
    PB X [.Assign [.Name m py] (.Call (.Name x p) (e :: es) [] pos) epos] (fun nx E σ H => te σ H fun vs H1 => sp vs H1 (fun v H2 => nx (σ.set i (some v)) H2) E) := by
  intro pins s σ H nx E I h
  refine wpAny_execs_cons (wpAny_Assign_Name (thn (call_x F hr hg hm hk hb ha I h hdb he hpl) fun v s1 ⟨y, H1, I1, r1, q1⟩ => ?_) hs)
  exact store_ok I1 hN hi hx r1 (fun s2 I2 => wpAny_execs_nil ⟨rfl, _, H1, I2, q1⟩) hf
def dTrySet (K : PySem.W.Frag) (c : Value) (i : Nat) (S : DSpX) (t : DTA) (th : DTS) : DTS := fun D ρ => t ρ fun ds => S ds (fun d => D.nx (ρ.set i (.some d))) fun C => PySem.W.exmOne K (.ref C) c = some true ∧ th D ρ
theorem ds_trySet {m2 : Str} {pm : Pos} (hstk : X.stack = X.env :: X.outer) (hf : X.env.frame = some X.env.locals) (hN : X.N.Nodup) (hi : X.N[i]? = some m) (hx : Loc X.env.scope m) (G : DOkX X.prog X.w X.K X.mg X.base n x S) (hr : Room n X.A) (hg : Gl X x) (ha : DA X.nox (e :: es) t) (hh : ∀ a, DSs (X.inH a) fr (b₀ :: suite) th) (hgy : Gl X y) (hmy : X.mg y = some c)
    (hs : swapsWith (.Call (.Name x p) (e :: es) [] pos) (some (.Name m pm)) epos.line X.env = pure false := by rfl) (hdb : (x == ("__debug__" : Str)) = false := by decide) (hdy : (y == ("__debug__" : Str)) = false := by decide)
    (he : starEach (e :: es) X.env = (false, eval e X.env) :: starEach es X.env := by rfl) (hpl : (backTo pos (starEach es X.env)).any (·.1) = false := by rfl) (hfm : X.fn m = true ∨ X.env.scope.names.lookup m = some .local := by first | exact .inl rfl | exact .inr rfl | assumption) :
    DSt X fr (.Try [.Assign [.Name m pm] (.Call (.Name x p) (e :: es) [] pos) epos] [.ExceptHandler (some (.Name y py)) none (b₀ :: suite) hpos] [] [] tpos) (dTrySet X.K c i S t th) := by
  obtain ⟨f, fd, ps, hm, hk, hb, F⟩ := G.ex
  obtain ⟨te, p1, l1⟩ := ha
  refine ⟨_, ps_try (th := liftS X.K (Zx X) fr th) hstk hf (pb_set hN hi hx F hr hg hm hk hb p1 hs hdb he hpl hfm) (fun a => (hh a).up) hgy hmy hdy, fun W0 G ρ σ W D D' at_ s h => ?_⟩
  exact l1 ρ σ W _ at_.rl h _ fun ds vs W1 s1 i1 q1 => ⟨W1, ds, _, _, rfl, i1, q1, fun d v W2 s2 i2 q2 => s.nx _ _ W2 (((at_.step s1).step s2).set i i2) q2, fun C H' s' ⟨e1, e2⟩ => ⟨e1, W0, G, ρ, W1.at H' s', D, rfl, (at_.step s1).step (le_at s'), s, e2⟩⟩
end
end OD

namespace OD
variable {Z : Hp}
open PySem PySem.Spec PyProof.Rows L2
def cxCompG (X : Cx) (scope : Scope) (cl : List (Str × Addr)) (bs caps : List Str) (C : Addr) (s : Shared) (H : Hp) (fp : List Addr) (pins : List (Addr × Obj)) : Cx where
  prog := X.prog
  w := X.w
  K := X.K
  mg := X.mg
  base := X.base
  A := X.A
  N := bs ++ caps
  s₀ := s
  H₀ := H
  env := compEnvC scope cl C X.env
  outer := X.stack
  stack := X.stack
  ex := fp
  fn := fun y => bs.contains y
  calm := X.calm
  pn := X.pn ++ pins
  xe := fun _ _ => False
structure CompScG (X : Cx) (scope : Scope) (cl : List (Str × Addr)) (bs caps : List Str) (js : List Nat) : Prop where
  clos : closureFor scope X.env = pure cl
  sub : ∀ y c, cl.lookup y = some c → X.env.cells.lookup y = some c
  has : ∀ y, ((relabel scope X.env).names.lookup y = some .cell ∨ (relabel scope X.env).names.lookup y = some .free) → ∃ c, cl.lookup y = some c
  nox : ∀ x ∈ bs, cl.lookup x = none
  cell : ∀ y ∈ scope.names, y.2 ≠ .cell
  kind : scope.kind = .function
  names : ∀ y ∈ scope.names, y.2 = .local → scope.names.lookup y.1 = some .local
  loc : ∀ x ∈ bs, scope.names.lookup x = some .local
  nd : (bs ++ caps).Nodup
  len : js.length = caps.length
  at_ : ∀ (k : Nat) y, caps[k]? = some y → ∃ j, js[k]? = some j ∧ X.N[j]? = some y
  cap : ∀ y ∈ caps, (relabel scope X.env).names.lookup y = some .cell ∧ X.env.scope.names.lookup y = some .cell
theorem codeAny_compLoop_any {prog : Program} {w : World} {A : Around} {s : Shared} {elt target iter : Expr} {ifs : List Expr} {scope : Scope} {pos : Pos} {it acc : Value} {env : Env} {R : Result → Shared → Prop} (I : Nat → Shared → Prop)
    (turn : ∀ n s, I n s → wpAny (model prog w) A (pyNext it) (fun r s₁ => match r with
      | none => R (.ok .next) s₁
      | some v => wpAny (model prog w) A (letOwnedTupleGo target it v) (fun _ s₁' => wpAny (model prog w) A (assign target env v) (fun _ s₂ =>
          wpAny (model prog w) A (forIn ifs true fun c r => if r = true then do let ok ← isTrue c env (eval c env); pure (ForInStep.yield ok) else pure (ForInStep.yield r)) (fun ok s₃ =>
            if ok = true then wpAny (model prog w) A (eval elt env) (fun x s₄ =>
              wpAny (model prog w) A (call (.builtin "list.append") [acc, x]) (fun _ s₅ => ∃ m, m < n ∧ I m s₅) (notedBy (model prog w) A env fun e s' => R (.error e) s') s₄) (notedBy (model prog w) A env fun e s' => R (.error e) s') s₃
            else ∃ m, m < n ∧ I m s₃) (notedBy (model prog w) A env fun e s' => R (.error e) s') s₂)
          (notedBy (model prog w) A env fun e s' => R (.error e) s') s₁') (notedBy (model prog w) A env fun e s' => R (.error e) s') s₁) (notedBy (model prog w) A env fun e s' => R (.error e) s') s)
    (n : Nat) (h : I n s) : codeAny (model prog w) A (.compLoop (.ListComp elt [⟨target, iter, ifs, 0⟩] scope pos) 0 it acc env) R s := by
  refine codeAny_loop rfl I (fun n s hI => ?_) n h
  show wpAny _ A ((compTurn (.ListComp elt [⟨target, iter, ifs, 0⟩] scope pos) 0 it acc env).onRaise (fun x => do noteFrame x env; theTreesLotGoes x)) _ _ s
  refine wpAny_noted ?_
  rw [compTurn_list]
  refine wpAny_bind (wpAny_standAt (wpAny_bind (wpAny_mono (turn n s hI) (fun r s₁ h₁ => ?_) fun _ _ h' => h')))
  cases r with
  | none => exact wpAny_pure h₁
  | some v =>
    refine wpAny_bind (wpAny_mono h₁ (fun _ s₁' h₁' => ?_) fun _ _ h' => h')
    refine wpAny_bind (wpAny_mono h₁' (fun _ s₂ h₂ => wpAny_bind (wpAny_mono h₂ (fun ok s₃ h₃ => ?_) fun _ _ h' => h')) fun _ _ h' => h')
    cases ok with
    | false => exact wpAny_pure ⟨rfl, h₃⟩
    | true =>
      exact wpAny_bind (wpAny_bind (wpAny_mono h₃ (fun x s₄ h₄ => wpAny_bind (wpAny_mono h₄ (fun _ s₅ h₅ => wpAny_pure (wpAny_pure ⟨rfl, h₅⟩)) fun _ _ h' => h')) fun _ _ h' => h'))
def PC (X : Cx) (ifs : List Expr) (t : TT) : Prop :=
  ∀ (pins : List (Addr × Obj)) (s : Shared) (σ : St) (H : Hp) (Q : Bool → Hp → Prop) (E : Value → Shared → Prop), (∀ v s, X.xe v s → E v s) → Inv X pins σ H s → t σ H Q →
    wpAny (model X.prog X.w) X.A (forIn ifs true fun c r => if r = true then do let ok ← isTrue c X.env (eval c X.env); pure (ForInStep.yield ok) else pure (ForInStep.yield r)) (TP X pins σ Q) E s
theorem pc_nil {X : Cx} : PC X [] (fun _ H Q => Q true H) := fun _ _ _ H _ _ _ I h => wpAny_tests_nil ⟨H, I, h⟩
section
variable {X : Cx} {pins : List (Addr × Obj)} {σ : St} {H : Hp} {s : Shared} {scope : Scope} {cl : List (Str × Addr)} {bs caps : List Str} {js : List Nat} {fp : List Addr}
theorem inv_compG {h₁ : Heap} {t : Nat} {m : Str → Option Value} (I : Inv X pins σ H s) (S : CompScG X scope cl bs caps js) (hfp : ∀ b ∈ fp, FpOk X pins H b) (hob : ∀ b ∈ fp, ∃ o, s.heap.get? b = some o)
    (hn : h₁.Ns s.heap.objs.size m) (hk : ∀ b o, s.heap.get? b = some o → h₁.get? b = some o) : Inv (cxCompG X scope cl bs caps s.heap.objs.size s H fp pins) [] (bs.map (fun _ => none) ++ capV σ js) H { s with heap := h₁, toks := t } := by
  refine ⟨⟨I.ok.mod, S.kind, I.ok.glob, I.ok.blt, Nat.le_refl _, fun y z c h1 h2 => ?_, fun y hy => ?_, fun y c hf h => ?_, I.ok.hd, I.ok.frames, .inl rfl, fun b hb => ⟨?_, fun y c h => ?_⟩, I.bs, Nat.le_trans I.ok.bsz I.sz, fun b o e hb => ?_, fun b hb z => ?_, I.stack, I.stkFree⟩,
    rfl, I.bare, Un.kept hk, ⟨_, hn, fun i y v h1 h2 h3 => ?_⟩, fun y c h => ?_, I.hok.fresh (Nat.le_refl _), fun y c h => ?_, fun p hp => ?_, I.hok.kept hk, ?_⟩
  · exact I.ok.inj y z c (S.sub y c h1) (S.sub z c h2)
  · exact S.has y hy
  · have hf : y ∈ bs := List.contains_iff_mem.mp hf
    have h : cl.lookup y = some c := h
    rw [S.nox y hf] at h
    cases h
  · obtain ⟨o, e⟩ := hob b hb
    exact Nat.ne_of_lt (Heap.lt_size e)
  · exact (hfp b hb).2.2.2.2.1 y c (S.sub y c h)
  · obtain ⟨_, _, _, h4, _⟩ := hfp b hb
    rcases h4 with h4 | h4
    · exact I.ok.noex b o e h4
    · exact absurd (Nat.lt_of_lt_of_le (Heap.lt_size e) (Nat.le_trans I.ok.bsz h4)) (Nat.lt_irrefl _)
  · obtain ⟨_, h2, h3, _⟩ := hfp b hb
    rcases List.mem_cons.mp (I.stkSub b z) with q | q
    · exact h2 q
    · exact h3 q
  · by_cases hi : i < bs.length
    · rw [List.getElem?_append_left (by rw [List.length_map]; exact hi), List.getElem?_map] at h2
      obtain ⟨_, _, e⟩ := Option.map_eq_some_iff.mp h2
      cases e
    · have hi : bs.length ≤ i := Nat.le_of_not_lt hi
      have h1 : (bs ++ caps)[i]? = some y := h1
      rw [List.getElem?_append_right hi] at h1
      rw [List.getElem?_append_right (by rw [List.length_map]; exact hi), List.length_map] at h2
      obtain ⟨j, hj, hN⟩ := S.at_ _ y h1
      have hv : σ[j]? = some (some v) := by
        unfold capV at h2
        rw [List.getElem?_map, hj] at h2
        have h2 : (σ[j]?).getD none = some v := Option.some.inj h2
        cases q : σ[j]? with
        | none => rw [q] at h2; cases h2
        | some w => rw [q] at h2; exact congrArg some h2
      obtain ⟨c1, c2⟩ := S.cap y (List.mem_of_getElem? h1)
      obtain ⟨m0, _, hl⟩ := I.loc
      obtain ⟨u, ru, lk⟩ := hl j y v hN hv (.inr (.inl c2))
      refine ⟨u, ru, .inr ⟨.inl c1, ?_⟩⟩
      obtain ⟨c, hc⟩ := S.has y (.inl c1)
      rcases lk with ⟨lk, _⟩ | ⟨_, c', hc', hcell⟩
      · have lk : X.env.scope.names.lookup y = some .local := lk
        rw [c2] at lk
        cases lk
      · have e := S.sub y c hc
        rw [hc'] at e
        cases e
        obtain ⟨o, ho, hd⟩ := hcell
        exact ⟨_, hc, o, hk _ _ ho, hd⟩
  · obtain ⟨v, o, ho, hd⟩ := I.cell y c (S.sub y c h)
    exact ⟨v, o, hk _ _ ho, hd⟩
  · exact I.freeC y c (S.sub y c h)
  · have hp : p ∈ X.pn ++ pins := by
      rcases List.mem_append.mp hp with q | q
      · exact q
      · cases q
    obtain ⟨h1, h2, h3, h4, h5⟩ := I.pin p hp
    refine ⟨hk _ _ h1, h2, Nat.ne_of_lt (Heap.lt_size h1), fun z => ?_, h5⟩
    rcases List.mem_cons.mp (I.stkSub _ z) with q | q
    · exact h3 q
    · exact h4 q
  · show (bs.map (fun _ => none) ++ capV σ js).length = (bs ++ caps).length
    unfold capV
    rw [List.length_append, List.length_append, List.length_map, List.length_map, S.len]
theorem inv_backG {C : Addr} {σ' : St} {H' : Hp} {s' : Shared} (I : Inv X pins σ H s) (hfp : ∀ b ∈ fp, FpOk X pins H b) (I' : Inv (cxCompG X scope cl bs caps C s H fp pins) [] σ' H' s') : Inv X pins σ H' s' :=
  I.call' (ch := fp) I'.os I'.base I'.hok I'.bare fun b hb => by
    obtain ⟨_, h2, _, h4, h5, h6⟩ := hfp b hb
    exact ⟨h4, h2, h5, h6⟩
def rCompG (gt : TG) (tt : TT) (te : TE) (k : Nat) (τ : St) (Q : V → Hp → Prop) : It → Hp → Prop := fun J H1 => ∃ n : Nat, n < sizeLine ∧ ∀ D, H1 D = none → ∃ (Pv : Nat → List V → Hp → Prop) (Nx : Nat → V → List V → Hp → Prop),
  Pv 0 [] (upd H1 D (.lst [])) ∧ (∀ i ys H2, i ≤ n → Pv i ys H2 → H2 D = some (.lst ys) ∧ ys.length ≤ i) ∧
  (∀ i ys H2, i < n → Pv i ys H2 → J.go i H2 ∧ ∀ v H3, J.yld i H2 v H3 → Nx i v ys H3) ∧ (∀ ys H2, Pv n ys H2 → J.stop n H2) ∧
  (∀ i v ys H2 (σ0 : St), i < n → Nx i v ys H2 → σ0.length = k → gt v (σ0 ++ τ) H2 fun σ1 H3 => (∃ σ2 : St, σ1 = σ2 ++ τ ∧ σ2.length = k) ∧ tt σ1 H3 fun b H4 =>
    if b = true then te σ1 H4 fun y H5 => H5 D = some (.lst ys) ∧ Pv (i + 1) (ys ++ [y]) (upd H5 D (.lst (ys ++ [y]))) else Pv (i + 1) ys H4) ∧ ∀ ys H2, Pv n ys H2 → Q (.ref D) H2
def tCompG (wi : TI) (gt : TG) (tt : TT) (te : TE) (k : Nat) (js : List Nat) : TE := fun σ H Q => wi σ H (rCompG gt tt te k (capV σ js) Q)
theorem comp_blockG {elt tg iter : Expr} {ifs : List Expr} {pos : Pos} {it D : Addr} {n : Nat} {J : It} {Nx : Nat → V → List V → Hp → Prop} {τ : St} {tn : Nat → Heap → Prop} {gt : TG} {tt : TT} {te : TE} {R : Result → Shared → Prop} {s₄ : Shared} {Pv : Nat → List V → Hp → Prop} {C : Addr} (hc : X.calm = true)
    (hg : PG (cxCompG X scope cl bs caps C s H fp pins) tg gt) (ht' : PC (cxCompG X scope cl bs caps C s H fp pins) ifs tt)
    (he : PE (cxCompG X scope cl bs caps C s H fp pins) elt te) {σ0 : St} (hσ0 : σ0.length = bs.length) (I : Inv (cxCompG X scope cl bs caps C s H fp pins) [] (σ0 ++ τ) H s₄) (T : Turn X.prog X.w X.K tg J fp it tn) (t0 : tn 0 s₄.heap)
    (hfp : ∀ b ∈ fp, FpOk (cxCompG X scope cl bs caps C s H fp pins) [] H b) (hn : n < sizeLine)
    (h0 : Pv 0 [] H) (hl : ∀ i ys H2, i ≤ n → Pv i ys H2 → H2 D = some (.lst ys) ∧ ys.length ≤ i)
    (hgo : ∀ i ys H2, i < n → Pv i ys H2 → J.go i H2 ∧ ∀ v H3, J.yld i H2 v H3 → Nx i v ys H3) (hst : ∀ ys H2, Pv n ys H2 → J.stop n H2)
    (ht : ∀ i v ys H2 (σ0 : St), i < n → Nx i v ys H2 → σ0.length = bs.length → gt v (σ0 ++ τ) H2 fun σ1 H3 => (∃ σ2 : St, σ1 = σ2 ++ τ ∧ σ2.length = bs.length) ∧ tt σ1 H3 fun b H4 =>
      if b = true then te σ1 H4 fun y H5 => H5 D = some (.lst ys) ∧ Pv (i + 1) (ys ++ [y]) (upd H5 D (.lst (ys ++ [y]))) else Pv (i + 1) ys H4)
    (hR : ∀ σ' H' ys s', Inv (cxCompG X scope cl bs caps C s H fp pins) [] σ' H' s' → Pv n ys H' → R (.ok .next) s') :
    codeAny (model X.prog X.w) X.A (.compStart (.ListComp elt [⟨tg, iter, ifs, 0⟩] scope pos) 0 (.ref it) (.ref D) (compEnvC scope cl C X.env)) R s₄ := by
  have loop : codeAny (model X.prog X.w) X.A (.compLoop (.ListComp elt [⟨tg, iter, ifs, 0⟩] scope pos) 0 (.ref it) (.ref D) (compEnvC scope cl C X.env)) R s₄ := by
    refine codeAny_compLoop_any (fun k s' => ∃ i ys, ∃ σ1 : St, ∃ H', k = n + 1 - i ∧ i ≤ n ∧ σ1.length = bs.length ∧ Inv (cxCompG X scope cl bs caps C s H fp pins) [] (σ1 ++ τ) H' s' ∧ tn i s'.heap ∧ (∀ b ∈ fp, FpOk (cxCompG X scope cl bs caps C s H fp pins) [] H' b) ∧ Pv i ys H') ?_ (n + 1) ⟨0, [], σ0, H, rfl, Nat.zero_le _, hσ0, I, t0, hfp, h0⟩
    rintro k s' ⟨i, ys, σ1, H', rfl, hi, hσ1, I', tn', hfp', hp⟩
    obtain ⟨q2, q3⟩ := hl i ys H' hi hp
    by_cases hlt : i < n
    · obtain ⟨g, gy⟩ := hgo i ys H' hlt hp
      refine wpAny_mono (T.item (cxCompG X scope cl bs caps C s H fp pins) rfl rfl rfl hc i [] s' (σ1 ++ τ) H' (notedBy (model X.prog X.w) X.A (compEnvC scope cl C X.env) fun e s' => R (.error e) s') I' hfp' tn' g) (fun r s1 ⟨u, er, hq⟩ => ?_) fun _ _ z => z
      subst er
      refine wpAny_mono hq (fun _ s1' hq' => ?_) fun _ _ z => z
      obtain ⟨v, H1, I1, rv, yv, tn1, fn1⟩ := hq'
      have hv := gy v H1 yv
      have hfp1 : ∀ b ∈ fp, FpOk (cxCompG X scope cl bs caps C s H fp pins) [] H1 b := fun b hb => ⟨fn1 b hb, (hfp' b hb).2⟩
      have hpin : ∀ b ∈ fp, ∃ o, s1'.heap.get? b = some o ∧ ∀ v, o.data ≠ .cell v := T.obj (i + 1) s1'.heap tn1
      have IP : Inv (cxCompG X scope cl bs caps C s H fp pins) (pinsAt fp s1'.heap) (σ1 ++ τ) H1 s1' := by
        have := I1.pinned hfp1 hpin
        rw [List.nil_append] at this
        exact this
      refine wpAny_mono (hg (pinsAt fp s1'.heap) s1' (σ1 ++ τ) H1 v u _ IP rv (ht i v ys H1 σ1 hlt hv hσ1)) (fun _ s2 h2 => ?_) fun _ _ z => z.elim
      obtain ⟨σ2', H2, I2, ⟨σ2, e2, l2⟩, w2⟩ := h2
      subst e2
      refine wpAny_mono (ht' (pinsAt fp s1'.heap) s2 (σ2 ++ τ) H2 _ (fun _ _ => False) (fun _ _ z => z) I2 w2) (fun b s3 h3 => ?_) fun _ _ z => z.elim
      obtain ⟨H3, I3, w3⟩ := h3
      have pinned : ∀ {s4 : Shared} {H4 : Hp} {σ4 : St}, Inv (cxCompG X scope cl bs caps C s H fp pins) (pinsAt fp s1'.heap) σ4 H4 s4 → ∀ b ∈ fp, ∀ o, s1'.heap.get? b = some o → s4.heap.get? b = some o ∧ H4 b = none := fun I4 b hb o e =>
        have z := I4.pin (b, o) (List.mem_append_right _ (mem_pinsAt hb e))
        ⟨z.1, z.2.1⟩
      cases b with
      | false =>
        have w3 : Pv (i + 1) ys H3 := w3
        show ∃ m, m < n + 1 - i ∧ _
        refine ⟨n + 1 - (i + 1), by omega, i + 1, ys, σ2, H3, rfl, hlt, l2, I3.pins_of (fun p z => nomatch z), T.keep _ _ _ tn1 fun b hb o e => (pinned I3 b hb o e).1, fun b hb => ⟨?_, (hfp' b hb).2⟩, w3⟩
        obtain ⟨o, e, _⟩ := hpin b hb
        exact (pinned I3 b hb o e).2
      | true =>
        show wpAny _ _ _ _ _ _
        refine wpAny_mono (he (pinsAt fp s1'.heap) s3 (σ2 ++ τ) H3 _ I3 w3) (fun y s4 h4 => ?_) fun _ _ z => z.elim
        obtain ⟨y', H4, I4, ry, hD, hp4⟩ := h4
        refine wpAny_mono (mt_append (X := cxCompG X scope cl bs caps C s H fp pins) (pinsAt fp s1'.heap) s4 (σ2 ++ τ) H4 (.ref D) [y'] (.ref D) [y] (fun _ H5 => H5 = upd H4 D (.lst (ys ++ [y']))) I4 rfl (.cons ry .nil) ⟨D, ys, y', rfl, rfl, hD, by omega, rfl⟩) (fun _ s5 h5 => ?_) fun _ _ z => z.elim
        obtain ⟨_, H5, I5, _, e5⟩ := h5
        subst e5
        refine ⟨n + 1 - (i + 1), by omega, i + 1, ys ++ [y'], σ2, _, rfl, hlt, l2, I5.pins_of (fun p z => nomatch z), T.keep _ _ _ tn1 fun b hb o e => (pinned I5 b hb o e).1, fun b hb => ⟨?_, (hfp' b hb).2⟩, hp4⟩
        obtain ⟨o, e, _⟩ := hpin b hb
        exact (pinned I5 b hb o e).2
    · have e : i = n := by omega
      subst e
      refine wpAny_mono (T.done (cxCompG X scope cl bs caps C s H fp pins) rfl rfl rfl hc i [] s' (σ1 ++ τ) H' (fun _ _ => False) I' hfp' tn' (hst ys H' hp)) (fun r s1 ⟨er, I1⟩ => ?_) fun _ _ z => z.elim
      subst er
      exact hR _ H' ys s1 I1 hp
  exact codeAny_compStart_list loop (T.self X.A 0 s₄ _ _ t0 loop)
theorem comp_fromG {elt tg iter : Expr} {ifs : List Expr} {pos : Pos} {gt : TG} {tt : TT} {te : TE} {Q : V → Hp → Prop} {s2 : Shared} {it : Addr} {tn : Nat → Heap → Prop} {J : It} {H' : Hp} {RR : Value → Addr → Result → Shared → Prop} {E : Value → Shared → Prop} (hc : X.calm = true) (S : CompScG X scope cl bs caps js)
    (hg : ∀ C s H fp pins, PG (cxCompG X scope cl bs caps C s H fp pins) tg gt) (ht' : ∀ C s H fp pins, PC (cxCompG X scope cl bs caps C s H fp pins) ifs tt)
    (he : ∀ C s H fp pins, PE (cxCompG X scope cl bs caps C s H fp pins) elt te) (I2 : Inv X pins σ H' s2) (T : Turn X.prog X.w X.K tg J fp it tn) (t0 : tn 0 s2.heap) (hfp : ∀ b ∈ fp, FpOk X pins H' b) (hr : rCompG gt tt te bs.length (capV σ js) Q J H')
    (hRR : ∀ D C H3 s', Inv X pins σ H3 s' → (∃ m, s'.heap.Ns C m) → H3 C = none → C ≠ X.env.locals → X.s₀.heap.objs.size ≤ C → (∀ y c, X.env.cells.lookup y = some c → c ≠ C) → (∀ p ∈ X.pn ++ pins, p.1 ≠ C) → Q (.ref D) H3 →
      RR (.ref D) C (.ok .next) s') :
    wpAny (model X.prog X.w) X.A (newList []) (fun acc s₃ => wpAny (model X.prog X.w) X.A (newFunctionEnv scope X.env.globals cl [] X.env.qual none .none (some X.env)) (fun cenv s₄ =>
      codeAny (model X.prog X.w) X.A (.compStart (.ListComp elt [⟨tg, iter, ifs, 0⟩] scope pos) 0 (.ref it) acc { cenv with scope := relabel scope X.env }) (RR acc cenv.locals) s₄) E s₃) E s2 := by
  obtain ⟨n, hn, hD⟩ := hr
  obtain ⟨Pv, Nx, h0, hl, hgo, hst, ht, hd⟩ := hD s2.heap.objs.size I2.fresh
  refine wpAny_newObj_type (wpAny_newFunctionEnv S.cell (by intro y hy; simp at hy) (fun h₁ hns₁ hsb₁ => ?_) S.kind)
  dsimp only at hns₁ hsb₁ ⊢
  have I3 : Inv X pins σ (upd H' s2.heap.objs.size (.lst [])) { s2 with heap := s2.heap.push { cls := .type "list", data := .seq ([] : List Value).toArray } } := I2.lnew (its := []) (t' := s2.toks) .nil (by show 0 ≤ sizeLine; omega)
  have hob := T.obj 0 s2.heap t0
  have keep : ∀ b o, (s2.heap.push { cls := .type "list", data := .seq ([] : List Value).toArray }).get? b = some o → h₁.get? b = some o := fun b o e =>
    hsb₁.extBut b o (Nat.ne_of_lt (Heap.lt_size e)) (Heap.get?_push_of_some _ e)
  have fp3 : ∀ b ∈ fp, FpOk X pins (upd H' s2.heap.objs.size (.lst [])) b := fun b hb => by
    obtain ⟨o, e, _⟩ := hob b hb
    exact ⟨(upd_ne (Nat.ne_of_lt (Heap.lt_size e))).trans (hfp b hb).1, (hfp b hb).2⟩
  have IY := inv_compG (t := s2.toks + ([] : List (Str × Value)).length) I3 S fp3 (fun b hb => by
    obtain ⟨o, e, _⟩ := hob b hb
    exact ⟨o, Heap.get?_push_of_some _ e⟩) hns₁ keep
  refine comp_blockG (D := s2.heap.objs.size) (n := n) (Nx := Nx) (Pv := Pv) hc (hg _ _ _ _ _) (ht' _ _ _ _ _) (he _ _ _ _ _) (List.length_map _) IY T (T.keep _ _ _ t0 fun b hb o e => keep b o (Heap.get?_push_of_some _ e)) (fun b hb => ?_) hn h0 hl hgo hst ht (fun σ' H3 ys s' I' hp => ?_)
  · obtain ⟨f1, f2, f3, f4, f5, f6⟩ := fp3 b hb
    obtain ⟨o, e, _⟩ := hob b hb
    refine ⟨f1, Nat.ne_of_lt (Heap.lt_size (Heap.get?_push_of_some _ e)), fun z => ?_, .inl hb, fun y c h => f5 y c (S.sub y c h), fun p hp => ?_⟩
    · rcases List.mem_cons.mp (I3.stkSub b z) with q | q
      · exact f2 q
      · exact f3 q
    · rcases List.mem_append.mp hp with q | q
      · exact f6 p q
      · cases q
  · obtain ⟨m, hn, _⟩ := I'.loc
    refine hRR _ _ H3 s' (inv_backG I3 fp3 I') ⟨m, hn⟩ I'.free (Nat.ne_of_gt I3.lt) I3.sz (fun y c h z => ?_) (fun p hp z => ?_) (hd ys H3 hp)
    · obtain ⟨v, q⟩ := I3.cell y c h
      exact absurd q.lt (by rw [z]; exact Nat.lt_irrefl _)
    · exact absurd (Heap.lt_size (I3.pin p hp).1) (by rw [z]; exact Nat.lt_irrefl _)
theorem pe_compG {elt tg iter : Expr} {ifs : List Expr} {pos : Pos} {wi : TI} {gt : TG} {tt : TT} {te : TE} (hc : X.calm = true) (S : CompScG X scope cl bs caps js) (hl : PI X tg iter wi) (hg : ∀ C s H fp pins, PG (cxCompG X scope cl bs caps C s H fp pins) tg gt)
    (ht' : ∀ C s H fp pins, PC (cxCompG X scope cl bs caps C s H fp pins) ifs tt) (he : ∀ C s H fp pins, PE (cxCompG X scope cl bs caps C s H fp pins) elt te)
    (hs : ∀ y, foldedSetIterable iter X.env y = pure y := by intro _; rfl) : PE X (.ListComp elt [⟨tg, iter, ifs, 0⟩] scope pos) (tCompG wi gt tt te bs.length js) := by
  intro pins s σ H Q I h
  rw [eval_ListComp]
  refine wpAny_comprehension_free (use := none) rfl hs S.clos S.kind S.names (thn (hl pins s σ H (rCompG gt tt te bs.length (capV σ js) Q) I h) fun v s1 h1 => thn h1 fun itv s2 h2 => ?_)
  obtain ⟨it, fp, tn, J, H', rfl, I2, T, t0, hfp, hr⟩ := h2
  refine comp_fromG (RR := fun acc C => compPost (model X.prog X.w) X.A X.xe none (EP X pins σ Q) acc C) hc S hg ht' he I2 T t0 hfp hr ?_
  intro D C H3 s' I' ⟨m, hn⟩ hC h1 h2 h3 h4 q
  exact ⟨m, hn, fun h' hs' => ⟨.ref D, H3, I'.turned (it := C) (fun b o hb e => hs'.extBut b o hb e) hC h1 (.inr h2) h3 h4, rfl, q⟩⟩
theorem ps_setCompG {elt tg iter : Expr} {ifs : List Expr} {y : Str} {i : Nat} {py pos spos : Pos} {wi : TI} {gt : TG} {tt : TT} {te : TE} (hc : X.calm = true) (S : CompScG X scope cl bs caps js) (hN : X.N.Nodup) (hi : X.N[i]? = some y) (hy : Loc X.env.scope y) (hl : PI X tg iter wi) (hg : ∀ C s H fp pins, PG (cxCompG X scope cl bs caps C s H fp pins) tg gt)
    (ht' : ∀ C s H fp pins, PC (cxCompG X scope cl bs caps C s H fp pins) ifs tt) (he : ∀ C s H fp pins, PE (cxCompG X scope cl bs caps C s H fp pins) elt te)
    (hsw : swapsWith (.ListComp elt [⟨tg, iter, ifs, 0⟩] scope pos) (some (.Name y py)) spos.line X.env = pure true) (hs : ∀ y, foldedSetIterable iter X.env y = pure y := by intro _; rfl)
    (hf : X.fn y = true ∨ X.env.scope.names.lookup y = some .local := by first | exact .inl rfl | exact .inr rfl | assumption) :
    PS X (.Assign [.Name y py] (.ListComp elt [⟨tg, iter, ifs, 0⟩] scope pos) spos) (tAsg (tCompG wi gt tt te bs.length js) (gName i)) := by
  intro pins s σ H D I h
  rw [exec_Assign_Name_used _ _ _ _ hsw]
  refine wpAny_bind (wpAny_standAt (wpAny_bind ?_))
  show wpAny _ X.A (do let _ ← comprehension (.ListComp elt [⟨tg, iter, ifs, 0⟩] scope pos) scope X.env _ (newList []) false (eval iter X.env) (some (assign (.Name y py) X.env))) _ _ s
  refine wpAny_bind (wpAny_mono (wpAny_comprehension_free (use := some (assign (.Name y py) X.env)) (Q := fun _ s' => SP X pins D .next s') rfl hs S.clos S.kind S.names (thn (hl pins s σ H (rCompG gt tt te bs.length (capV σ js) fun v H1 => gName i v σ H1 D.nx) I h) fun v s1 h1 => thn h1 fun itv s2 h2 => ?_))
    (fun _ s' hq => wpAny_pure (wpAny_pure hq)) fun _ _ e => e)
  obtain ⟨it, fp, tn, J, H', rfl, I2, T, t0, hfp, hr⟩ := h2
  refine comp_fromG (RR := fun acc C => compPost (model X.prog X.w) X.A X.xe (some (assign (.Name y py) X.env)) (fun _ s' => SP X pins D .next s') acc C) hc S hg ht' he I2 T t0 hfp hr ?_
  intro A C H3 s' I' ⟨m, hn⟩ hC h1 h2 h3 h4 q
  refine wpAny_assign_Name (store_ok2 I' hN hi hy (v := .ref A) rfl (fun s3 I3 ⟨b, hb, hbb⟩ => ?_) hf)
  have hCb : C ≠ b := by
    rcases hbb with e | e
    · rw [e]; exact h1
    · exact fun z => h3 y b e z.symm
  exact ⟨m, hn.sameBut hb hCb, fun h' hs' => ⟨_, H3, I3.turned (it := C) (fun b o hb e => hs'.extBut b o hb e) hC h1 (.inr h2) h3 h4, q⟩⟩
end
end OD
namespace OD
variable {Z : Hp}
open PySem PySem.Spec PyProof.Rows L2
def compOkG (osc scope : Scope) (bs caps : List Str) (js : List Nat) (N : List Str) : Bool :=
  scope.names.all (fun y => y.2 != .cell && (y.2 != .local || scope.names.lookup y.1 == some .local) && (y.2 != .free || (osc.names.lookup y.1 == some .cell && !bs.contains y.1))) && (scope.kind == .function) && (osc.kind == .function) && bs.all (fun x => scope.names.lookup x == some .local) &&
  decide (bs ++ caps).Nodup && (js.map (fun j => N[j]?) == caps.map some) && caps.all (fun y => scope.names.lookup y == some .free && osc.names.lookup y == some .cell)
theorem compScG {X : Cx} {osc scope : Scope} {bs : List Str} {caps : List Str} {js : List Nat} {L : Addr} (h : compOkG osc scope bs caps js X.N = true) (he : X.env.scope = osc) (hc : X.env.cells = cellsFrom (L + 1) osc.names []) : CompScG X scope (clOf X.env.cells scope.names) bs caps js := by
  unfold compOkG at h
  simp only [Bool.and_eq_true] at h
  obtain ⟨⟨⟨⟨⟨⟨h1, h2⟩, h3⟩, h4⟩, h5⟩, h6⟩, h7⟩ := h
  rw [List.all_eq_true] at h1 h4 h7
  have hfree : ∀ y, (y, NameKind.free) ∈ scope.names → osc.names.lookup y = some .cell ∧ bs.contains y = false := fun y hy => by
    have q := h1 _ hy
    rw [Bool.and_eq_true, Bool.and_eq_true] at q
    have q : (osc.names.lookup y == some .cell && !bs.contains y) = true := q.2
    rw [Bool.and_eq_true] at q
    exact ⟨eq_of_beq q.1, by cases z : bs.contains y with | false => rfl | true => rw [z] at q; cases q.2⟩
  have hcell : ∀ y, osc.names.lookup y = some .cell → ∃ c, X.env.cells.lookup y = some c := fun y hy => by rw [hc]; exact cell_has hy
  have hfc : ∀ y, (y, NameKind.free) ∈ scope.names → ∃ c, X.env.cells.lookup y = some c := fun y hy => hcell y (hfree y hy).1
  have hk : X.env.scope.kind = .function := by rw [he]; exact eq_of_beq h3
  have hj : js.map (fun j => X.N[j]?) = caps.map some := eq_of_beq h6
  refine ⟨clos_of hfc, fun y c q => (mem_clOf.mp (PySem.mem_of_lookup q)).2, fun y q => ?_, fun x hx => ?_, fun y hy e => ?_, eq_of_beq h2, fun y hy e => ?_, fun x hx => eq_of_beq (h4 x hx), of_decide_eq_true h5, ?_, fun k y q => ?_, fun y hy => ?_⟩
  · have : (y, NameKind.free) ∈ scope.names := by
      have mem : ∃ k, (y, k) ∈ (relabel scope X.env).names ∧ (k = .cell ∨ k = .free) := by
        rcases q with q | q
        · exact ⟨_, PySem.mem_of_lookup q, .inl rfl⟩
        · exact ⟨_, PySem.mem_of_lookup q, .inr rfl⟩
      obtain ⟨k, hm, hk'⟩ := mem
      obtain ⟨⟨n, k0⟩, hn, e⟩ := List.mem_map.mp hm
      have ncell : k0 ≠ .cell := fun z => by
        have q := h1 _ hn
        rw [Bool.and_eq_true, Bool.and_eq_true] at q
        exact absurd z (bne_iff_ne.mp q.1.1)
      dsimp only at e
      split at e
      · rename_i hz
        rw [Bool.and_eq_true, Bool.and_eq_true] at hz
        obtain rfl := eq_of_beq hz.1.1
        cases e
        exact hn
      · cases e
        rcases hk' with z | z
        · exact absurd z ncell
        · rw [z] at hn; exact hn
    obtain ⟨c, hc'⟩ := hfc y this
    exact mem_lookup (mem_clOf.mpr ⟨this, hc'⟩)
  · cases q : (clOf X.env.cells scope.names).lookup x with
    | none => rfl
    | some c =>
      have z := (hfree x (mem_clOf.mp (PySem.mem_of_lookup q)).1).2
      rw [List.contains_iff_mem.mpr hx] at z
      cases z
  · have q := h1 y hy
    rw [Bool.and_eq_true, Bool.and_eq_true] at q
    exact absurd e (bne_iff_ne.mp q.1.1)
  · have q := h1 y hy
    rw [Bool.and_eq_true, Bool.and_eq_true, e] at q
    exact eq_of_beq (show (scope.names.lookup y.1 == some .local) = true from q.1.2)
  · have := congrArg List.length hj
    rwa [List.length_map, List.length_map] at this
  · have e : (js.map fun j => X.N[j]?)[k]? = (caps.map some)[k]? := by rw [hj]
    rw [List.getElem?_map, List.getElem?_map, q] at e
    obtain ⟨j, hj1, hj2⟩ := Option.map_eq_some_iff.mp e
    exact ⟨j, hj1, hj2⟩
  · have q := h7 y hy
    rw [Bool.and_eq_true] at q
    have q2 : X.env.scope.names.lookup y = some .cell := by rw [he]; exact eq_of_beq q.2
    exact ⟨lookup_relabel_free hk (eq_of_beq q.1) q2, q2⟩
theorem rl_caps {K : PySem.W.Frag} {F : Hp} {W W2 : Vw} {ρ : DS} {σ : St} {js : List Nat} {ds : List Dt} {vs : List V} (r : Rl K Z F W ρ σ) (s2 : Same W.g W2.g) (i : AllIs K W2.g ds vs) : Rl K (fun _ => none) W2.h W2 (ds.map Sl.some ++ capS ρ js) (vs.map some ++ capV σ js) := by
  have no : ∀ (j : Nat) (es : List Dt), (ds.map Sl.some ++ capS ρ js)[j]? = some (.own es) → False := fun j es q => by
    have q := List.mem_of_getElem? q
    rcases List.mem_append.mp q with q | q
    · obtain ⟨_, _, e⟩ := List.mem_map.mp q
      cases e
    · unfold capS at q
      obtain ⟨j, _, e⟩ := List.mem_map.mp q
      split at e <;> cases e
  have noA : ∀ (j : Nat) (a : Addr) (es : List Dt), (ds.map Sl.some ++ capS ρ js)[j]? = some (.arg a es) → False := fun j a es q => by
    have q := List.mem_of_getElem? q
    rcases List.mem_append.mp q with q | q
    · obtain ⟨_, _, e⟩ := List.mem_map.mp q
      cases e
    · unfold capS at q
      obtain ⟨j, _, e⟩ := List.mem_map.mp q
      split at e <;> cases e
  refine ⟨by unfold capS capV; rw [List.length_append, List.length_append, List.length_map, List.length_map, List.length_map, List.length_map, i.length], fun j e q => ?_, fun j ds q => (no j ds q).elim, fun j j' ds ds' _ q _ => (no j ds q).elim, Same.refl _, (fun _ _ q => nomatch q), fun j a ds q => (noA j a ds q).elim⟩
  by_cases hj : j < ds.length
  · rw [List.getElem?_append_left (by rw [List.length_map]; exact hj), List.getElem?_map] at q
    obtain ⟨d, hd, e1⟩ := Option.map_eq_some_iff.mp q
    cases e1
    obtain ⟨v, hv, iv⟩ := i.get hd
    exact ⟨v, by rw [List.getElem?_append_left (by rw [List.length_map, ← i.length]; exact hj), List.getElem?_map, hv]; rfl, iv⟩
  · have hj : ds.length ≤ j := Nat.le_of_not_lt hj
    rw [List.getElem?_append_right (by rw [List.length_map]; exact hj), List.length_map] at q
    rw [List.getElem?_append_right (by rw [List.length_map, ← i.length]; exact hj), List.length_map, ← i.length]
    unfold capS at q
    rw [List.getElem?_map] at q
    obtain ⟨k, hk, e2⟩ := Option.map_eq_some_iff.mp q
    split at e2
    · rename_i d' hd
      cases e2
      obtain ⟨u, hu, iu⟩ := r.at_ k e hd
      refine ⟨u, ?_, Is.mono0 s2 iu⟩
      unfold capV
      rw [List.getElem?_map, hk]
      show some ((σ[k]?).getD none) = _
      rw [hu]
      rfl
    · cases e2
abbrev DTI := DS → (Nat → (Nat → Dt → Prop) → Prop) → Prop
def LiI (K : PySem.W.Frag) (Z : Hp) (wi : TI) (di : DTI) : Prop := ∀ {F : Hp} (ρ : DS) (σ : St) (W : Vw) (Q : Nat → (Nat → Dt → Prop) → Prop), Rl K Z F W ρ σ → di ρ Q → ∀ R : It → Hp → Prop,
  (∀ (J : It) (n : Nat) (vals : Nat → Dt → Prop) (W1 : Vw), Le W W1 → n ≤ 100000 → (∀ W2 : Vw, Same W1.g W2.g → (∀ i, i < n → J.go i W2.h ∧ ∀ v H3, J.yld i W2.h v H3 → ∃ W3 : Vw, Le W2 W3 ∧ W3.h = H3 ∧ ∃ e, vals i e ∧ Is K W3.g e v) ∧ J.stop n W2.h) → Q n vals → R J W1.h) → wi σ W.h R
def DI (X : Cx) (tg iter : Expr) (di : DTI) : Prop := ∃ wi, PI X tg iter wi ∧ LiI X.K (Zx X) wi di
def LiG (K : PySem.W.Frag) (k : Nat) (gt : TG) (dg : Dt → List Dt → Prop) : Prop := ∀ (e : Dt) (v : V) (σ0 τ : St) (W : Vw) (as : List Dt), σ0.length = k → Is K W.g e v → dg e as → ∀ Q : St → Hp → Prop,
  (∀ vs, AllIs K W.g as vs → vs.length = k → Q (vs.map some ++ τ) W.h) → gt v (σ0 ++ τ) W.h Q
def dOne : Dt → List Dt → Prop := fun e as => as = [e]
theorem lig_one {K : PySem.W.Frag} : LiG K 1 (gName 0) dOne := by
  rintro e v σ0 τ W as hl i rfl Q q
  match σ0, hl with
  | [a], _ => exact q [v] (allIs_cons.mpr ⟨v, [], rfl, i, allIs_nil.mpr rfl⟩) rfl
def DC (X : Cx) (ifs : List Expr) (t : DTT) : Prop := ∃ tt, PC X ifs tt ∧ LiT X.K (Zx X) tt t
def dEach : DTT := fun _ Q => Q true
theorem dc_nil {X : Cx} : DC X [] dEach := ⟨_, pc_nil, fun _ _ W _ _ h _ k => k true W (Le.refl W) h⟩
def liftT (K : PySem.W.Frag) (t : DTT) : TT := fun σ H R => ∃ (F : Hp) (ρ : DS) (W : Vw) (Q : Bool → Prop), W.h = H ∧ Rl K (fun _ => none) F W ρ σ ∧ t ρ Q ∧ ∀ d W', Le W W' → Q d → R d W'.h
theorem DC.up {X : Cx} {ifs : List Expr} {t : DTT} (h : DC X ifs t) (hz : X.stack.length = X.outer.length := by rfl) : PC X ifs (liftT X.K t) := by
  obtain ⟨te, p, l⟩ := h
  intro pins s σ H R E hE I q
  obtain ⟨F, ρ, W, Q, rfl, r, h, k⟩ := q
  have r' : Rl X.K (Zx X) F W ρ σ := by unfold Zx; rw [if_pos (Or.inl hz)]; exact r
  exact p pins s σ W.h R E hE I (l ρ σ W Q r' h R k)
theorem li_liftT {K : PySem.W.Frag} {t : DTT} : LiT K (fun _ => none) (liftT K t) t := fun ρ σ H Q r h R k => ⟨_, ρ, H, Q, rfl, r, h, k⟩
def dCompG (js : List Nat) (di : DTI) (dg : Dt → List Dt → Prop) (tt : DTT) (te : DTE) : DTE := fun ρ Q => di ρ fun n vals => ∃ Pv : Nat → List Dt → Prop, Pv 0 [] ∧
  (∀ (i : Nat) e es, i < n → vals i e → Pv i es → ∃ as, dg e as ∧ tt (as.map Sl.some ++ capS ρ js) fun b => if b = true then te (as.map Sl.some ++ capS ρ js) fun y => Pv (i + 1) (es ++ [y]) else Pv (i + 1) es) ∧ ∀ es, Pv n es → Q (.lst es)
theorem li_compG {K : PySem.W.Frag} {wi : TI} {gt : TG} {tt : TT} {te : TE} {di : DTI} {dg : Dt → List Dt → Prop} {dt : DTT} {u : DTE} {k : Nat} {js : List Nat} (h1 : LiI K Z wi di) (hg : LiG K k gt dg) (ht' : LiT K (fun _ => none) tt dt) (h2 : LiE K (fun _ => none) te u) : LiF K Z (tCompG wi gt tt te k js) (dCompG js di dg dt u) := by
  intro F ρ σ H Q r h R kk
  refine h1 ρ σ H _ r h _ fun J n vals W1 s1 hn hJ ⟨Pv, h0, ht, hd⟩ => ?_
  have r1 := r.mono s1
  refine ⟨n, Nat.lt_of_le_of_lt hn (by decide), fun D hD => ?_⟩
  have gD : W1.g D = none := W1.sub.free hD
  have stp : ∀ {W2 W3 : Vw} {ys : List V} {es : List Dt}, Same W1.g W2.g ∧ Same W1.h (fun b => if b = D then none else W2.h b) ∧ (∀ b, W1.h b ≠ none → W1.g b = none → W2.g b = none) ∧ W2.h D = some (.lst ys) ∧ W2.g D = none ∧ AllIs K W2.g es ys → Le W2 W3 →
      Same W1.g W3.g ∧ Same W1.h (fun b => if b = D then none else W3.h b) ∧ (∀ b, W1.h b ≠ none → W1.g b = none → W3.g b = none) ∧ W3.h D = some (.lst ys) ∧ W3.g D = none ∧ AllIs K W3.g es ys := by
    rintro W2 W3 ys es ⟨s2, sh, sn, q1, q2, q3⟩ s3
    refine ⟨s2.trans s3.g, fun b o q => ?_, fun b z1 z2 => ?_, s3.h _ _ q1, s3.n D (by rw [q1]; intro z; cases z) q2, q3.mono s3⟩
    · have q' : (if b = D then none else W2.h b) = some o := sh b o q
      have hb : b ≠ D := fun e => by rw [e, hD] at q; cases q
      rw [if_neg hb] at q'
      show (if b = D then none else W3.h b) = some o
      rw [if_neg hb]
      exact s3.h _ _ q'
    · have hb : b ≠ D := fun e => z1 (e ▸ hD)
      have z3 := sn b z1 z2
      refine s3.n b ?_ z3
      cases q : W1.h b with
      | none => exact absurd q z1
      | some o =>
        have q' : (if b = D then none else W2.h b) = some o := sh b o q
        rw [if_neg hb] at q'
        rw [q']
        intro z; cases z
  refine ⟨fun i ys H2 => ∃ (W2 : Vw) (es : List Dt), W2.h = H2 ∧ (Same W1.g W2.g ∧ Same W1.h (fun b => if b = D then none else W2.h b) ∧ (∀ b, W1.h b ≠ none → W1.g b = none → W2.g b = none) ∧ W2.h D = some (.lst ys) ∧ W2.g D = none ∧ AllIs K W2.g es ys) ∧ ys.length ≤ i ∧ Pv i es, fun i v ys H2 => ∃ (W2 : Vw) (es : List Dt) (e : Dt), W2.h = H2 ∧ (Same W1.g W2.g ∧ Same W1.h (fun b => if b = D then none else W2.h b) ∧ (∀ b, W1.h b ≠ none → W1.g b = none → W2.g b = none) ∧ W2.h D = some (.lst ys) ∧ W2.g D = none ∧ AllIs K W2.g es ys) ∧ ys.length ≤ i ∧ Pv i es ∧ vals i e ∧ Is K W2.g e v, ?_, ?_, ?_, ?_, ?_, ?_⟩
  · refine ⟨W1.mine D (.lst []) gD, [], rfl, ⟨Same.refl _, fun b o q => ?_, fun b _ q => q, upd_same, gD, allIs_nil.mpr rfl⟩, Nat.le_refl _, h0⟩
    have hb : b ≠ D := fun e => by rw [e, hD] at q; cases q
    show (if b = D then none else upd W1.h D (.lst []) b) = some o
    rw [if_neg hb, upd_ne hb]
    exact q
  · rintro i ys _ _ ⟨W2, es, rfl, ⟨s2, _, _, q1, q2, _⟩, q4, _⟩
    exact ⟨q1, q4⟩
  · rintro i ys _ hi ⟨W2, es, rfl, hW2, q4, q5⟩
    obtain ⟨g1, g2⟩ := (hJ W2 hW2.1).1 i hi
    refine ⟨g1, fun v H3 y => ?_⟩
    obtain ⟨W3, s3, e3, e, he, ie⟩ := g2 v H3 y
    exact ⟨W3, es, e, e3, stp hW2 s3, q4, q5, he, ie⟩
  · rintro ys _ ⟨W2, es, rfl, ⟨s2, _⟩, _⟩
    exact (hJ W2 s2).2
  · rintro i v ys _ σ0 hi ⟨W2, es, e, rfl, hW2, q4, q5, he, ie⟩ hσ0
    obtain ⟨as, da, w⟩ := ht i e es hi he q5
    refine hg e v σ0 _ W2 as hσ0 ie da _ fun vs ivs lvs => ⟨⟨vs.map some, rfl, by rw [List.length_map]; exact lvs⟩, ?_⟩
    refine ht' (F := W2.h) (as.map Sl.some ++ capS ρ js) (vs.map some ++ capV σ js) W2 _ (rl_caps r1 hW2.1 ivs) w _ fun b W3 s3 w3 => ?_
    have hW3 := stp hW2 s3
    cases b with
    | false => exact ⟨W3, es, rfl, hW3, Nat.le_succ_of_le q4, w3⟩
    | true =>
      show te _ _ _
      refine h2 (F := W3.h) (as.map Sl.some ++ capS ρ js) (vs.map some ++ capV σ js) W3 _ (rl_caps r1 hW3.1 (ivs.mono s3)) w3 _ fun y w W4 s4 i4 q6 => ?_
      obtain ⟨a1, a2, a3, a4, a5, a6⟩ := stp hW3 s4
      refine ⟨a4, W4.mine D (.lst (ys ++ [w])) a5, es ++ [y], rfl, ⟨a1, fun b o q => ?_, a3, upd_same, a5, a6.append (allIs_cons.mpr ⟨w, [], rfl, i4, allIs_nil.mpr rfl⟩)⟩, by rw [List.length_append]; exact Nat.succ_le_succ q4, q6⟩
      have q' : (if b = D then none else W4.h b) = some o := a2 b o q
      have hb : b ≠ D := fun e => by rw [e, hD] at q; cases q
      rw [if_neg hb] at q'
      show (if b = D then none else upd W4.h D (.lst (ys ++ [w])) b) = some o
      rw [if_neg hb, upd_ne hb]
      exact q'
  · rintro ys _ ⟨W2, es, rfl, ⟨s2, sh, sn, q1, q2, q3⟩, _, q5⟩
    refine kk es D ys W2 (s1.trans ⟨s2, fun b o q => ?_, sn⟩) (s1.h.free hD) q1 q2 q3 (hd es q5)
    have q' : (if b = D then none else W2.h b) = some o := sh b o q
    have hb : b ≠ D := fun e => by rw [e, hD] at q; cases q
    rwa [if_neg hb] at q'
def dOver (ta : DTE) : DTI := fun ρ Q => ta ρ fun d => ∃ ds, listOf d = some ds ∧ ds.length ≤ 100000 ∧ Q ds.length fun i e => ds[i]? = some e
section
variable {X : Cx} {fr : Fr} {osc scope : Scope} {bs caps : List Str} {js : List Nat} {N0 : List Str} {L : Addr} {tg iter elt a : Expr} {ifs : List Expr} {ta te : DTE} {di : DTI} {tt : DTT} {dg : Dt → List Dt → Prop} {gt : TG} {px p0 pos pos1 : Pos}
theorem di_list (h : DE X iter ta) : DI X tg iter (dOver ta) := by
  obtain ⟨te, p, l⟩ := h
  refine ⟨_, pi_list p, fun ρ σ W Q r h R k => l ρ σ W _ r h _ fun d v W1 s1 i1 ⟨ds, el, hl, q⟩ => ?_⟩
  obtain ⟨a, xs, rfl, hq, ha⟩ := list_g i1 el
  refine ⟨a, rfl, ⟨xs, hq W1 (Same.refl _)⟩, k _ _ _ W1 s1 hl (fun W2 s2 => ⟨fun i hi => ?_, ?_⟩) q⟩
  · rw [ha.length] at hi
    have hv := List.getElem?_eq_getElem hi
    refine ⟨⟨xs, _, hq W2 s2, hv⟩, fun v' H3 ⟨e1, e2⟩ => ⟨W2, Le.refl _, e1.symm, ?_⟩⟩
    obtain ⟨e, he, ie⟩ := ha.get' (e2 xs (hq W2 s2))
    exact ⟨e, he, Is.mono0 s2 ie⟩
  · exact ⟨xs, hq W2 s2, by rw [ha.length]; exact Nat.le_refl _⟩
theorem ds_setCompGP {y : Str} {i : Nat} {py spos : Pos} (hc : X.calm = true) (S : compOkG osc scope bs caps js N0 = true) (hN0 : X.N = N0) (he' : X.env.scope = osc) (hcs : X.env.cells = cellsFrom (L + 1) osc.names []) (hN : X.N.Nodup) (hi : X.N[i]? = some y) (hy : Loc X.env.scope y) (hl : DI X tg iter di)
    (hg : ∀ C s H fp pins, PG (cxCompG X scope (clOf X.env.cells scope.names) bs caps C s H fp pins) tg gt) (lg : LiG X.K bs.length gt dg)
    (ht : ∀ C s H fp pins, DC (cxCompG X scope (clOf X.env.cells scope.names) bs caps C s H fp pins) ifs tt)
    (he : ∀ C s H fp pins, DE (cxCompG X scope (clOf X.env.cells scope.names) bs caps C s H fp pins) elt te)
    (hsw : swapsWith (.ListComp elt [⟨tg, iter, ifs, 0⟩] scope pos) (some (.Name y py)) spos.line X.env = pure true := by rfl) (hs : ∀ y, foldedSetIterable iter X.env y = pure y := by intro _; rfl)
    (hf : X.fn y = true ∨ X.env.scope.names.lookup y = some .local := by first | exact .inl rfl | exact .inr rfl | assumption) :
    DSt X fr (.Assign [.Name y py] (.ListComp elt [⟨tg, iter, ifs, 0⟩] scope pos) spos) (dSet i (dCompG js di dg tt te)) := by
  obtain ⟨wi, p, l⟩ := hl
  exact ⟨_, ps_setCompG (te := liftE X.K te) (tt := liftT X.K tt) hc (compScG (hN0 ▸ S) he' hcs) hN hi hy p hg (fun C s H fp pins => (ht C s H fp pins).up) (fun C s H fp pins => (he C s H fp pins).up) hsw hs hf, fun W0 G ρ σ W D D' a s h => LiF.le (li_compG l lg (li_liftT (t := tt)) (li_lift (t := te))) ρ σ W _ a.rl h _ fun d v W1 s1 i1 q1 => s.nx _ _ W1 ((a.step s1).set i i1) q1⟩
end
end OD

namespace OD
variable {Z : Hp}
open PySem PySem.Spec PyProof.Rows L2
section
variable {K : PySem.W.Frag} {F : Hp} {W W' W0 : Vw}
theorem NewL.mono {d : Dt} {v : V} (h : NewL K F W d v) (s : Le W W') : NewL K F W' d v := by
  obtain ⟨es, p, xs, h1, h2, h3, h4, h5, h6⟩ := h
  exact ⟨es, p, xs, h1, h2, h3, s.h _ _ h4, s.n p (by rw [h4]; intro z; cases z) h5, h6.mono s⟩
theorem Prt.mono {b : Bool} {d : Dt} {v : V} (h : Prt K F W b d v) (s : Le W W') : Prt K F W' b d v := by
  cases b with
  | false => exact Is.mono h s
  | true =>
    rcases h with h | ⟨h1, h2⟩
    · exact .inl (h.mono s)
    · exact .inr ⟨h1, Is.mono h2 s⟩
theorem Prt.frz {b : Bool} {d : Dt} {u : V} (le : Le W0 W) (h : Prt K W0.h W b d u) : ∃ W1 : Vw, W1.h = W.h ∧ Same W.g W1.g ∧ Le W0 W1 ∧ Is K W1.g d u ∧
    ∀ b2 d2 u2, Prt K W0.h W b2 d2 u2 → (∀ es fs, b = true → b2 = true → d = .lst es → d2 = .lst fs → u ≠ u2) → Prt K W0.h W1 b2 d2 u2 := by
  cases b with
  | false => exact ⟨W, rfl, Same.refl _, le, h, fun _ _ _ k _ => k⟩
  | true =>
    rcases h with ⟨es, p, xs, rfl, rfl, h3, h4, h5, h6⟩ | ⟨_, h2⟩
    · refine ⟨W.frz p _ h4, rfl, same_new h5 _, le_frz le h3 h4 h5, is_lst.mpr ⟨p, xs, rfl, upd_same, AllIs.mono0 (same_new h5 _) h6⟩, fun b2 d2 u2 k ne => ?_⟩
      cases b2 with
      | false => exact Is.mono0 (same_new h5 _) k
      | true =>
        rcases k with ⟨fs, q, ys, rfl, rfl, k3, k4, k5, k6⟩ | ⟨k1, k2⟩
        · have hq : q ≠ p := fun z => ne es fs rfl rfl rfl rfl (by rw [z])
          exact .inl ⟨fs, q, ys, rfl, rfl, k3, k4, (upd_ne hq).trans k5, AllIs.mono0 (same_new h5 _) k6⟩
        · exact .inr ⟨k1, Is.mono0 (same_new h5 _) k2⟩
    · exact ⟨W, rfl, Same.refl _, le, h2, fun _ _ _ k _ => k⟩
theorem Tld.frz {fr : Fr} {d : Dt} {v : V} (le : Le W0 W) (h : Tld K W0.h W fr d v) : ∃ W1 : Vw, W1.h = W.h ∧ Le W0 W1 ∧ Is K W1.g d v := by
  match fr, h with
  | .d, h => exact ⟨W, rfl, le, h⟩
  | .l, ⟨es, p, xs, e1, e2, h3, h4, h5, h6⟩ =>
    subst e1; subst e2
    exact ⟨W.frz p _ h4, rfl, le_frz le h3 h4 h5, is_lst.mpr ⟨p, xs, rfl, upd_same, AllIs.mono0 (same_new h5 _) h6⟩⟩
  | .t a b, ⟨d1, d2, q, u1, u2, e1, e2, hq, p1, p2, ne⟩ =>
    subst e1; subst e2
    obtain ⟨W1, e1, s1, le1, i1, k1⟩ := p1.frz le
    obtain ⟨W2, e2, s2, le2, i2, _⟩ := (k1 b d2 u2 p2 ne).frz le1
    exact ⟨W2, e2.trans e1, le2, is_tup.mpr ⟨q, _, rfl, s2 _ _ (s1 _ _ hq), allIs_cons.mpr ⟨u1, _, rfl, Is.mono0 s2 i1, allIs_cons.mpr ⟨u2, _, rfl, i2, allIs_nil.mpr rfl⟩⟩⟩⟩
end
def TldSp (K : PySem.W.Frag) (fr : Fr) (S : DSp) : Sp := fun vs H Q _ => ∃ (W : Vw) (ds : List Dt) (Qd : Dt → Prop), W.h = H ∧ AllIs K W.g ds vs ∧ S ds Qd ∧ ∀ d v W', Le W W' → Tld K W.h W' fr d v → Qd d → Q v W'.h
def TldSpX (K : PySem.W.Frag) (fr : Fr) (S : DSpX) : Sp := fun vs H Q E => ∃ (W : Vw) (ds : List Dt) (Qd : Dt → Prop) (Ed : Addr → Prop), W.h = H ∧ AllIs K W.g ds vs ∧ S ds Qd Ed ∧
  (∀ d v W', Le W W' → Tld K W.h W' fr d v → Qd d → Q v W'.h) ∧ ∀ C H', Same W.h H' → Ed C → E (.ref C) none H'
structure TOk (P : Program) (w : World) (K : PySem.W.Frag) (mg : Str → Option Value) (base : Heap) (n : Nat) (x : Str) (fr : Fr) (S : DSp) : Prop where
  ex : ∃ f fd ps, mg x = some (.ref f) ∧ PySem.W.keepIn K (.ref f) = true ∧ Binds K fd ps [] ∧ FnOk P w K mg base CX0 n f fd ps (TldSp K fr S)
structure TOkX (P : Program) (w : World) (K : PySem.W.Frag) (mg : Str → Option Value) (base : Heap) (n : Nat) (x : Str) (fr : Fr) (S : DSpX) : Prop where
  ex : ∃ f fd ps, mg x = some (.ref f) ∧ PySem.W.keepIn K (.ref f) = true ∧ Binds K fd ps [] ∧ FnOk P w K mg base (CX1 P w) n f fd ps (TldSpX K fr S)
section
variable {P : Program} {w : World} {K : PySem.W.Frag} {mg : Str → Option Value} {base : Heap} {fr : Fr}
theorem TOk.mk' {x qual : Str} {st : Stmt} {f : Addr} {fd : FuncData} {ps : List Str} {n : Nat} {S : DSp} (F : Fun K x qual st f fd) (hm : mg x = some (.ref f)) (hb : Binds K fd ps []) (h : FnOk P w K mg base CX0 n f fd ps (TldSp K fr S)) : TOk P w K mg base n x fr S :=
  ⟨f, fd, ps, hm, F.kp, hb, h⟩
theorem TOkX.mk' {x qual : Str} {st : Stmt} {f : Addr} {fd : FuncData} {ps : List Str} {n : Nat} {S : DSpX} (F : Fun K x qual st f fd) (hm : mg x = some (.ref f)) (hb : Binds K fd ps []) (h : FnOk P w K mg base (CX1 P w) n f fd ps (TldSpX K fr S)) : TOkX P w K mg base n x fr S :=
  ⟨f, fd, ps, hm, F.kp, hb, h⟩
end
section
variable {X : Cx} {fr : Fr} {a b : Bool} {e e1 e2 : Expr} {es : List Expr} {t t1 t2 : DTE} {ta : DTA} {n : Nat} {x y : Str} {S : DSp} {SX : DSpX} {p pos p0 p1 p2 : Pos} {i j : Nat}
def slP : Bool → Dt → Sl
  | true, .lst es => .own es
  | _, d => .some d
theorem Rl.ownN {K : PySem.W.Frag} {F : Hp} {W : Vw} {ρ : DS} {σ : St} (r : Rl K Z F W ρ σ) {p : Addr} {xs : List V} {ds : List Dt} (i : Nat) (nep : ∀ (j : Nat) (es : List Dt), ρ[j]? = some (Sl.own es) → σ[j]? ≠ some (some (V.ref p))) (nea : ∀ (j : Nat) (a : Addr) (es : List Dt), ρ[j]? = some (Sl.arg a es) → a ≠ p)
    (hF : F p = none) (h1 : W.h p = some (.lst xs)) (h2 : W.g p = none) (h3 : AllIs K W.g ds xs) : Rl K Z F W (ρ.set i (.own ds)) (σ.set i (some (.ref p))) := by
  refine ⟨by rw [List.length_set, List.length_set]; exact r.len, fun j e q => ?_, fun j es q => ?_, fun j k es es' hjk q1 q2 => ?_, r.fr, r.z, fun j a fs q => ?_⟩
  · rcases set_get q with ⟨_, _, e1⟩ | ⟨hij, q⟩
    · cases e1
    · rw [List.getElem?_set_ne hij]
      exact r.at_ j e q
  · rcases set_get q with ⟨rfl, hl, e1⟩ | ⟨hij, q⟩
    · cases e1
      exact ⟨p, xs, by rw [List.getElem?_set_self (by rw [← r.len]; exact hl)], h1, h2, hF, h3⟩
    · rw [List.getElem?_set_ne hij]
      exact r.ow j es q
  · rcases set_get q1 with ⟨rfl, hl, e1⟩ | ⟨hij, q1⟩
    · rcases set_get q2 with ⟨rfl, _, _⟩ | ⟨hik, q2⟩
      · exact absurd rfl hjk
      · rw [List.getElem?_set_self (by rw [← r.len]; exact hl), List.getElem?_set_ne hik]
        exact fun z => nep k es' q2 z.symm
    · rcases set_get q2 with ⟨rfl, hl, _⟩ | ⟨hik, q2⟩
      · rw [List.getElem?_set_self (by rw [← r.len]; exact hl), List.getElem?_set_ne hij]
        exact nep j es q1
      · rw [List.getElem?_set_ne hij, List.getElem?_set_ne hik]
        exact r.ne j k es es' hjk q1 q2
  · rcases set_get q with ⟨_, _, e1⟩ | ⟨hij, q⟩
    · cases e1
    obtain ⟨⟨ys, g1, g2⟩, k1, k2⟩ := r.ar j a fs q
    refine ⟨⟨ys, by rw [List.getElem?_set_ne hij]; exact g1, g2⟩, fun k es q' => ?_, fun k c es q' => ?_⟩
    · rcases set_get q' with ⟨rfl, hl, e1⟩ | ⟨hik, q'⟩
      · rw [List.getElem?_set_self (by rw [← r.len]; exact hl)]
        intro z
        cases z
        exact nea j _ fs q rfl
      · rw [List.getElem?_set_ne hik]
        exact k1 k es q'
    · rcases set_get q' with ⟨_, _, e1⟩ | ⟨hik, q'⟩
      · cases e1
      exact k2 k c es q'
theorem Rl.part {K : PySem.W.Frag} {F F' : Hp} {W : Vw} {ρ : DS} {σ : St} (r : Rl K Z F W ρ σ) {b : Bool} {d : Dt} {v : V} (i : Nat) (h : Prt K F' W b d v) (hF : ∀ p, F' p = none → F p = none)
    (nep : ∀ (p : Addr) (j : Nat) (es fs : List Dt), b = true → d = .lst fs → v = .ref p → F' p = none → ρ[j]? = some (Sl.own es) → σ[j]? ≠ some (some (V.ref p))) (nea : ∀ (p : Addr) (j : Nat) (a : Addr) (es : List Dt), F' p = none → ρ[j]? = some (Sl.arg a es) → a ≠ p) :
    Rl K Z F W (ρ.set i (slP b d)) (σ.set i (some v)) := by
  cases b with
  | false => cases d <;> exact r.set i h
  | true =>
    rcases h with ⟨es, p, xs, rfl, rfl, h3, h4, h5, h6⟩ | ⟨z, h2⟩
    · exact r.ownN i (fun j fs e => nep p j fs es rfl rfl rfl h3 e) (fun j a fs e => nea p j a fs h3 e) (hF p h3) h4 h5 h6
    · cases d <;> first | exact r.set i h2 | cases z
end
end OD

namespace L2
open PySem PySem.Spec PyProof.Rows
def Cx.arg (X : Cx) : Cx := { X with fn := fun y => !(y == "") }
section
variable {X : Cx} {pins : List (Addr × Obj)} {σ : St} {H : Hp} {s : Shared}
theorem Inv.arg (I : Inv X pins σ H s) (hf : ∀ y, X.fn y = true) : Inv X.arg pins σ H s :=
  ⟨⟨I.ok.mod, I.ok.kind, I.ok.glob, I.ok.blt, I.ok.above, I.ok.inj, I.ok.has, fun x c _ => I.ok.cab x c (hf x), I.ok.hd, I.ok.frames, I.ok.stk, I.ok.exf, I.ok.bs, I.ok.bsz, I.ok.noex, I.ok.exfs, I.ok.funs, I.ok.frf⟩, I.os, I.bare, I.base, I.loc, I.cell, I.free, I.freeC, I.pin, I.hok, I.len⟩
end
end L2
namespace OD
variable {Z : Hp}
open PySem PySem.Spec PyProof.Rows L2
def Vw.del (W : Vw) (a : Addr) (hg : W.g a = none) : Vw := ⟨W.g, fun b => if b = a then none else W.h b, fun b o q => by
  have : b ≠ a := fun e => by rw [e, hg] at q; cases q
  show (if b = a then none else W.h b) = some o
  rw [if_neg this]
  exact W.sub _ _ q⟩
abbrev ASp := Dt → List Dt → List Dt → (List Dt → Prop) → Prop
def ArgSp (K : PySem.W.Frag) (S : ASp) : Sp := fun vs H Q _ => ∃ (W : Vw) (d0 : Dt) (es0 ds : List Dt) (Qd : List Dt → Prop) (v0 : V) (a : Addr) (xs vs' : List V) (hg : W.g a = none), W.h = H ∧ vs = v0 :: .ref a :: vs' ∧ W.h a = some (.lst xs) ∧ Is K W.g d0 v0 ∧ AllIs K W.g es0 xs ∧ AllIs K W.g ds vs' ∧ S d0 es0 ds Qd ∧
  ∀ es ys W', Le (W.del a hg) W' → W'.h a = some (.lst ys) → W'.g a = none → AllIs K W'.g es ys → Qd es → Q .non W'.h
structure AOk (P : Program) (w : World) (K : PySem.W.Frag) (mg : Str → Option Value) (base : Heap) (n : Nat) (x : Str) (S : ASp) : Prop where
  ex : ∃ f fd ps, mg x = some (.ref f) ∧ PySem.W.keepIn K (.ref f) = true ∧ Binds K fd ps [] ∧ FnOk P w K mg base CX0 n f fd ps (ArgSp K S)
section
variable {P : Program} {w : World} {K : PySem.W.Frag} {mg : Str → Option Value} {base : Heap}
theorem AOk.mk' {x qual : Str} {st : Stmt} {f : Addr} {fd : FuncData} {ps : List Str} {n : Nat} {S : ASp} (F : Fun K x qual st f fd) (hm : mg x = some (.ref f)) (hb : Binds K fd ps []) (h : FnOk P w K mg base CX0 n f fd ps (ArgSp K S)) : AOk P w K mg base n x S :=
  ⟨f, fd, ps, hm, F.kp, hb, h⟩
end
section
variable {X : Cx} {fr : Fr} {e e0 k : Expr} {es : List Expr} {t te tk : DTE} {ta : DTA} {n : Nat} {x y : Str} {S : ASp} {p pos p0 p1 p2 p3 : Pos} {i : Nat}
end
end OD

namespace OD
variable {Z : Hp}
open PySem PySem.Spec PyProof.Rows L2
section
variable {X : Cx} {tg : Expr}
variable {a b c : Expr} {ta : DTA} {p0 pos1 : Pos}
end
end OD

namespace L2
open PySem PySem.Spec PyProof.Rows
section
variable {X : Cx}
end
end L2
namespace OD
variable {Z : Hp}
open PySem PySem.Spec PyProof.Rows L2
abbrev DTB := Prop → (Addr → Prop) → DS → Prop
section
variable {X : Cx} {e : Expr} {es : List Expr} {t : DTA} {n : Nat} {x y m : Str} {j : Nat} {S : DSpX} {p pos py hpos epos tpos : Pos} {fr : Fr} {th : DTS} {c : Value} {b₀ : Stmt} {suite body : List Stmt} {d : DTB}
end
end OD

namespace OD
open PySem L2
variable {X : Cx} {e : Expr} {t : DTE}
end OD

namespace OD
open PySem L2 PyProof.Rows
section
variable {Z F : Hp} {K : PySem.W.Frag} {W W' W0 : Vw} {G : Hp} {ρ : DS} {σ : L2.St}
theorem snoc_get {α : Type} {l : List α} {x y : α} {i : Nat} (q : (l ++ [x])[i]? = some y) : l[i]? = some y ∨ (i = l.length ∧ x = y) := by
  rcases Nat.lt_trichotomy i l.length with h | h | h
  · rw [List.getElem?_append_left h] at q; exact .inl q
  · subst h
    rw [List.getElem?_append_right (Nat.le_refl _), Nat.sub_self] at q
    exact .inr ⟨rfl, Option.some.inj q⟩
  · rw [List.getElem?_eq_none (by rw [List.length_append]; show l.length + 1 ≤ i; omega)] at q
    cases q
theorem get_lt {α : Type} {l : List α} {y : α} {i : Nat} (q : l[i]? = some y) : i < l.length := by
  rcases Nat.lt_or_ge i l.length with h | h
  · exact h
  · rw [List.getElem?_eq_none h] at q; cases q
theorem snoc_ne {α : Type} {l : List α} {x : α} {i : Nat} (h : i < l.length) : (l ++ [x])[i]? = l[i]? := List.getElem?_append_left h
theorem Rl.push (r : Rl K Z F W ρ σ) : Rl K Z F W (ρ ++ [Sl.none]) (σ ++ [none]) := by
  have hs : ∀ i y, ρ[i]? = some y → (σ ++ [none])[i]? = σ[i]? := fun i y q => snoc_ne (by rw [← r.len]; exact get_lt q)
  have cl : ∀ i y, (ρ ++ [Sl.none])[i]? = some y → y ≠ Sl.none → ρ[i]? = some y := fun i y q hy => by
    rcases snoc_get q with q | ⟨_, e⟩
    · exact q
    · exact absurd e.symm hy
  refine ⟨by rw [List.length_append, List.length_append, r.len]; rfl, fun i d q => ?_, fun i ds q => ?_, fun i k ds es hik q1 q2 => ?_, r.fr, r.z, fun i c ds q => ?_⟩
  · have q := cl i _ q (fun z => nomatch z)
    rw [hs i _ q]; exact r.at_ i d q
  · have q := cl i _ q (fun z => nomatch z)
    rw [hs i _ q]; exact r.ow i ds q
  · have q1 := cl i _ q1 (fun z => nomatch z)
    have q2 := cl k _ q2 (fun z => nomatch z)
    rw [hs i _ q1, hs k _ q2]; exact r.ne i k ds es hik q1 q2
  · have q := cl i _ q (fun z => nomatch z)
    obtain ⟨⟨xs, h1, h2⟩, k1, k2⟩ := r.ar i c ds q
    refine ⟨⟨xs, by rw [hs i _ q]; exact h1, h2⟩, fun k es q' => ?_, fun k b es q' => k2 k b es (cl k _ q' (fun z => nomatch z))⟩
    have q' := cl k _ q' (fun z => nomatch z)
    rw [hs k _ q']; exact k1 k es q'
structure TAt (K : PySem.W.Frag) (Z : Hp) (W0 : Vw) (G : Hp) (W : Vw) (ρ : DS) (σ : L2.St) (i : Nat) (es : List Dt) (d : Dt) : Prop where
  ex : ∃ p q v, At K Z W0 G W (ρ ++ [.own es]) (σ ++ [some (.ref p)]) ∧ σ[i]? = some (some (.ref q)) ∧ W.g q = some (.tup [.ref p, v]) ∧ Is K W.g d v
variable {i : Nat} {es : List Dt} {d : Dt}
theorem TAt.step (t : TAt K Z W0 G W ρ σ i es d) (s : Le W W') : TAt K Z W0 G W' ρ σ i es d :=
  let ⟨p, q, v, a, h1, h2, h3⟩ := t.ex; ⟨p, q, v, a.step s, h1, s.g _ _ h2, h3.mono s⟩
abbrev DTG := List Dt → Dt → DTS
end
section
variable {X : Cx} {fr : Fr} {st : Stmt} {rest : List Stmt} {t : DTE} {u : DTS} {ug : DTG} {e : Expr} {te : DTE} {pos p0 p1 p2 p3 pos' : Pos} {i j : Nat} {x y : Str}
end
end OD

namespace OD
open PySem L2
section
variable {js : List Nat} {ta te : DTE} {X : Cx} {e : Expr} {fr : Fr} {st : Stmt} {i : Nat}
theorem each_t {s : DS} {P R : Prop} : (dEach s fun b => if b = true then P else R) = P := by show (if true = true then P else R) = P; rw [if_pos rfl]
theorem one_t {e : Dt} {s : List Dt → DS} {P R : List Dt → Prop} (h : ∃ as, dOne e as ∧ dEach (s as) fun b => if b = true then P as else R as) : P [e] := by
  obtain ⟨as, z, h⟩ := h
  cases z
  exact each_t.mp h
theorem compL_eq : dCompLC js ta te = dCompG js (dOver ta) dOne dEach te := funext fun ρ => funext fun Q => congrArg (ta ρ) (funext fun d => propext
  ⟨fun ⟨ds, Pv, h1, h3, h4, h5, h6⟩ => ⟨ds, h1, h3, Pv, h4, fun i e es _ he hp => ⟨_, rfl, each_t.mpr (h5 i e es he hp)⟩, h6⟩,
   fun ⟨ds, h1, h3, Pv, h4, h5, h6⟩ => ⟨ds, Pv, h1, h3, h4, fun i e es he hp => one_t (h5 i e es (get_lt he) he hp), h6⟩⟩)
theorem compP_eq : dComp ta te = dCompG [] (dOver ta) dOne dEach te := (show dComp ta te = dCompLC [] ta te from rfl).trans compL_eq
theorem cgP_P (h : DSt X fr st (dSet i (dCompG [] (dOver ta) dOne dEach te))) : DSt X fr st (dSet i (dComp ta te)) := compP_eq ▸ h
end
end OD

namespace L2
open PySem PySem.Spec PyProof.Rows
section
variable {X : Cx} {o e : Expr} {es : List Expr} {n : Nat} {m x : Str} {pos p apos py epos : Pos} {i : Nat}
end
end L2
namespace OD
variable {Z : Hp}
open PySem PySem.Spec PyProof.Rows L2
structure MOkX (P : Program) (w : World) (K : PySem.W.Frag) (mg : Str → Option Value) (base : Heap) (n : Nat) (C : Addr) (m : Str) (S : DSpX) : Prop where
  cl : Cls K C
  ex : ∃ f fd ps, Meth K C m f ∧ Binds K fd ps [] ∧ FnOk P w K mg base (CX1 P w) n f fd ps (PureSpX K S)
theorem MOkX.mono {P : Program} {w : World} {K : PySem.W.Frag} {mg : Str → Option Value} {base : Heap} {C : Addr} {x : Str} {m n : Nat} {S : DSpX} (h : MOkX P w K mg base m C x S) (hl : m ≤ n) : MOkX P w K mg base n C x S :=
  let ⟨f, fd, ps, a, b, c⟩ := h.ex; ⟨h.cl, f, fd, ps, a, b, c.mono hl⟩
abbrev DTC := (DS → Prop) → (Addr → Prop) → DS → Prop
section
variable {X : Cx} {o e : Expr} {es : List Expr} {t : DTA} {ta : DTE} {n : Nat} {x y m z : Str} {i j : Nat} {S : DSpX} {p pos py hpos epos tpos apos : Pos} {fr : Fr} {th : DTS} {c : Value} {b₀ : Stmt} {suite body : List Stmt} {d : DTC}
end
end OD

namespace OD
variable {Z : Hp}
open PySem PySem.Spec PyProof.Rows L2
section
variable {X : Cx} {a b : Expr} {ta : DTA} {te : DTE} {p0 pos pos1 tpos : Pos} {elts : List Expr} {x1 : Nat}
end
end OD

namespace OD
open PySem L2 PyProof.Rows
def MvSp (K : PySem.W.Frag) (S : DSp) : Sp := fun vs H Q _ => ∃ (W : Vw) (d0 : Dt) (es0 ds : List Dt) (Qd : Dt → Prop) (v0 : V) (a : Addr) (xs vs' : List V) (hg : W.g a = none), W.h = H ∧ vs = v0 :: .ref a :: vs' ∧ W.h a = some (.lst xs) ∧ Is K W.g d0 v0 ∧ AllIs K W.g es0 xs ∧ AllIs K W.g ds vs' ∧ S (d0 :: .lst es0 :: ds) Qd ∧
  ∀ es p ys W', Le (W.del a hg) W' → (W.del a hg).h p = none → W'.h p = some (.lst ys) → W'.g p = none → AllIs K W'.g es ys → Qd (.lst es) → Q (.ref p) W'.h
structure VOk (P : Program) (w : World) (K : PySem.W.Frag) (mg : Str → Option Value) (base : Heap) (n : Nat) (x : Str) (S : DSp) : Prop where
  ex : ∃ f fd ps, mg x = some (.ref f) ∧ PySem.W.keepIn K (.ref f) = true ∧ Binds K fd ps [] ∧ FnOk P w K mg base CX0 n f fd ps (MvSp K S)
section
variable {P : Program} {w : World} {K : PySem.W.Frag} {mg : Str → Option Value} {base : Heap}
theorem VOk.mk' {x qual : Str} {st : Stmt} {f : Addr} {fd : FuncData} {ps : List Str} {n : Nat} {S : DSp} (F : Fun K x qual st f fd) (hm : mg x = some (.ref f)) (hb : Binds K fd ps []) (h : FnOk P w K mg base CX0 n f fd ps (MvSp K S)) : VOk P w K mg base n x S :=
  ⟨f, fd, ps, hm, F.kp, hb, h⟩
end
section
variable {X : Cx} {e0 e1 : Expr} {es : List Expr} {t tf : DTE} {ta : DTA} {n : Nat} {x : Str} {S : DSp} {p pos : Pos}
def dIsiS (ta : DTE) : DTE := fun ρ Q => ta ρ fun d => ∃ x, d = .str x ∧ Q (.bl true)
theorem de_isiS {a : Expr} {ta : DTE} {p' : Pos} (hm : X.mg "isinstance" = none) (hmc : X.mg "str" = none) (ha : DE X a ta)
    (hg : Gl X "isinstance" := by rfl) (hgc : Gl X "str" := by rfl)
    (hs : starEach [a, .Name "str" p'] X.env = (false, eval a X.env) :: starEach [.Name "str" p'] X.env := by rfl) (hs2 : starEach [.Name "str" p'] X.env = (false, eval (.Name "str" p') X.env) :: starEach [] X.env := by rfl)
    (hpl : (backTo pos (starEach [.Name "str" p'] X.env)).any (·.1) = false := by rfl) :
    DE X (.Call (.Name "isinstance" p) [a, .Name "str" p'] [] pos) (dIsiS ta) := by
  obtain ⟨te, p1, l1⟩ := ha
  have pc : PE X (.Name "str" p') (tC (.ty "str")) := pe_bltn hgc hmc PyProof.Rows.boot_str rfl (by decide) (by decide)
  refine ⟨_, pe_callB call_isi hg hm boot_isinstance (pa_cons p1 (pa_cons pc pa_nil hs2) hs) (by decide) (by decide) hs hpl, fun ρ σ H Q r h R k => l1 ρ σ H _ r h _ fun d v H1 s1 i1 ⟨x, e, q⟩ => ?_⟩
  subst e
  obtain rfl := is_str.mp i1
  exact ⟨.str x, "str", _, true, rfl, .str x, kit_same, k _ _ H1 s1 (is_bl.mpr rfl) q⟩
end
end OD

namespace L2
open PySem PySem.Spec PyProof.Rows
section
variable {X : Cx} {a b : Expr} {ta tb : TE} {x1 x2 : Str} {p1 p2 p3 p4 pos : Pos}
end
end L2
namespace OD
open PySem PySem.Spec PyProof.Rows L2
section
variable {X : Cx} {a b : Expr} {ta tb : DTE} {x1 x2 : Str} {p1 p2 p3 p4 pos : Pos}
end
section
variable {X : Cx} {e : Expr} {es : List Expr} {t : DTA} {n : Nat} {x : Str} {p pos : Pos}
end
section
variable {P : Program} {w : World} {K : PySem.W.Frag} {mg : Str → Option Value} {base : Heap}
end
end OD

namespace OD
variable {Z : Hp}
open PySem PySem.Spec PyProof.Rows L2
section
variable {X : Cx} {tg : Expr}
variable {a b c : Expr} {ta : DTA} {p0 pos1 : Pos}
end
end OD
namespace L2
open PySem PySem.Spec PyProof.Rows
section
variable {prog : Program} {w : World} {A : Around} {E : Value → Shared → Prop} {s : Shared}
end
section
variable {X : Cx} {pos : Pos}
end
end L2
namespace OD
open PySem PySem.Spec PyProof.Rows L2
section
variable {X : Cx} {fr : Fr} {e : Expr} {te : DTE} {pos : Pos}
end
end OD

namespace L2
open PySem PySem.Spec PyProof.Rows
section
variable {X : Cx}
theorem Vals.oneS {x : Str} {us : List Value} (h : Vals [.str x] us) : ∃ t, us = [.str x t] := by
  obtain ⟨u, rfl, t, rfl⟩ := h.one
  exact ⟨t, rfl⟩
theorem mt_starts : MtR X "str.startswith" (fun x vs H Q => ∃ z y, x = .str z ∧ vs = [.str y] ∧ Q (.bl (Txt.startswith z y)) H) := by
  intro pins s σ H x vs v us Q I rx rv h
  obtain ⟨z, y, rfl, rfl, q⟩ := h
  obtain ⟨t, rfl⟩ := rx
  obtain ⟨u, rfl⟩ := rv.oneS
  exact call_gives PySem.F.slot_str_startswith (typeIs_str s z t) PySem.F.entry_str_startswith (PySem.F.args_str_startswith_2 _ _) (gives_str_startswith z y t u) ⟨.bl _, H, I, rfl, q⟩
def rSlS : V → Option Int → Option Int → Hp → VK → Prop := fun x lo hi H Q => ∃ z, x = .str z ∧ z.length ≤ sizeLine ∧ Q (.str (Txt.slice z lo hi)) H
theorem part_is {v : Value} {o : Option Int} (h : IsPart v o) : ∃ l : Option (Int × Tok), partValue l = v ∧ l.map (·.1) = o := by
  cases h with
  | none => exact ⟨none, rfl, rfl⟩
  | int i t => exact ⟨some (i, t), rfl, rfl⟩
theorem sl_str : SlR X rSlS := by
  intro pins s σ H x v vl vu lo hi sl Q I rx hs pl pu h
  obtain ⟨z, rfl, hl, q⟩ := h
  obtain ⟨t, rfl⟩ := rx
  obtain ⟨l, rfl, el⟩ := part_is pl
  obtain ⟨u, rfl, eu⟩ := part_is pu
  have hs' : s.heap.IsSlice sl l u none := hs
  refine ⟨"str", _, PySem.F.slot_str_getitem.lookup, typeIs_str s z t, wpAny_getItem_str_slice hs' rfl ?_⟩
  have key : ∀ t' k, EP X pins σ Q (.str (Txt.slice z (l.map (·.1)) (u.map (·.1))) t') { s with toks := k } := fun t' k => ⟨.str _, H, I.tok _, ⟨_, rfl⟩, by rw [el, eu]; exact q⟩
  exact post_val_or_str ⟨Nat.le_trans (Txt.slice_le z _ _) hl, key⟩
end
end L2
namespace OD
open PySem PySem.Spec PyProof.Rows L2
section
variable {X : Cx} {a b e : Expr} {ta tb t : DTE} {p pos p0 : Pos} {x : Str}
def gCatS : Dt → Dt → (Dt → Prop) → Prop := fun d e Q => ∃ x y, d = .str x ∧ e = .str y ∧ x.length + y.length ≤ 16777216 ∧ Q (.str (x ++ y))
theorem o_catS : DOp X (binaryOp .Add) gCatS := by
  refine ⟨_, op_add_str, fun H x y d e Q i1 i2 ⟨u, v, ed, ee, hl, q⟩ R k => ?_⟩
  subst ed
  subst ee
  exact ⟨u, v, is_str.mp i1, is_str.mp i2, by rw [sizeLine_eq]; exact hl, k _ _ H (Le.refl H) (is_str.mpr rfl) q⟩
def occ (y x : Str) : Bool := !(Builtin.Str.occurrences x y 0 x.length 1).isEmpty
theorem o_notinT : DOp X (compareOp .NotIn) (gS fun y x => .bl (!occ y x)) := by
  refine ⟨_, op_notin_str, fun H x y d e Q i1 i2 ⟨u, v, ed, ee, q⟩ R k => ?_⟩
  subst ed
  subst ee
  exact ⟨u, v, is_str.mp i1, is_str.mp i2, k _ _ H (Le.refl H) (is_bl.mpr rfl) q⟩
def dLenS (ta : DTE) : DTE := fun ρ Q => ta ρ fun d => ∃ x, d = .str x ∧ x.length ≤ 16777216 ∧ Q (.int x.length)
theorem de_lenS (hg : Gl X "len") (hm : X.mg "len" = none) (ha : DE X a ta) (hs : starEach [a] X.env = (false, eval a X.env) :: starEach [] X.env := by rfl) (hpl : (backTo pos (starEach [] X.env)).any (·.1) = false := by rfl) :
    DE X (.Call (.Name "len" p0) [a] [] pos) (dLenS ta) := by
  obtain ⟨te, p1, l1⟩ := ha
  refine ⟨_, pe_callB call_len_str hg hm PySem.boot_len (pa_cons p1 pa_nil hs) (by decide) (by decide) hs hpl, fun ρ σ H Q r h R k => l1 ρ σ H _ r h _ fun d v H1 s1 i1 ⟨x, ed, hl, q⟩ => ?_⟩
  subst ed
  exact ⟨x, by rw [is_str.mp i1], by rw [sizeLine_eq]; exact hl, k _ _ H1 s1 (is_int.mpr rfl) q⟩
def dStr (ta : DTE) : DTE := fun ρ Q => ta ρ fun d => ∃ i : Int, d = .int i ∧ i.natAbs.log2 < 1920 ∧ Q (.str (toString i))
theorem de_strI (hg : Gl X "str") (hm : X.mg "str" = none) (ha : DE X a ta) (hs : starEach [a] X.env = (false, eval a X.env) :: starEach [] X.env := by rfl) (hpl : (backTo pos (starEach [] X.env)).any (·.1) = false := by rfl) :
    DE X (.Call (.Name "str" p0) [a] [] pos) (dStr ta) := by
  obtain ⟨te, p1, l1⟩ := ha
  refine ⟨_, pe_callTy call_str_int hg hm PyProof.Rows.boot_str (pa_cons p1 pa_nil hs) (by decide) (by decide) hs hpl, fun ρ σ H Q r h R k => l1 ρ σ H _ r h _ fun d v H1 s1 i1 ⟨i, ed, hl, q⟩ => ?_⟩
  subst ed
  exact ⟨i, by rw [is_int.mp i1], hl, k _ _ H1 s1 (is_str.mpr rfl) q⟩
def dItS (ta tb : DTE) : DTE := dOp (fun d e Q => ∃ x i c, d = .str x ∧ e = .int i ∧ 0 ≤ i ∧ i < 2 ^ 63 ∧ i < x.length ∧ x.cps[i.toNat]? = some c ∧ Q (.str ⟨#[c]⟩)) ta tb
theorem de_itS (ha : DE X a ta) (hb : DE X b tb) (hs : PlainIxT b := by intro _ _; rfl) : DE X (.Subscript a b pos) (dItS ta tb) := by
  obtain ⟨te, p1, l1⟩ := ha
  obtain ⟨tf, p2, l2⟩ := hb
  refine ⟨_, pe_item_str p1 p2 hs, liOp l1 l2 fun H x y d e Q i1 i2 ⟨z, i, c, ed, ee, h0, h1, h2, hc, q⟩ R k => ?_⟩
  subst ed
  subst ee
  exact ⟨z, i, c, is_str.mp i1, is_int.mp i2, h0, h1, h2, hc, k _ _ H (Le.refl H) (is_str.mpr rfl) q⟩
theorem de_gstr {y : Str} {tk : Tok} (hg : Gl X x) (hm : X.mg x = some (.str y tk)) (hd : (x == ("__debug__" : Str)) = false := by decide) : DE X (.Name x pos) (dC (.str y)) :=
  ⟨_, pe_glob hg hm (v := .str y) ⟨tk, rfl⟩ hd, fun ρ σ H Q r h R k => k (.str y) (.str y) H (Le.refl H) (is_str.mpr rfl) h⟩
def dMt (f : Str → Str → Dt) (ta tb : DTE) : DTE := fun ρ Q => ta ρ fun d => ∃ x, d = .str x ∧ x.length ≤ 16777216 ∧ tb ρ fun e => ∃ y, e = .str y ∧ Q (f x y)
variable {apos cpos : Pos}
theorem de_starts (ha : DE X a ta) (hb : DE X b tb) (hbase : attributeBase a "startswith" X.env (eval a X.env) = eval a X.env := by rfl)
    (hfew : ((backTo cpos (starEach [b] X.env)).all (fun x => !x.1) && (backToKw cpos (keywordEach [] X.env)).all (fun x => x.1.isSome)
      && decide ([b].length + ([] : List Keyword).length + (if ([] : List Keyword).isEmpty then 0 else 1) < 30)) = true := by rfl)
    (hline : (apos.endLine == cpos.line) = true := by rfl) (hs : starEach [b] X.env = (false, eval b X.env) :: starEach [] X.env := by rfl) (hpl : (backTo cpos (starEach [] X.env)).any (·.1) = false := by rfl) :
    DE X (.Call (.Attribute a "startswith" apos) [b] [] cpos) (dMt (fun x y => .bl (Txt.startswith x y)) ta tb) := by
  obtain ⟨te, p1, l1⟩ := ha
  obtain ⟨tf, p2, l2⟩ := hb
  refine ⟨_, pe_bm PySem.F.plainAttrs_str PySem.F.slot_str_startswith PySem.F.type_str_startswith mt_starts p1 (pa_cons p2 pa_nil hs) hbase hfew hline hs hpl, fun ρ σ H Q r h R k => l1 ρ σ H _ r h _ fun d v H1 s1 i1 ⟨x, ed, hl, q1⟩ => ?_⟩
  subst ed
  obtain rfl := is_str.mp i1
  refine ⟨rfl, l2 ρ σ H1 _ (r.mono s1) q1 _ fun e u H2 s2 i2 ⟨y, ee, q2⟩ => ?_⟩
  subst ee
  obtain rfl := is_str.mp i2
  exact ⟨x, y, rfl, rfl, k _ _ H2 (s1.trans s2) (is_bl.mpr rfl) q2⟩
def dSlT (te : DTE) (tl th : DTO) : DTE := fun ρ Q => te ρ fun d => tl ρ fun l => th ρ fun u => ∃ x, d = .str x ∧ x.length ≤ 16777216 ∧ Q (.str (Txt.slice x l u))
theorem de_sliceT {lo hi : Option Expr} {tl th : DTO} {p2 : Pos} (ha : DE X a ta) (hl : DO X lo tl) (hu : DO X hi th) : DE X (.Subscript a (.Slice lo hi none p2) pos) (dSlT ta tl th) := by
  obtain ⟨te, p1, l1⟩ := ha
  obtain ⟨tf, p2, l2⟩ := hl
  obtain ⟨tg, p3, l3⟩ := hu
  refine ⟨_, pe_slice sl_str p1 p2 p3, fun ρ σ H Q r h R k => l1 ρ σ H _ r h _ fun d v H1 s1 i1 q1 => l2 ρ σ H1 _ (r.mono s1) q1 _ fun l H2 s2 q2 => l3 ρ σ H2 _ (r.mono (s1.trans s2)) q2 _ fun u H3 s3 ⟨x, ed, hx, q⟩ => ?_⟩
  subst ed
  exact ⟨x, is_str.mp i1, by rw [sizeLine_eq]; exact hx, k _ _ H3 ((s1.trans s2).trans s3) (is_str.mpr rfl) q⟩
end
end OD
namespace L2
open PySem PySem.Spec PyProof.Rows
def ItS (z : Str) : It := ⟨fun i _ => i < z.cps.size, fun i H x H' => H' = H ∧ ∃ c, z.cps[i]? = some c ∧ x = .str ⟨#[c]⟩, fun i _ => z.cps.size ≤ i⟩
theorem turn_ascii {P : Program} {w : World} {K : PySem.W.Frag} {tg : Expr} (it : Addr) (z : Str) (t : Tok) : Turn P w K tg (ItS z) [it] it (fun i h => h.IsStrIter it "str_ascii_iterator" z t i) where
  mem := by simp
  obj := fun i h st b hb => by
    have e : b = it := by simpa using hb
    subst e
    obtain ⟨o, e, c, d⟩ := st
    exact ⟨o, e, fun v z => by rw [d] at z; cases z⟩
  keep := fun i h h' st k => by
    obtain ⟨o, e, r⟩ := st
    exact ⟨o, k it (by simp) o e, r⟩
  item := by
    intro X hP hw hK hc i pins s σ H E I hf st hg
    subst hP hw hK
    obtain ⟨f0, f1, f2, f3, f4, f5⟩ := hf it (by simp)
    have hg : i < z.cps.size := hg
    have W := Walks.strAscii (prog := X.prog) (w := X.w) (I.ok.hd hc) it z t
    refine W.item i s _ _ hg st fun v h' tk hv st' kk => ?_
    obtain ⟨c, u, ec, rfl⟩ := hv
    have I1 : Inv X pins σ H { s with heap := h', toks := tk } := I.turned (fun b o hb e => kk b o (by simpa using hb) e) f0 f1 f3 f4 f5
    obtain ⟨o, e, cl, d⟩ := id st'
    exact ⟨_, rfl, go_of (s := { s with heap := h', toks := tk }) e cl d (by decide) ⟨.str ⟨#[c]⟩, H, I1, ⟨u, rfl⟩, ⟨rfl, c, ec, rfl⟩, st', fun b hb => (hf b hb).1⟩⟩
  done := by
    intro X hP hw hK hc i pins s σ H E I hf st hg
    subst hP hw hK
    obtain ⟨f0, f1, f2, f3, f4, f5⟩ := hf it (by simp)
    have hg : z.cps.size ≤ i := hg
    exact wpAny_pyNext_ascii_end (I.ok.hd hc) st (by simp; omega) fun h' eb => ⟨rfl, I.turned (t' := s.toks) (fun b o hb e => eb b o hb e) f0 f1 f3 f4 f5⟩
  self := fun _ _ _ _ _ st h => wpAny_pyIter_striter_ascii st h
section
variable {X : Cx} {tg : Expr}
def iTxt (tl : TE) : TI := fun σ H R => tl σ H fun v H1 => ∃ z, v = .str z ∧ z.cps.all (· < 128) = true ∧ R (ItS z) H1
theorem pi_txt {l : Expr} {tl : TE} (hl : PE X l tl) : PI X tg l (iTxt tl) := by
  intro pins s σ H R I h
  refine thn (hl pins s σ H _ I h) fun v s1 ⟨x, H1, I1, r1, q1⟩ => ?_
  obtain ⟨z, e, ha, q⟩ := q1
  subst e
  obtain ⟨t, rfl⟩ := r1
  refine wpAny_pyIter_ascii ha ?_
  refine ⟨s1.heap.objs.size, [s1.heap.objs.size], _, _, H1, rfl, I1.kept (t' := s1.toks) fun b o e => Heap.get?_push_of_some _ e, turn_ascii _ z t, ⟨_, Heap.get?_push_size _ rfl, rfl, rfl⟩, fun b hb => ?_, q⟩
  have e : b = s1.heap.objs.size := by simpa using hb
  subst e
  exact I1.fpOk (Nat.le_refl _) (I1.hok.fresh (Nat.le_refl _))
theorem for_txt {z : Str} {g : TG} {tb : TS} {D : Ends} {σ : St} {H : Hp} (Pv : Nat → St → Hp → Prop) (h0 : Pv 0 σ H)
    (hs : ∀ i c σ H, z.cps[i]? = some c → Pv i σ H → g (.str ⟨#[c]⟩) σ H fun σ2 H2 => tb { D with nx := Pv (i + 1), ct := Pv (i + 1), bk := D.nx } σ2 H2) (hd : ∀ σ H, Pv z.cps.size σ H → D.nx σ H) :
    ∃ W : Nat → Nat → St → Hp → Prop, (∃ m, W 0 m σ H) ∧ ∀ i m σ H, W i m σ H →
      ((ItS z).stop i H ∧ D.nx σ H) ∨ ((ItS z).go i H ∧ ∃ N : St → Hp → Prop, (∀ σ' H', N σ' H' → ∃ m', m' < m ∧ W (i + 1) m' σ' H') ∧ ∀ x H', (ItS z).yld i H x H' → g x σ H' fun σ2 H2 => tb { D with nx := N, ct := N, bk := D.nx } σ2 H2) := by
  refine ⟨fun i m σ H => m = z.cps.size - i ∧ i ≤ z.cps.size ∧ Pv i σ H, ⟨z.cps.size, by simp, Nat.zero_le _, h0⟩, ?_⟩
  rintro i m σ H ⟨rfl, hi, p⟩
  by_cases hlt : i < z.cps.size
  · refine .inr ⟨hlt, Pv (i + 1), fun σ' H' p' => ⟨z.cps.size - (i + 1), by omega, rfl, hlt, p'⟩, fun x H' y => ?_⟩
    obtain ⟨e, c, ec, y⟩ := y
    subst e y
    exact hs i c σ _ ec p
  · have e : i = z.cps.size := by omega
    subst e
    exact .inl ⟨Nat.le_refl _, hd σ H p⟩
end
end L2
namespace OD
open PySem PySem.Spec PyProof.Rows L2
section
variable {X : Cx} {fr : Fr} {te : DTE} {pos : Pos}
def dForT (j : Nat) (te : DTE) (tb : DTS) : DTS := fun D ρ => te ρ fun d => ∃ (x : Str) (Pv : Nat → DS → Prop), d = .str x ∧ x.cps.all (· < 128) = true ∧ Pv 0 ρ ∧
  (∀ i c ρ', x.cps[i]? = some c → Pv i ρ' → tb { D with nx := Pv (i + 1), ct := Pv (i + 1), bk := D.nx } (ρ'.set j (.some (.str ⟨#[c]⟩)))) ∧ ∀ ρ', Pv x.cps.size ρ' → D.nx ρ'
theorem ds_forT {j : Nat} {x : Str} {a : Expr} {body : List Stmt} {tb : DTS} {px : Pos} (hc : X.calm = true) (hN : X.N.Nodup) (hi : X.N[j]? = some x) (hx : Loc X.env.scope x) (hp : PassesOwn (model X.prog X.w) X.A X.env X.xe)
    (h : DE X a te) (hb : DSs X fr body tb) (hs : ∀ x, foldedSetIterable a X.env x = pure x := by intro _; rfl)
    (hf : X.fn x = true ∨ X.env.scope.names.lookup x = some .local := by first | exact .inl rfl | exact .inr rfl | assumption) : DSt X fr (.For (.Name x px) a body [] pos) (dForT j te tb) := by
  obtain ⟨tt, p, l⟩ := h
  obtain ⟨tbs, p2, l2⟩ := hb
  refine ⟨_, ps_for hp hc (pi_txt p) (pg_name hN hi hx hf) p2 hs, fun W0 G ρ σ W D D' at_ s h => l ρ σ W _ at_.rl h _ fun d v W1 s1 i1 ⟨z, Pv, ed, hz, h0, ht, hd⟩ => ?_⟩
  subst ed
  have hg : Same G W1.g := at_.gs.trans s1.g
  refine ⟨z, is_str.mp i1, hz, for_txt (fun i => InL X.K (Zx X) W0 W1 (Pv i)) ⟨ρ, W1, rfl, (at_.step s1).now, h0⟩ ?_ ?_⟩
  · rintro i c σ' _ ec ⟨ρ', W2, rfl, a2, hp2⟩
    exact l2 W0 W1.g _ _ W2 { D with nx := Pv (i + 1), ct := Pv (i + 1), bk := D.nx } _ (a2.set j (is_str.mpr rfl)) (sim_loop s hg) (ht i c ρ' ec hp2)
  · rintro σ' _ ⟨ρ', W2, rfl, a2, hp2⟩
    exact s.nx ρ' σ' W2 (a2.weak hg) (hd ρ' hp2)
end
end OD

namespace OD
open PySem
local macro_rules | `(tactic| walk_at "ws") => `(tactic| any_goals (first | assumption | wp_step))
def isDg (c : Nat) : Prop := 48 ≤ c ∧ c ≤ 57
def dgs (l : List Nat) : Nat := l.foldl (fun a c => a * 10 + (c - 48)) 0
def dgVal : List Nat → Int
  | 45 :: r => -(dgs r : Int)
  | l => dgs l
def Numl (l : List Nat) : Prop := l = [48] ∨ ∃ c r, 49 ≤ c ∧ c ≤ 57 ∧ (∀ x ∈ r, isDg x) ∧ (l = c :: r ∨ l = 45 :: c :: r)
theorem Numl.mem {l : List Nat} (h : Numl l) : ∀ c ∈ l, 45 ≤ c ∧ c ≤ 57 := by
  rcases h with rfl | ⟨c, r, c1, c2, hr, rfl | rfl⟩
  · intro c hc
    rw [List.mem_singleton.mp hc]; decide
  · intro x hx
    rcases List.mem_cons.mp hx with rfl | hx
    · omega
    · have := hr x hx
      unfold isDg at this; omega
  · intro x hx
    rcases List.mem_cons.mp hx with rfl | hx
    · decide
    rcases List.mem_cons.mp hx with rfl | hx
    · omega
    · have := hr x hx
      unfold isDg at this; omega
theorem ten {c : Nat} (h : isDg c) : c = 48 ∨ c = 49 ∨ c = 50 ∨ c = 51 ∨ c = 52 ∨ c = 53 ∨ c = 54 ∨ c = 55 ∨ c = 56 ∨ c = 57 := by
  unfold isDg at h; omega
theorem takeWhile_all {p : Nat → Bool} : ∀ {l : List Nat}, (∀ x ∈ l, p x = true) → l.takeWhile p = l
  | [], _ => rfl
  | c :: r, h => by rw [List.takeWhile_cons, if_pos (h c List.mem_cons_self), takeWhile_all fun x hx => h x (List.mem_cons_of_mem _ hx)]
theorem fold_dg {f : Array Nat × Bool → Nat → Option (Array Nat × Bool)} (hf : ∀ a b c, isDg c → f (a, b) c = some (a.push (c - 48), true)) : ∀ (l : List Nat) (a : Array Nat) (b : Bool), (∀ x ∈ l, isDg x) → l.foldlM f (a, b) = some (a ++ (l.map (· - 48)).toArray, b || !l.isEmpty)
  | [], a, b, _ => by simp
  | c :: r, a, b, h => by
    rw [List.foldlM_cons, hf a b c (h c List.mem_cons_self)]
    show r.foldlM f (a.push (c - 48), true) = _
    rw [fold_dg hf r _ _ fun x hx => h x (List.mem_cons_of_mem _ hx)]
    simp
theorem drop_last {p : Nat → Bool} (hp : ∀ c, isDg c → p c = false) : ∀ (l : List Nat), (∀ x ∈ l, isDg x) → l ≠ [] → (l.reverse.dropWhile p).reverse = l := fun l h hn => by
  cases e : l.reverse with
  | nil => simp at e; exact absurd e hn
  | cons c r =>
    rw [List.dropWhile_cons, hp c (h c (by rw [← List.mem_reverse, e]; exact List.mem_cons_self))]
    simp only [Bool.false_eq_true, if_false]
    rw [← e, List.reverse_reverse]
theorem numl_core {N : Type} {R inv lib : N} {tl : Nat → N} {val : Int → N} {p : Nat → Bool} {f : Array Nat × Bool → Nat → Option (Array Nat × Bool)} {g : Array Nat × Bool → Option (Array Nat)} {cs : List Nat} {neg : Bool}
    (hR : R = (match (cs.reverse.dropWhile p).reverse.foldlM f (#[], false) >>= g with
      | none => inv
      | some ds => if (![2, 4, 8, 16, 32].contains 10 && 0 != 0 && decide (ds.size > 0)) = true then tl ds.size else if (10 == 10 && decide (ds.size > 6000)) = true then lib else
        if (false && ds.foldl (fun acc d => acc * 10 + d) 0 != 0) = true then inv else val (if neg = true then -((ds.foldl (fun acc d => acc * 10 + d) 0 : Nat) : Int) else ((ds.foldl (fun acc d => acc * 10 + d) 0 : Nat) : Int))))
    (hf : ∀ a b c, isDg c → f (a, b) c = some (a.push (c - 48), true)) (hp : ∀ c, isDg c → p c = false) (hg : ∀ a, g (a, true) = some a) (hd : ∀ x ∈ cs, isDg x) (hn : cs ≠ []) (hl : cs.length ≤ 640) :
    R = val (if neg = true then -(dgs cs : Int) else dgs cs) := by
  rw [hR, drop_last hp cs hd hn, fold_dg hf cs _ _ hd]
  have e : (false || !cs.isEmpty) = true := by cases cs <;> first | rfl | exact absurd rfl hn
  rw [e]
  show (match g (#[] ++ (cs.map (· - 48)).toArray, true) with | none => inv | some ds => _) = _
  rw [hg]
  have sz : (#[] ++ (cs.map (· - 48)).toArray : Array Nat).size = cs.length := by simp
  have fo : (#[] ++ (cs.map (· - 48)).toArray : Array Nat).foldl (fun acc d => acc * 10 + d) 0 = dgs cs := by simp [dgs, List.foldl_map]
  show (if (![2, 4, 8, 16, 32].contains 10 && 0 != 0 && decide ((#[] ++ (cs.map (· - 48)).toArray : Array Nat).size > 0)) = true then _ else _) = _
  rw [if_neg (by simp), if_neg (by rw [sz]; simp; omega), if_neg (by simp), fo]
theorem meets_int_new_str (x : Str) (t : Tok) (hx : Numl x.cps.toList) (hl : x.cps.toList.length ≤ 640) :
    Meets (Builtin.«int.__new__» ⟨[.type "int", .str x t], []⟩) (Made.int (dgVal x.cps.toList)).spec :=
  Meets.of_wp fun prog w A R s h => by
    obtain ⟨hp, g, d, tk, os⟩ := s
    have hm := hx.mem
    have ha : x.cps.all (· < 128) = true := by
      rw [← Array.all_toList, List.all_eq_true]
      intro c hc
      have := hm c hc
      exact decide_eq_true (by omega)
    have hz : x.cps.toList.takeWhile (· != 0) = x.cps.toList := takeWhile_all fun c hc => by
      have := hm c hc
      simp
      omega
    clear hm
    have f1 := F.conv_sub_int
    have f2 := F.madeHere_int
    have f3 : typeLookup (.type "str") "__int__" = pure none := by rw [typeLookup_type, builtinLookup_eq_fast]; kernel_rfl
    have f4 : typeLookup (.type "str") "__index__" = pure none := by rw [typeLookup_type, builtinLookup_eq_fast]; kernel_rfl
    have f5 : typeLookup (.type "str") "__trunc__" = pure none := by rw [typeLookup_type, builtinLookup_eq_fast]; kernel_rfl
    iterate 48 walk_at "ws"
    simp only [ha, if_true]
    repeat walk_at "ws"
    simp only [hz, hl, if_true]
    repeat walk_at "ws"
    generalize x.cps.toList = l at *
    rcases hx with rfl | ⟨c, r, c1, c2, hr, rfl | rfl⟩
    · split
      · rename_i heq
        injection heq
      · rename_i heq
        injection heq
      · rename_i heq
        injection heq with heq
        subst heq
        repeat walk_at "ws"
        exact ⟨_, rfl, h⟩
      · rename_i heq
        injection heq
    all_goals
      have nn : c = 49 ∨ c = 50 ∨ c = 51 ∨ c = 52 ∨ c = 53 ∨ c = 54 ∨ c = 55 ∨ c = 56 ∨ c = 57 := by omega
      have hd : ∀ x ∈ c :: r, isDg x := fun x hx => by
        rcases List.mem_cons.mp hx with rfl | hx
        · exact ⟨by omega, by omega⟩
        · exact hr x hx
      have hl' : (c :: r).length ≤ 640 := by simp only [List.length_cons] at hl ⊢; omega
    · have hv : (if false = true then -(dgs (c :: r) : Int) else dgs (c :: r)) = dgVal (c :: r) := by
        rcases nn with rfl | rfl | rfl | rfl | rfl | rfl | rfl | rfl | rfl <;> rfl
      split
      all_goals
        rename_i heq
        have e := (numl_core (neg := false) (cs := c :: r) (by rcases nn with rfl | rfl | rfl | rfl | rfl | rfl | rfl | rfl | rfl <;> rfl) (fun a b c h => by rcases ten h with rfl | rfl | rfl | rfl | rfl | rfl | rfl | rfl | rfl | rfl <;> rfl) (fun c h => by rcases ten h with rfl | rfl | rfl | rfl | rfl | rfl | rfl | rfl | rfl | rfl <;> rfl) (fun a => rfl) hd (fun z => nomatch z) hl').symm.trans heq
      · injection e
      · injection e
      · injection e with e
        rw [hv] at e
        subst e
        repeat walk_at "ws"
        exact ⟨_, rfl, h⟩
      · injection e
    · split
      all_goals
        rename_i heq
        have e := (numl_core (neg := true) (cs := c :: r) (by rcases nn with rfl | rfl | rfl | rfl | rfl | rfl | rfl | rfl | rfl <;> rfl) (fun a b c h => by rcases ten h with rfl | rfl | rfl | rfl | rfl | rfl | rfl | rfl | rfl | rfl <;> rfl) (fun c h => by rcases ten h with rfl | rfl | rfl | rfl | rfl | rfl | rfl | rfl | rfl | rfl <;> rfl) (fun a => rfl) hd (fun z => nomatch z) hl').symm.trans heq
      · injection e
      · injection e
      · injection e with e
        subst e
        repeat walk_at "ws"
        exact ⟨_, rfl, h⟩
      · injection e
end OD
namespace L2
open PySem PySem.Spec PyProof.Rows
section
variable {X : Cx}
theorem call_int_str : CallR X (.type "int") (fun xs H Q => ∃ z, xs = [.str z] ∧ OD.Numl z.cps.toList ∧ z.cps.toList.length ≤ 640 ∧ Q (.int (OD.dgVal z.cps.toList)) H) := by
  intro pins s σ H xs us Q I r h
  obtain ⟨z, rfl, hn, hl, q⟩ := h
  obtain ⟨t, rfl⟩ := r.oneS
  exact call_int_1 (OD.meets_int_new_str z t hn hl) ⟨rfl, .int _, H, I.tok _, ⟨_, rfl⟩, q⟩
theorem mt_zfill : MtR X "str.zfill" (fun x vs H Q => ∃ z i, x = .str z ∧ vs = [.int i] ∧ PadOk i = true ∧ z.length ≤ sizeLine ∧ Q (.str (Txt.zfill z i)) H) := by
  intro pins s σ H x vs v us Q I rx rv h
  obtain ⟨z, i, rfl, rfl, hp, hz, q⟩ := h
  obtain ⟨t, rfl⟩ := rx
  obtain ⟨u, rfl, t', rfl⟩ := vals1 rv
  exact call_gives PySem.F.slot_str_zfill (typeIs_str s z t) PySem.F.entry_str_zfill (PySem.F.args_str_zfill_2 _ _) (gives_str_zfill z i t t' (PadOk.parts hp).1 (PadOk.parts hp).2) (post_val_or_made (fits_zfilled (PadOk.parts hp).2) fun t2 k => ⟨.str _, H, I.tok _, ⟨_, rfl⟩, q⟩)
theorem vals_strs : ∀ {ts : List Str} {us : List Value}, Vals (ts.map V.str) us → ∃ l, us = strValues l ∧ l.map (·.1) = ts
  | [], us, h => by cases h; exact ⟨[], rfl, rfl⟩
  | x :: ts, us, h => by
    cases h with
    | cons r h =>
      obtain ⟨t, rfl⟩ := r
      obtain ⟨l, rfl, e⟩ := vals_strs h
      exact ⟨(x, t) :: l, rfl, by rw [List.map_cons, e]⟩
theorem mt_join : MtR X "str.join" (fun x vs H Q => ∃ z p ts, x = .str z ∧ vs = [.ref p] ∧ SqL X.K H p (ts.map V.str) ∧ JoinOk z ts = true ∧ Q (.str (Txt.join z ts)) H) := by
  intro pins s σ H x vs v us Q I rx rv h
  obtain ⟨z, p, ts, rfl, rfl, hq, hok, q⟩ := h
  obtain ⟨t, rfl⟩ := rx
  obtain ⟨u, rfl, ru⟩ := rv.one
  cases ru
  obtain ⟨its, r, pl, hz⟩ := I.list hq
  obtain ⟨l, rfl, rfl⟩ := vals_strs r
  exact SC.join pl.isList rfl hok fun t' k => ⟨.str _, H, I.tok _, ⟨_, rfl⟩, q⟩
theorem strs_vals : ∀ (tk : Nat) (ts : List Str), Vals (ts.map V.str) (strsFrom tk ts)
  | _, [] => .nil
  | tk, x :: r => .cons ⟨tk, rfl⟩ (strs_vals (tk + 1) r)
theorem mt_split : MtR X "str.split" (fun x vs H Q => ∃ z y, x = .str z ∧ vs = [.str y] ∧ (y.length == 0) = false ∧ z.length ≤ 100000 ∧ ∀ p, H p = none → Q (.ref p) (upd H p (.lst ((Txt.split z y).map V.str)))) := by
  intro pins s σ H x vs v us Q I rx rv h
  obtain ⟨z, y, rfl, rfl, hy, hz, q⟩ := h
  obtain ⟨t, rfl⟩ := rx
  obtain ⟨u, rfl⟩ := rv.oneS
  have hs : z.length ≤ sizeLine := by rw [sizeLine_eq]; omega
  have q := q _ I.fresh
  unfold Txt.split at q
  cases h1 : (decide (z.length < y.length) || decide (Builtin.Str.strKind z < Builtin.Str.strKind y))
  · rw [h1, if_neg Bool.false_ne_true] at q
    cases hf : (Builtin.Str.occurrences z y 0 z.length (z.length + 1)).isEmpty
    · rw [hf, if_neg Bool.false_ne_true] at q
      have hn : (Builtin.Str.partsBetween z (Builtin.Str.occurrences z y 0 z.length (z.length + 1)) y.length).length ≤ sizeLine := by
        rw [length_partsBetween, sizeLine_eq]
        have := StrLaws.occ_length_le z y 0 z.length (z.length + 1)
        omega
      refine call_meets PySem.F.slot_str_split (typeIs_str s z t) PySem.F.entry_str_split (PySem.F.args_str_split_2 _ _) (meets_str_split_sep z y t u h1 hy hf hs hn) ?_
      exact ⟨.ref _, _, I.lnew (strs_vals _ _) (by rw [List.length_map]; exact hn), rfl, q⟩
    · rw [hf, if_pos rfl] at q
      refine call_meets PySem.F.slot_str_split (typeIs_str s z t) PySem.F.entry_str_split (PySem.F.args_str_split_2 _ _) (meets_str_split_not_found z y t u h1 hy hf) ?_
      exact ⟨.ref _, _, I.lnew (its := [Value.str z t]) (t' := s.toks) (ys := [V.str z]) (.cons ⟨t, rfl⟩ .nil) (by rw [sizeLine_eq]; show 1 ≤ 16777216; decide), rfl, q⟩
  · rw [h1, if_pos rfl] at q
    refine call_meets PySem.F.slot_str_split (typeIs_str s z t) PySem.F.entry_str_split (PySem.F.args_str_split_2 _ _) (meets_str_split_cannot_occur z y t u h1) ?_
    exact ⟨.ref _, _, I.lnew (its := [Value.str z t]) (t' := s.toks) (ys := [V.str z]) (.cons ⟨t, rfl⟩ .nil) (by rw [sizeLine_eq]; show 1 ≤ 16777216; decide), rfl, q⟩
def repS (x : Str) (n : Int) : Str := ⟨(List.replicate n.toNat x.cps).foldl (· ++ ·) #[]⟩
theorem op_mulT : OpR X (binaryOp .Mult) (fun x y H Q => ∃ z n, x = .str z ∧ y = .int n ∧ 1 ≤ z.length ∧ z.length ≤ 1000 ∧ 2 ≤ n ∧ n ≤ 10000 ∧ (repS z n).length ≤ 16777216 ∧ Q (.str (repS z n)) H) := by
  intro pins s σ H x y v u Q I rx ry h
  obtain ⟨z, n, rfl, rfl, z0, hz, n0, n1, hr, q⟩ := h
  obtain ⟨t, rfl⟩ := rx
  obtain ⟨t', rfl⟩ := ry
  have hl : z.length * n.toNat ≤ 1000 * 10000 := Nat.mul_le_mul hz (by omega)
  refine P.mul_str (by rw [decide_eq_false (by omega), decide_eq_false (by omega)]; rfl) (fun h1 h2 h3 => ?_) (fun _ _ => ?_) ?_
  · have := Int.le_ediv_of_mul_le (show 0 < n by omega) (show (1000 : Int) * n ≤ 2 ^ 63 - 1 by omega)
    omega
  · unfold Builtin.Str.tooLong
    refine decide_eq_false ?_
    rw [sizeLine_eq]; omega
  · rw [if_neg (by omega), if_neg (by
      have e1 : (n == 1) = false := beq_eq_false_iff_ne.mpr (by omega)
      have e2 : (z.length == 0) = false := beq_eq_false_iff_ne.mpr (by omega)
      rw [e1, e2]; exact Bool.false_ne_true)]
    exact ⟨by rw [sizeLine_eq]; exact hr, .str _, H, I.tok _, ⟨_, rfl⟩, q⟩
end
end L2
namespace OD
open PySem PySem.Spec PyProof.Rows L2
section
variable {X : Cx} {a b e : Expr} {ta tb t : DTE} {p pos p0 : Pos} {x : Str}
theorem de_gstrE {y : Str} (hg : Gl X x) (hm : ∃ tk, X.mg x = some (.str y tk)) (hd : (x == ("__debug__" : Str)) = false := by decide) : DE X (.Name x pos) (dC (.str y)) := by
  obtain ⟨tk, hm⟩ := hm
  exact de_gstr hg hm hd
def dIntS (ta : DTE) : DTE := fun ρ Q => ta ρ fun d => ∃ x : Str, d = .str x ∧ Numl x.cps.toList ∧ x.cps.toList.length ≤ 640 ∧ Q (.int (dgVal x.cps.toList))
theorem de_intS (hg : Gl X "int") (hm : X.mg "int" = none) (ha : DE X a ta) (hs : starEach [a] X.env = (false, eval a X.env) :: starEach [] X.env := by rfl) (hpl : (backTo pos (starEach [] X.env)).any (·.1) = false := by rfl) :
    DE X (.Call (.Name "int" p0) [a] [] pos) (dIntS ta) := by
  obtain ⟨te, p1, l1⟩ := ha
  refine ⟨_, pe_callTy call_int_str hg hm boot_intT (pa_cons p1 pa_nil hs) (by decide) (by decide) hs hpl, fun ρ σ H Q r h R k => l1 ρ σ H _ r h _ fun d v H1 s1 i1 ⟨x, ed, hn, hl, q⟩ => ?_⟩
  subst ed
  exact ⟨x, by rw [is_str.mp i1], hn, hl, k _ _ H1 s1 (is_int.mpr rfl) q⟩
variable {apos cpos : Pos}
def dZf (ta tb : DTE) : DTE := fun ρ Q => ta ρ fun d => ∃ x, d = .str x ∧ x.length ≤ 16777216 ∧ tb ρ fun e => ∃ i, e = .int i ∧ PadOk i = true ∧ Q (.str (Txt.zfill x i))
theorem de_zfill (ha : DE X a ta) (hb : DE X b tb) (hbase : attributeBase a "zfill" X.env (eval a X.env) = eval a X.env := by rfl)
    (hfew : ((backTo cpos (starEach [b] X.env)).all (fun x => !x.1) && (backToKw cpos (keywordEach [] X.env)).all (fun x => x.1.isSome)
      && decide ([b].length + ([] : List Keyword).length + (if ([] : List Keyword).isEmpty then 0 else 1) < 30)) = true := by rfl)
    (hline : (apos.endLine == cpos.line) = true := by rfl) (hs : starEach [b] X.env = (false, eval b X.env) :: starEach [] X.env := by rfl) (hpl : (backTo cpos (starEach [] X.env)).any (·.1) = false := by rfl) :
    DE X (.Call (.Attribute a "zfill" apos) [b] [] cpos) (dZf ta tb) := by
  obtain ⟨te, p1, l1⟩ := ha
  obtain ⟨tf, p2, l2⟩ := hb
  refine ⟨_, pe_bm PySem.F.plainAttrs_str PySem.F.slot_str_zfill PySem.F.type_str_zfill mt_zfill p1 (pa_cons p2 pa_nil hs) hbase hfew hline hs hpl, fun ρ σ H Q r h R k => l1 ρ σ H _ r h _ fun d v H1 s1 i1 ⟨x, ed, hl, q1⟩ => ?_⟩
  subst ed
  obtain rfl := is_str.mp i1
  refine ⟨rfl, l2 ρ σ H1 _ (r.mono s1) q1 _ fun e u H2 s2 i2 ⟨y, ee, hp, q2⟩ => ?_⟩
  subst ee
  obtain rfl := is_int.mp i2
  exact ⟨x, y, rfl, rfl, hp, by rw [sizeLine_eq]; exact hl, k _ _ H2 (s1.trans s2) (is_str.mpr rfl) q2⟩
def dJoin (ta tb : DTE) : DTE := fun ρ Q => ta ρ fun d => ∃ x, d = .str x ∧ tb ρ fun e => ∃ ts : List Str, listOf e = some (ts.map Dt.str) ∧ JoinOk x ts = true ∧ Q (.str (Txt.join x ts))
theorem all_strs {K : PySem.W.Frag} {H : Hp} : ∀ {ts : List Str} {xs : List V}, AllIs K H (ts.map Dt.str) xs → xs = ts.map V.str
  | [], xs, h => allIs_nil.mp h
  | x :: ts, xs, h => by
    obtain ⟨v, r, rfl, h1, h2⟩ := allIs_cons.mp h
    rw [all_strs h2, is_str.mp h1]
    rfl
theorem de_join (ha : DE X a ta) (hb : DE X b tb) (hbase : attributeBase a "join" X.env (eval a X.env) = eval a X.env := by rfl)
    (hfew : ((backTo cpos (starEach [b] X.env)).all (fun x => !x.1) && (backToKw cpos (keywordEach [] X.env)).all (fun x => x.1.isSome)
      && decide ([b].length + ([] : List Keyword).length + (if ([] : List Keyword).isEmpty then 0 else 1) < 30)) = true := by rfl)
    (hline : (apos.endLine == cpos.line) = true := by rfl) (hs : starEach [b] X.env = (false, eval b X.env) :: starEach [] X.env := by rfl) (hpl : (backTo cpos (starEach [] X.env)).any (·.1) = false := by rfl) :
    DE X (.Call (.Attribute a "join" apos) [b] [] cpos) (dJoin ta tb) := by
  obtain ⟨te, p1, l1⟩ := ha
  obtain ⟨tf, p2, l2⟩ := hb
  refine ⟨_, pe_bm PySem.F.plainAttrs_str PySem.F.slot_str_join PySem.F.type_str_join mt_join p1 (pa_cons p2 pa_nil hs) hbase hfew hline hs hpl, fun ρ σ H Q r h R k => l1 ρ σ H _ r h _ fun d v H1 s1 i1 ⟨x, ed, q1⟩ => ?_⟩
  subst ed
  obtain rfl := is_str.mp i1
  refine ⟨rfl, l2 ρ σ H1 _ (r.mono s1) q1 _ fun e u H2 s2 i2 ⟨ts, ee, hok, q2⟩ => ?_⟩
  obtain ⟨p, xs, rfl, h1, h2⟩ := list_is i2 ee
  obtain rfl := all_strs h2
  exact ⟨x, p, ts, rfl, rfl, h1, hok, k _ _ H2 (s1.trans s2) (is_str.mpr rfl) q2⟩
def dSplit (ta tb : DTE) : DTE := fun ρ Q => ta ρ fun d => ∃ x, d = .str x ∧ x.length ≤ 100000 ∧ tb ρ fun e => ∃ y, e = .str y ∧ (y.length == 0) = false ∧ Q (.lst ((Txt.split x y).map Dt.str))
theorem strs_all {K : PySem.W.Frag} {H : Hp} : ∀ ts : List Str, AllIs K H (ts.map Dt.str) (ts.map V.str)
  | [] => allIs_nil.mpr rfl
  | x :: ts => allIs_cons.mpr ⟨_, _, rfl, is_str.mpr rfl, strs_all ts⟩
theorem df_split (ha : DE X a ta) (hb : DE X b tb) (hbase : attributeBase a "split" X.env (eval a X.env) = eval a X.env := by rfl)
    (hfew : ((backTo cpos (starEach [b] X.env)).all (fun x => !x.1) && (backToKw cpos (keywordEach [] X.env)).all (fun x => x.1.isSome)
      && decide ([b].length + ([] : List Keyword).length + (if ([] : List Keyword).isEmpty then 0 else 1) < 30)) = true := by rfl)
    (hline : (apos.endLine == cpos.line) = true := by rfl) (hs : starEach [b] X.env = (false, eval b X.env) :: starEach [] X.env := by rfl) (hpl : (backTo cpos (starEach [] X.env)).any (·.1) = false := by rfl) :
    DF X (.Call (.Attribute a "split" apos) [b] [] cpos) (dSplit ta tb) := by
  obtain ⟨te, p1, l1⟩ := ha
  obtain ⟨tf, p2, l2⟩ := hb
  refine ⟨_, pe_bm PySem.F.plainAttrs_str PySem.F.slot_str_split PySem.F.type_str_split mt_split p1 (pa_cons p2 pa_nil hs) hbase hfew hline hs hpl, fun ρ σ H Q r h R k => l1 ρ σ H _ r h _ fun d v H1 s1 i1 ⟨x, ed, hl, q1⟩ => ?_⟩
  subst ed
  obtain rfl := is_str.mp i1
  refine ⟨rfl, l2 ρ σ H1 _ (r.mono s1) q1 _ fun e u H2 s2 i2 ⟨y, ee, hy, q2⟩ => ?_⟩
  subst ee
  obtain rfl := is_str.mp i2
  refine ⟨x, y, rfl, rfl, hy, hl, fun p hp => ?_⟩
  exact k _ p _ (H2.mine p _ (H2.sub.free hp)) ((s1.trans s2).trans (le_mine hp _)) ((s1.trans s2).h.free hp) upd_same (H2.sub.free hp) (strs_all _) q2
def gMulT : Dt → Dt → (Dt → Prop) → Prop := fun d e Q => ∃ z n, d = .str z ∧ e = .int n ∧ 1 ≤ z.length ∧ z.length ≤ 1000 ∧ 2 ≤ n ∧ n ≤ 10000 ∧ (repS z n).length ≤ 16777216 ∧ Q (.str (repS z n))
theorem o_mulT : DOp X (binaryOp .Mult) gMulT := by
  refine ⟨_, op_mulT, fun H x y d e Q i1 i2 ⟨u, v, ed, ee, h1, h2, h3, h4, h5, q⟩ R k => ?_⟩
  subst ed
  subst ee
  exact ⟨u, v, is_str.mp i1, is_int.mp i2, h1, h2, h3, h4, h5, k _ _ H (Le.refl H) (is_str.mpr rfl) q⟩
def optI : Option Int → Dt
  | none => .non
  | some i => .int i
def optV : Option Int → V
  | none => .non
  | some i => .int i
theorem all_opts {K : PySem.W.Frag} {H : Hp} : ∀ {os : List (Option Int)} {xs : List V}, AllIs K H (os.map optI) xs → xs = os.map optV
  | [], xs, h => allIs_nil.mp h
  | o :: os, xs, h => by
    obtain ⟨v, r, rfl, h1, h2⟩ := allIs_cons.mp h
    rw [all_opts h2]
    cases o with
    | none => rw [is_non.mp h1]; rfl
    | some i => rw [is_int.mp h1]; rfl
theorem flat_opts : ∀ os : List (Option Int), (os.map optV).all flatV = true
  | [] => rfl
  | o :: os => by rw [List.map_cons, List.all_cons, flat_opts os]; cases o <;> rfl
theorem inV_opts : ∀ os : List (Option Int), inV .non (os.map optV) = os.any Option.isNone
  | [] => rfl
  | o :: os => by
    have ih := inV_opts os
    unfold inV at ih ⊢
    rw [List.map_cons, List.any_cons, List.any_cons, ih]
    cases o <;> rfl
theorem o_inN : DOp X (compareOp .In) (fun d e Q => ∃ ds, ∃ os : List (Option Int), d = .non ∧ seqOf e = some ds ∧ ds = os.map optI ∧ Q (.bl (os.any Option.isNone))) := by
  refine ⟨_, op_in_seq, fun H x y d e Q i1 i2 q R k => ?_⟩
  obtain ⟨ds, os, rfl, e1, rfl, q⟩ := q
  obtain ⟨p, xs, rfl, h1, h2⟩ := seq_is i2 e1
  obtain rfl := all_opts h2
  obtain rfl := is_non.mp i1
  refine ⟨p, _, rfl, h1, rfl, flat_opts os, ?_⟩
  show R (.bl (inV .non (os.map optV))) H.h
  rw [inV_opts]
  exact k _ _ H (Le.refl H) (is_bl.mpr rfl) q
end
end OD

namespace My
open PySem L2 OD

local macro_rules | `(tactic| walk_at "sc") => `(tactic| exact ⟨rfl, rfl, rfl, by decide +kernel, rfl, by decide +kernel, by decide +kernel⟩)
local macro_rules | `(tactic| walk_at "ln") => `(tactic| (intros; rename_i h; repeat (first | (obtain ⟨e, _⟩ := h; subst e; rfl) | obtain ⟨_, h⟩ := h)))
local macro_rules | `(tactic| walk_at "rd1") => `(tactic| first | refine ⟨_, rfl, ?_⟩ | refine ⟨_, _, rfl, rfl, ?_⟩ | refine ⟨_, _, _, _, rfl, rfl, rfl, ?_⟩ | refine ⟨_, _, _, rfl, rfl, rfl, ?_⟩ | refine iteT ?_ | refine iteF ?_ | refine ⟨rfl, rfl, ?_⟩ | refine ⟨rfl, ?_⟩ | refine ⟨cdivN (by decide), ?_⟩ | refine ⟨cmodN (by decide), ?_⟩ | refine ⟨cpowN (by decide), ?_⟩ | refine ⟨mulR (by decide), ?_⟩ | refine ⟨mulL (by decide), ?_⟩ | refine ⟨_, _, rfl, ?_⟩)
local macro_rules | `(tactic| walk_at "rd") => `(tactic| repeat (walk_at "rd1"))
theorem ifT {b : Bool} {A B : Prop} (e : b = true) (h : A) : if b = true then A else B := by rw [if_pos e]; exact h
theorem ifF {b : Bool} {A B : Prop} (e : b = false) (h : B) : if b = true then A else B := by rw [if_neg (by rw [e]; exact Bool.false_ne_true)]; exact h
theorem ifB {b : Bool} {A B : Prop} (h1 : b = true → A) (h2 : b = false → B) : if b = true then A else B := by
  cases b with
  | true => exact ifT rfl (h1 rfl)
  | false => exact ifF rfl (h2 rfl)
theorem eqI {a b : Int} (h : a = b) : eqD (.int a) (.int b) = true := by rw [eqD_int]; exact beq_iff_eq.mpr h
theorem neI {a b : Int} (h : a ≠ b) : eqD (.int a) (.int b) = false := by rw [eqD_int]; exact beq_eq_false_iff_ne.mpr h
theorem nT {b : Bool} (h : b = true) : (!b) = false := by rw [h]; rfl
theorem of_nT {b : Bool} (h : (!b) = true) : b = false := by cases b <;> first | rfl | cases h
theorem of_nF {b : Bool} (h : (!b) = false) : b = true := by cases b <;> first | rfl | cases h
def S_cell : DSp := fun ds Q => ∃ ns k, ds = [.scr ns, .int k] ∧ 0 ≤ k ∧ ∀ z : Int, Q (.int z)
def S_law : DSp := fun ds Q => ∃ ns : List Int, ds = [.scr ns] ∧ ns.length ≤ 63 ∧ Q (.bl true)
theorem atI_row {xs : List Int} {k : Int} (h0 : 0 ≤ k) (h : k < xs.length) : atI (xs.map Dt.int) k = some (.int (xs.getD k.toNat 0)) := by
  have e : ((k.toNat : Nat) : Int) = k := Int.toNat_of_nonneg h0
  have hl : k.toNat < xs.length := by omega
  have := atI_nat (j := k.toNat) (xs := xs.map Dt.int) (v := .int (xs.getD k.toNat 0)) (by
    rw [List.getElem?_map, List.getElem?_eq_getElem hl, List.getD_eq_getElem?_getD, List.getElem?_eq_getElem hl]
    rfl)
  rwa [e] at this
theorem cut_ints (ms : List Int) (lo hi : Option Int) : ∃ ms' : List Int, cutD (ms.map Dt.int) lo hi = ms'.map Dt.int ∧ ms'.length ≤ ms.length ∧ ∀ z ∈ ms', z ∈ ms := by
  unfold cutD
  rw [← List.map_drop, ← List.map_take]
  refine ⟨_, rfl, ?_, fun t ht => List.mem_of_mem_drop (List.mem_of_mem_take ht)⟩
  rw [List.length_take, List.length_drop]
  omega
theorem get_ints {ns : List Int} {i : Nat} {x : Dt} (h : (ns.map Dt.int)[i]? = some x) : x = .int (ns.getD i 0) ∧ i < ns.length := by
  rw [List.getElem?_map] at h
  cases q : ns[i]? with
  | none => rw [q] at h; cases h
  | some z =>
    rw [q] at h
    have hl : i < ns.length := by
      rcases Nat.lt_or_ge i ns.length with h | h
      · exact h
      · rw [List.getElem?_eq_none h] at q; cases q
    rw [List.getD_eq_getElem?_getD, q]
    exact ⟨(Option.some.inj h).symm, hl⟩
inductive Nm where | i (n : Int) | p (a b : Int)
def Nm.dt : Nm → Dt
  | .i n => .int n
  | .p a b => .tup [.int a, .int b]
def Nm.re : Nm → Int
  | .i n => n
  | .p a _ => a
def Nm.im : Nm → Int
  | .i _ => 0
  | .p _ b => b
def numD : Dt → Option Nm
  | .int a => some (.i a)
  | .tup [.int a, .int b] => some (.p a b)
  | _ => none
theorem numD_dt {d : Dt} {m : Nm} (h : numD d = some m) : d = m.dt := by
  unfold numD at h
  split at h
  · cases h; rfl
  · cases h; rfl
  · cases h
theorem numD_of (m : Nm) : numD m.dt = some m := by cases m <;> rfl
theorem small {n : Int} (h0 : -1000000 ≤ n) (h1 : n ≤ 1000000) (c : Int) : IntMulOk c n := mulR (by rw [decide_eq_true_iff]; omega)
def tl (x : Str) : List Nat := x.cps.toList
theorem str_ext {x y : Str} (h : tl x = tl y) : x = y := by
  cases x; cases y
  unfold tl at h
  simp only at h
  congr 1
  exact Array.ext' h
def asc (x : Str) : Prop := ∀ c ∈ tl x, c < 128
theorem asc_all {x : Str} (h : asc x) : x.cps.all (· < 128) = true := by
  rw [← Array.all_toList, List.all_eq_true]
  exact fun c hc => decide_eq_true (h c hc)
theorem tl_len (x : Str) : (tl x).length = x.length := by unfold tl; simp [Str.length]
theorem tl_app (x y : Str) : tl (x ++ y) = tl x ++ tl y := by
  show (x.cps ++ y.cps).toList = _
  simp [tl]
theorem asc_app {x y : Str} (hx : asc x) (hy : asc y) : asc (x ++ y) := fun c hc => by
  rw [tl_app] at hc
  rcases List.mem_append.mp hc with h | h
  · exact hx c h
  · exact hy c h
theorem slice_mem {x : Str} {l u : Option Int} {c : Nat} (h : c ∈ tl (Txt.slice x l u)) : c ∈ tl x := by
  unfold Txt.slice tl at h
  split at h
  · exact h
  · simp only [List.mem_filterMap] at h
    obtain ⟨i, _, hi⟩ := h
    have hi : (tl x)[i]? = some c := by unfold tl; rw [Array.getElem?_toList]; exact hi
    exact List.mem_of_getElem? hi
theorem asc_slice {x : Str} {l u : Option Int} (h : asc x) : asc (Txt.slice x l u) := fun c hc => h c (slice_mem hc)
theorem slice_len (x : Str) (l u : Option Int) : (Txt.slice x l u).length ≤ x.length := Txt.slice_le x l u
theorem slice_from {x : Str} {i : Int} (h0 : 0 ≤ i) (h1 : i ≤ (tl x).length) : tl (Txt.slice x (some i) none) = (tl x).drop i.toNat := by
  have e : Txt.slice x (some i) none = StrLaws.sliceText x (some i) none := rfl
  rw [e, StrLaws.sliceText_from ⟨h0, h1⟩]
  show (((tl x).drop i.toNat).take ((((tl x).length : Nat) : Int) - i).toNat) = _
  rw [List.take_of_length_le]
  rw [List.length_drop]; omega
theorem slice_to {x : Str} {j : Int} (h0 : 0 ≤ j) (h1 : j ≤ (tl x).length) : tl (Txt.slice x none (some j)) = (tl x).take j.toNat := by
  have e : Txt.slice x none (some j) = StrLaws.sliceText x none (some j) := rfl
  rw [e, StrLaws.sliceText_to ⟨h0, h1⟩]
  show (((tl x).drop 0).take (j - 0).toNat) = _
  rw [List.drop_zero, Int.sub_zero]
theorem beq_tl (x y : Str) : (x == y) = decide (tl x = tl y) := by
  by_cases h : x = y
  · subst h; simp
  · rw [beq_eq_false_iff_ne.mpr h, decide_eq_false fun z => h (str_ext z)]
theorem starts_dash (x : Str) : Txt.startswith x "-" = decide ((tl x).head? = some 45) := by
  unfold Txt.startswith Builtin.Str.subAt
  have e : (("-" : Str)).cps = #[45] := by decide +kernel
  have el : (("-" : Str)).length = 1 := by decide +kernel
  rw [e, el]
  obtain ⟨⟨l⟩⟩ := x
  cases l with
  | nil => rfl
  | cons c r =>
    show (decide (0 + 1 ≤ r.length + 1) && ((⟨c :: r⟩ : Array Nat).extract 0 (0 + 1) == #[45])) = decide (some c = some 45)
    rw [decide_eq_true (by omega), Bool.true_and]
    have e2 : (⟨c :: r⟩ : Array Nat).extract 0 (0 + 1) = #[c] := by simp
    rw [e2]
    by_cases h : c = 45
    · subst h; rfl
    · rw [decide_eq_false (by simpa using h)]
      simpa using h
theorem slice1_dash (x : Str) : (Txt.slice x none (some 1) == ("-" : Str)) = decide ((tl x).head? = some 45) := by
  rw [beq_tl]
  have e : tl ("-" : Str) = [45] := by decide +kernel
  rw [e]
  cases h : tl x with
  | nil =>
    have : tl (Txt.slice x none (some 1)) = [] := by
      apply List.eq_nil_iff_forall_not_mem.mpr
      intro c hc
      have := slice_mem hc
      rw [h] at this; cases this
    rw [this]; rfl
  | cons c r =>
    rw [slice_to (by decide) (by rw [h, List.length_cons]; omega), h]
    show decide ([c] = [45]) = decide (some c = some 45)
    simp
theorem occ_fig (c : Nat) : occ ⟨#[c]⟩ "0123456789" = (decide (48 ≤ c) && decide (c ≤ 57)) := by
  unfold occ
  rw [StrLaws.found_one]
  have e : (("0123456789" : Str)).cps.toList = [48, 49, 50, 51, 52, 53, 54, 55, 56, 57] := by decide +kernel
  rw [e]
  by_cases h : 48 ≤ c ∧ c ≤ 57
  · rw [decide_eq_true h.1, decide_eq_true h.2]
    rcases (by omega : c = 48 ∨ c = 49 ∨ c = 50 ∨ c = 51 ∨ c = 52 ∨ c = 53 ∨ c = 54 ∨ c = 55 ∨ c = 56 ∨ c = 57) with rfl | rfl | rfl | rfl | rfl | rfl | rfl | rfl | rfl | rfl <;> rfl
  · have : c ∉ [48, 49, 50, 51, 52, 53, 54, 55, 56, 57] := fun hc => h (by simp at hc; omega)
    rw [decide_eq_false this]
    by_cases h1 : 48 ≤ c
    · rw [decide_eq_true h1, decide_eq_false (by omega)]; rfl
    · rw [decide_eq_false h1]; rfl
def figB (c : Nat) : Bool := decide (48 ≤ c) && decide (c ≤ 57)
theorem figB_iff {c : Nat} : figB c = true ↔ isDg c := by
  unfold figB isDg
  rw [Bool.and_eq_true, decide_eq_true_iff, decide_eq_true_iff]
def fg (x : Str) : List Nat := if (tl x).head? = some 45 then (tl x).drop 1 else tl x
open Classical in
noncomputable def wv (x : Str) : Option Int := if Numl (tl x) ∧ (fg x).length ≤ 60 then some (dgVal (tl x)) else none
theorem fg_of {x : Str} {f : List Nat} (hf : f = fg x) : (tl x = f ∧ (tl x).head? ≠ some 45) ∨ tl x = 45 :: f := by
  subst hf
  unfold fg
  by_cases h : (tl x).head? = some 45
  · rw [if_pos h]
    cases e : tl x with
    | nil => rw [e] at h; cases h
    | cons c r => rw [e] at h; cases h; exact .inr rfl
  · rw [if_neg h]; exact .inl ⟨rfl, h⟩
theorem numl_iff {x : Str} {f : List Nat} (hf : f = fg x) : Numl (tl x) ↔ (f ≠ [] ∧ (∀ c ∈ f, isDg c) ∧ (f.head? = some 48 → tl x = [48])) := by
  constructor
  · intro h
    rcases h with h | ⟨c, r, c1, c2, hr, h | h⟩
    · have e : f = [48] := by rw [hf]; unfold fg; rw [h]; rfl
      subst e
      exact ⟨fun z => (nomatch z), fun c hc => by rw [List.mem_singleton.mp hc]; exact ⟨by decide, by decide⟩, fun _ => h⟩
    · have e : f = c :: r := by
        rw [hf]; unfold fg; rw [h, if_neg]
        intro z
        have : c = 45 := Option.some.inj z
        omega
      subst e
      refine ⟨fun z => (nomatch z), fun x hx => ?_, fun z => absurd (Option.some.inj z) (by omega)⟩
      rcases List.mem_cons.mp hx with rfl | hx
      · exact ⟨by omega, by omega⟩
      · exact hr x hx
    · have e : f = c :: r := by rw [hf]; unfold fg; rw [h]; rfl
      subst e
      refine ⟨fun z => (nomatch z), fun x hx => ?_, fun z => absurd (Option.some.inj z) (by omega)⟩
      rcases List.mem_cons.mp hx with rfl | hx
      · exact ⟨by omega, by omega⟩
      · exact hr x hx
  · rintro ⟨h1, h2, h3⟩
    cases f with
    | nil => exact absurd rfl h1
    | cons c r =>
      by_cases hc : c = 48
      · subst hc; exact .inl (h3 rfl)
      · have d := h2 c List.mem_cons_self
        unfold isDg at d
        refine .inr ⟨c, r, by omega, by omega, fun x hx => h2 x (List.mem_cons_of_mem _ hx), ?_⟩
        rcases fg_of hf with ⟨e, _⟩ | e
        · exact .inl e
        · exact .inr e
def dg (n : Nat) : List Nat := (Nat.toDigits 10 n).map Char.toNat
theorem tl_of (s : String) : tl (Str.ofString s) = s.toList.map Char.toNat := by unfold tl; rw [PySem.Str.ofString_eq_toList]
theorem tl_nat (n : Nat) : tl (Str.ofString (toString (n : Int))) = dg n := by
  rw [tl_of]
  have e : (toString (n : Int)) = Nat.repr n := rfl
  rw [e, Nat.toList_repr]; rfl
theorem tl_neg (n : Nat) (h : 0 < n) : tl (Str.ofString (toString (-(n : Int)))) = 45 :: dg n := by
  rw [tl_of]
  obtain ⟨m, rfl⟩ : ∃ m, n = m + 1 := ⟨n - 1, by omega⟩
  have e : (toString (-((m + 1 : Nat) : Int))) = "-" ++ Nat.repr (m + 1) := rfl
  rw [e, String.toList_append, Nat.toList_repr]; rfl
theorem dg_fig (n : Nat) : ∀ c ∈ dg n, isDg c := fun c hc => by
  obtain ⟨d, hd, rfl⟩ := List.mem_map.mp hc
  have := Nat.isDigit_of_mem_toDigits (b := 10) (by decide) (by decide) hd
  unfold Char.isDigit at this
  rw [Bool.and_eq_true, decide_eq_true_iff, decide_eq_true_iff] at this
  exact ⟨this.1, this.2⟩
theorem dg_small {d : Nat} (h : d < 10) : dg d = [48 + d] := by
  unfold dg
  rw [Nat.toDigits_of_lt_base h]
  rcases (by omega : d = 0 ∨ d = 1 ∨ d = 2 ∨ d = 3 ∨ d = 4 ∨ d = 5 ∨ d = 6 ∨ d = 7 ∨ d = 8 ∨ d = 9) with rfl | rfl | rfl | rfl | rfl | rfl | rfl | rfl | rfl | rfl <;> rfl
theorem dg_step {n d : Nat} (hn : 0 < n) (hd : d < 10) : dg (10 * n + d) = dg n ++ dg d := by
  unfold dg
  rw [← Nat.toDigits_append_toDigits (by decide) hn hd, List.map_append]
def padF (k : Nat) (l : List Nat) : List Nat := List.replicate (k - l.length) 48 ++ l
theorem dg_parts {q : Nat} (hq : 0 < q) : ∀ (k r : Nat), r < 10 ^ (k + 1) → dg (q * 10 ^ (k + 1) + r) = dg q ++ padF (k + 1) (dg r)
  | 0, r, h => by
    rw [show q * 10 ^ (0 + 1) + r = 10 * q + r by rw [Nat.zero_add, Nat.pow_one, Nat.mul_comm], dg_step hq h, dg_small h]
    rfl
  | k + 1, r, h => by
    obtain ⟨r1, d, rfl, hd⟩ : ∃ r1 d, r = 10 * r1 + d ∧ d < 10 := ⟨r / 10, r % 10, by omega, Nat.mod_lt _ (by decide)⟩
    have hp : 10 ^ (k + 1 + 1) = 10 * 10 ^ (k + 1) := Nat.pow_succ'
    have h1 : r1 < 10 ^ (k + 1) := by omega
    have e : q * 10 ^ (k + 1 + 1) + (10 * r1 + d) = 10 * (q * 10 ^ (k + 1) + r1) + d := by rw [hp]; grind
    have pos : 0 < q * 10 ^ (k + 1) + r1 := by
      have := Nat.mul_pos hq (Nat.pow_pos (n := k + 1) (show 0 < 10 by decide))
      omega
    rw [e, dg_step pos hd, dg_parts hq k r1 h1, List.append_assoc]
    congr 1
    unfold padF
    rcases Nat.eq_zero_or_pos r1 with rfl | hr
    · rw [Nat.mul_zero, Nat.zero_add, dg_small hd, dg_small (by decide : 0 < 10)]
      show List.replicate (k + 1 - 1) 48 ++ [48 + 0] ++ [48 + d] = List.replicate (k + 1 + 1 - 1) 48 ++ [48 + d]
      rw [Nat.add_sub_cancel, Nat.add_sub_cancel, List.replicate_succ' (n := k)]
    · rw [dg_step hr hd, List.length_append, dg_small hd, List.append_assoc]
      show List.replicate (k + 1 - (dg r1).length) 48 ++ _ = List.replicate (k + 1 + 1 - ((dg r1).length + 1)) 48 ++ _
      rw [show k + 1 + 1 - ((dg r1).length + 1) = k + 1 - (dg r1).length by omega]
theorem dg_len {n k : Nat} (hk : 0 < k) (h : n < 10 ^ k) : (dg n).length ≤ k := by
  unfold dg
  rw [List.length_map]
  exact (Nat.length_toDigits_le_iff (by decide) hk).mpr h
theorem dg_head (n : Nat) : ∃ c r, dg n = c :: r ∧ isDg c := by
  cases e : dg n with
  | nil => unfold dg at e; exact absurd (List.map_eq_nil_iff.mp e) Nat.toDigits_ne_nil
  | cons c r => exact ⟨c, r, rfl, dg_fig n c (by rw [e]; exact List.mem_cons_self)⟩
theorem tl_zfill {x : Str} {k : Nat} {c : Nat} {r : List Nat} (h : tl x = c :: r) (hc : isDg c) : tl (Txt.zfill x (k : Int)) = padF k (tl x) := by
  have hl := tl_len x
  unfold Txt.zfill
  split
  · rename_i hk
    have : k - (tl x).length = 0 := by omega
    unfold padF; rw [this]; rfl
  · rename_i hk
    unfold zfilled
    have e0 : x.cps[0]? = some c := by
      have : x.cps.toList[0]? = some c := by show (tl x)[0]? = _; rw [h]; rfl
      simpa using this
    rw [e0]
    have key : (match some c with | some 43 | some 45 => Builtin.Str.strSub x 0 1 ++ Builtin.Str.padded (Builtin.Str.strSub x 1 x.length) ((k : Int).toNat - x.length) 0 48 | _ => Builtin.Str.padded x ((k : Int).toNat - x.length) 0 48) = Builtin.Str.padded x ((k : Int).toNat - x.length) 0 48 := by
      rcases ten hc with rfl | rfl | rfl | rfl | rfl | rfl | rfl | rfl | rfl | rfl <;> rfl
    refine (congrArg tl key).trans ?_
    unfold Builtin.Str.padded padF
    show (Array.replicate _ 48 ++ x.cps ++ Array.replicate 0 48).toList = _
    rw [hl]
    simp [tl]
theorem tl_join : ∀ ts : List Str, tl (Txt.join ("" : Str) ts) = (ts.map tl).flatten
  | [] => rfl
  | [x] => by
    show tl (Builtin.Str.glued _ [x]) = _
    rw [StrLaws.glued_eq_join]
    show tl x = _
    simp
  | x :: y :: r => by
    have ih := tl_join (y :: r)
    have e1 : Txt.join ("" : Str) (x :: y :: r) = x ++ ("" : Str) ++ Txt.join ("" : Str) (y :: r) := by
      show Builtin.Str.glued _ _ = _ ++ _ ++ Builtin.Str.glued _ _
      rw [StrLaws.glued_eq_join, StrLaws.glued_eq_join]; rfl
    rw [e1, tl_app, tl_app, ih]
    have e2 : tl ("" : Str) = [] := by decide +kernel
    rw [e2, List.append_nil]
    show _ = (tl x :: (y :: r).map tl).flatten
    rw [List.flatten_cons]
def shw (i : Int) : Str := Str.ofString (toString i)
def S_wholeB : DSp := fun ds Q => ∃ i : Int, ds = [.int i] ∧ Q (.bl true)
def S_shown0 : DSp := fun ds Q => ∃ n : Nat, ds = [.int n] ∧ n < 2 ^ 1800 ∧ Q (.str (shw n))
def S_shownW : DSp := fun ds Q => ∃ i : Int, ds = [.int i] ∧ i.natAbs < 2 ^ 1800 ∧ Q (.str (shw i))
theorem log_lt {n : Nat} {k : Nat} (hk : 0 < k) (h : n < 2 ^ k) : n.log2 < k := by
  rcases Nat.eq_zero_or_pos n with rfl | hp
  · exact hk
  · exact (Nat.log2_lt (by omega)).mpr h
theorem shw_neg {n : Nat} (h : 0 < n) : shw (-(n : Int)) = ("-" : Str) ++ shw n := by
  apply str_ext
  unfold shw
  rw [tl_app, tl_neg n h, tl_nat]
  have e : tl ("-" : Str) = [45] := by decide +kernel
  rw [e]; rfl
theorem shw_len (i : Int) {k : Nat} (hk : 0 < k) (h : i.natAbs < 10 ^ k) : (shw i).length ≤ k + 1 := by
  rw [← tl_len]
  rcases (by omega : 0 ≤ i ∨ i < 0) with hi | hi
  · obtain ⟨n, rfl⟩ := Int.eq_ofNat_of_zero_le hi
    unfold shw; rw [tl_nat]
    have := dg_len hk (n := n) (by omega)
    omega
  · obtain ⟨n, rfl, hn⟩ : ∃ n : Nat, i = -(n : Int) ∧ 0 < n := ⟨i.natAbs, by omega, by omega⟩
    unfold shw; rw [tl_neg n hn]
    have := dg_len hk (n := n) (by omega)
    rw [List.length_cons]; omega
theorem shw_asc (i : Int) : asc (shw i) := fun c hc => by
  rcases (by omega : 0 ≤ i ∨ i < 0) with hi | hi
  · obtain ⟨n, rfl⟩ := Int.eq_ofNat_of_zero_le hi
    unfold shw at hc; rw [tl_nat] at hc
    have := dg_fig n c hc
    unfold isDg at this; omega
  · obtain ⟨n, rfl, hn⟩ : ∃ n : Nat, i = -(n : Int) ∧ 0 < n := ⟨i.natAbs, by omega, by omega⟩
    unfold shw at hc; rw [tl_neg n hn] at hc
    rcases List.mem_cons.mp hc with rfl | hc
    · decide
    · have := dg_fig n c hc
      unfold isDg at this; omega
theorem big60 : (10 : Int) ^ Int.toNat 60 = ((10 ^ 60 : Nat) : Int) := by decide
theorem fm_nat (a b : Nat) : ((a : Int)).fmod (b : Int) = ((a % b : Nat) : Int) := by rw [Int.fmod_eq_emod_of_nonneg _ (Int.natCast_nonneg b)]; rfl
theorem fd_nat (a b : Nat) : ((a : Int)).fdiv (b : Int) = ((a / b : Nat) : Int) := by rw [Int.fdiv_eq_ediv_of_nonneg _ (Int.natCast_nonneg b)]; rfl
theorem shw_parts {n r : Nat} {ps : List Str} (h : dg n = dg r ++ (ps.reverse.map tl).flatten) : Txt.join ("" : Str) (ps ++ [shw r]).reverse = shw n := by
  apply str_ext
  rw [tl_join, List.reverse_append]
  show (tl (shw r) :: ps.reverse.map tl).flatten = tl (shw n)
  rw [List.flatten_cons]
  unfold shw
  rw [tl_nat, tl_nat, h]
theorem shw_next {n r : Nat} {ps : List Str} (h : dg n = dg r ++ (ps.reverse.map tl).flatten) (hr : 10 ^ 60 ≤ r) : dg n = dg (r / 10 ^ 60) ++ ((ps ++ [Txt.zfill (shw ((r % 10 ^ 60 : Nat) : Int)) ((60 : Nat) : Int)]).reverse.map tl).flatten := by
  obtain ⟨c, l, e, hc⟩ := dg_head (r % 10 ^ 60)
  have e1 : tl (Txt.zfill (shw ((r % 10 ^ 60 : Nat) : Int)) ((60 : Nat) : Int)) = padF 60 (dg (r % 10 ^ 60)) := by
    rw [tl_zfill (x := shw ((r % 10 ^ 60 : Nat) : Int)) (k := 60) (c := c) (r := l) (by unfold shw; rw [tl_nat]; exact e) hc]
    unfold shw
    rw [tl_nat]
  have e2 := dg_parts (q := r / 10 ^ 60) (Nat.div_pos hr (by decide)) 59 (r % 10 ^ 60) (Nat.mod_lt _ (by decide))
  rw [Nat.mul_comm, Nat.div_add_mod] at e2
  rw [h, e2, List.reverse_append]
  show _ = _ ++ (tl _ :: ps.reverse.map tl).flatten
  rw [List.flatten_cons, e1, List.append_assoc]
theorem join_ok {ts : List Str} (h1 : ∀ y ∈ ts, y.length ≤ 61) (h2 : ts.length ≤ 2000) : JoinOk ("" : Str) ts = true := by
  have e : (("" : Str)).length = 0 := by decide +kernel
  have := StrLaws.joinFits (sep := ("" : Str)) (texts := ts) (B := 61) h1 (by rw [e]; omega)
  unfold JoinOk
  rw [this]; rfl
theorem zf_len {r : Nat} (h : r < 10 ^ 60) : (Txt.zfill (shw (r : Int)) ((60 : Nat) : Int)).length ≤ 61 := by
  obtain ⟨c, l, e, hc⟩ := dg_head r
  rw [← tl_len, tl_zfill (x := shw (r : Int)) (k := 60) (c := c) (r := l) (by unfold shw; rw [tl_nat]; exact e) hc]
  unfold padF shw
  rw [tl_nat, List.length_append, List.length_replicate]
  have := dg_len (by decide : 0 < 60) h
  omega
theorem pow_two_lt {k n r : Nat} (h : r * 2 ^ k ≤ n) (hr : k = 0 ∨ 1 ≤ r) (hn : n < 2 ^ 1800) : k ≤ 1800 := by
  rcases hr with rfl | hr
  · decide
  · have : 2 ^ k ≤ n := Nat.le_trans (by have := Nat.mul_le_mul_right (2 ^ k) hr; rwa [Nat.one_mul] at this) h
    exact Nat.le_of_lt ((Nat.pow_lt_pow_iff_right (by decide)).mp (Nat.lt_of_le_of_lt this hn))
def allFg (x : Str) : Bool := (tl x).all figB
def S_alone : DSp := fun ds Q => ∃ x, ds = [.str x] ∧ asc x ∧ Q (.bl (allFg x))
theorem allFg_iff {x : Str} : allFg x = true ↔ ∀ c ∈ tl x, isDg c := by
  unfold allFg
  rw [List.all_eq_true]
  exact ⟨fun h c hc => figB_iff.mp (h c hc), fun h c hc => figB_iff.mpr (h c hc)⟩
theorem wv_some {x : Str} (h : Numl (tl x)) (hl : (fg x).length ≤ 60) : wv x = some (dgVal (tl x)) := if_pos ⟨h, hl⟩
theorem wv_none {x : Str} (h : ¬ (Numl (tl x) ∧ (fg x).length ≤ 60)) : wv x = none := if_neg h
theorem str_nil {f : Str} : (f == ("" : Str)) = decide (tl f = []) := by
  rw [beq_tl]
  have e : tl ("" : Str) = [] := by decide +kernel
  rw [e]
theorem cps_head {f : Str} {c : Nat} {r : List Nat} (h : tl f = c :: r) : f.cps[Int.toNat 0]? = some c := by
  have : f.cps.toList[0]? = some c := by show (tl f)[0]? = _; rw [h]; rfl
  simpa using this
theorem one_nought (c : Nat) : ((⟨#[c]⟩ : Str) == ("0" : Str)) = decide (c = 48) := by
  rw [beq_tl]
  have e : tl ("0" : Str) = [48] := by decide +kernel
  rw [e]
  show decide ([c] = [48]) = _
  simp
theorem is_nought (x : Str) : (x == ("0" : Str)) = decide (tl x = [48]) := by
  rw [beq_tl]
  have e : tl ("0" : Str) = [48] := by decide +kernel
  rw [e]
def isP : Nm → Bool
  | .p _ _ => true
  | _ => false
def S_is_pair : DSp := fun ds Q => ∃ d m, ds = [d] ∧ numD d = some m ∧ Q (.bl (isP m))
def shwN : Nm → Str
  | .i a => shw a
  | .p a b => shw a ++ ("," : Str) ++ shw b
def S_nshown : DSp := fun ds Q => ∃ m, ds = [Nm.dt m] ∧ m.re.natAbs < 2 ^ 1800 ∧ m.im.natAbs < 2 ^ 1800 ∧ Q (.str (shwN m))
noncomputable def nv (x : Str) : Option Nm := match Txt.split x "," with
  | [p] => (wv p).map Nm.i
  | [p, q] => match wv p, wv q with
    | some a, some b => some (.p a b)
    | _, _ => none
  | _ => none
theorem split_one {x y p : Str} (h : Txt.split x y = [p]) : p = x := by
  unfold Txt.split at h
  split at h
  · cases h; rfl
  split at h
  · cases h; rfl
  · rename_i h1 h2
    have := congrArg List.length h
    rw [length_partsBetween] at this
    have z : (Builtin.Str.occurrences x y 0 x.length (x.length + 1)).length = 0 := by simpa using this
    exact absurd (List.isEmpty_iff.mpr (List.length_eq_zero_iff.mp z)) h2
theorem sub_mem {x : Str} {i j c : Nat} (h : c ∈ tl (Builtin.Str.strSub x i j)) : c ∈ tl x := by
  have e : tl (Builtin.Str.strSub x i j) = ((tl x).take j).drop i := by
    show (x.cps.extract i j).toList = _
    rw [Array.toList_extract, List.extract_eq_drop_take, List.drop_take]; rfl
  rw [e] at h
  exact List.mem_of_mem_take (List.mem_of_mem_drop h)
theorem sub_len (x : Str) (i j : Nat) : (Builtin.Str.strSub x i j).length ≤ x.length := strSub_length_le x i j
theorem split_mem {x y p : Str} (h : p ∈ Txt.split x y) : p.length ≤ x.length ∧ ∀ c ∈ tl p, c ∈ tl x := by
  unfold Txt.split at h
  split at h
  · rw [List.mem_singleton.mp h]; exact ⟨Nat.le_refl _, fun _ z => z⟩
  split at h
  · rw [List.mem_singleton.mp h]; exact ⟨Nat.le_refl _, fun _ z => z⟩
  · unfold Builtin.Str.partsBetween at h
    obtain ⟨⟨a, b⟩, _, rfl⟩ := List.mem_map.mp h
    exact ⟨sub_len x a b, fun c hc => sub_mem hc⟩
theorem split_ne (x y : Str) : Txt.split x y ≠ [] := by
  unfold Txt.split
  split
  · exact fun z => nomatch z
  split
  · exact fun z => nomatch z
  · intro z
    have := congrArg List.length z
    rw [length_partsBetween] at this
    simp at this
theorem split_len (x y : Str) : (Txt.split x y).length ≤ x.length + 2 := by
  unfold Txt.split
  split
  · show 1 ≤ _; omega
  split
  · show 1 ≤ _; omega
  · rw [length_partsBetween]
    have := StrLaws.occ_length_le x y 0 x.length (x.length + 1)
    omega
theorem four_at {z : Int} : ∃ s, atI [Dt.int 10, .int (10 ^ Int.toNat 4), .int (10 ^ Int.toNat 19), .int (10 ^ Int.toNat 60)] (z.fmod 4) = some (.int s) ∧ 1 ≤ s ∧ s ≤ ((10 ^ 60 : Nat) : Int) := by
  have a0 := Int.fmod_nonneg_of_pos z (show (0 : Int) < 4 by decide)
  have a1 := Int.fmod_lt_of_pos z (show (0 : Int) < 4 by decide)
  rcases (by omega : z.fmod 4 = 0 ∨ z.fmod 4 = 1 ∨ z.fmod 4 = 2 ∨ z.fmod 4 = 3) with e | e | e | e <;> rw [e]
  · exact ⟨_, rfl, by decide, by decide⟩
  · exact ⟨_, rfl, by decide, by decide⟩
  · exact ⟨_, rfl, by decide, by decide⟩
  · exact ⟨_, rfl, by decide, by decide⟩
theorem len_comma : (("," : Str)).length = 1 := by decide +kernel
theorem l1800 {i : Int} (h : i.natAbs < 2 ^ 1800) : (shw i).length ≤ 1801 := shw_len (k := 1800) i (by decide) (Nat.lt_of_lt_of_le h (Nat.pow_le_pow_left (by decide) _))
theorem sign_len : (("0179-,. +a" : Str)).length = 10 := by decide +kernel
theorem sign_at (z : Int) : ∃ c, (("0179-,. +a" : Str)).cps[(z.fmod 10).toNat]? = some c ∧ c < 128 := by
  have s0 := Int.fmod_nonneg_of_pos z (show (0 : Int) < 10 by decide)
  have s1 := Int.fmod_lt_of_pos z (show (0 : Int) < 10 by decide)
  have e : (("0179-,. +a" : Str)).cps = #[48, 49, 55, 57, 45, 44, 46, 32, 43, 97] := by decide +kernel
  rw [e]
  generalize hk : (z.fmod 10).toNat = k
  rcases (by omega : k = 0 ∨ k = 1 ∨ k = 2 ∨ k = 3 ∨ k = 4 ∨ k = 5 ∨ k = 6 ∨ k = 7 ∨ k = 8 ∨ k = 9) with rfl | rfl | rfl | rfl | rfl | rfl | rfl | rfl | rfl | rfl <;> exact ⟨_, rfl, by decide⟩
theorem nines_at (z : Int) : ∃ nn, repS ("9" : Str) (60 + z.fmod 2) = nn ∧ nn.length ≤ 61 ∧ asc nn := by
  have s0 := Int.fmod_nonneg_of_pos z (show (0 : Int) < 2 by decide)
  have s1 := Int.fmod_lt_of_pos z (show (0 : Int) < 2 by decide)
  refine ⟨_, rfl, ?_⟩
  rcases (by omega : z.fmod 2 = 0 ∨ z.fmod 2 = 1) with e | e <;> rw [e]
  · exact ⟨by decide +kernel, by intro c hc; revert c; decide +kernel⟩
  · exact ⟨by decide +kernel, by intro c hc; revert c; decide +kernel⟩
def lits : List Str := ["", "-", "0", "-0", "00", "-00", ",", "1,", ",1", "1,2,3", "0,0", "-1,-0"]
theorem lits_ok : ∀ x ∈ lits, (tl x).all (· < 128) = true ∧ x.length ≤ 100 := by decide +kernel
theorem mulBigT {a b : Int} {i j : Nat} (h : a.natAbs < 2 ^ i) (h' : b.natAbs < 2 ^ j) (hij : i + j ≤ 134217728) : IntMulOk a b := IntMulOk.of_le ((intBits_le_iff ..).mpr h) ((intBits_le_iff ..).mpr h') hij
theorem natAbs_mul_lt {a b : Int} {i j : Nat} (h : a.natAbs < 2 ^ i) (h' : b.natAbs < 2 ^ j) : (a * b).natAbs < 2 ^ (i + j) := by
  rw [Int.natAbs_mul, Nat.pow_add]
  exact Nat.mul_lt_mul'' h h'
def S_alike : DSp := fun ds Q => ∃ m, ds = [Nm.dt m, Nm.dt m] ∧ Q (.bl true)
def S_lwhole : DSp := fun ds Q => ∃ x, ds = [.str x] ∧ asc x ∧ x.length ≤ 5000 ∧ Q (optI (wv x))
def optN : Option Nm → Dt
  | none => .non
  | some m => m.dt
def S_lnum : DSp := fun ds Q => ∃ x, ds = [.str x] ∧ asc x ∧ x.length ≤ 5000 ∧ Q (optN (nv x))
def S_lread : DSp := fun ds Q => ∃ x, ds = [.str x] ∧ asc x ∧ x.length ≤ 5000 ∧ Q (.bl true)
def S_lone : DSp := fun ds Q => ∃ z : Int, ds = [.int z] ∧ ∀ i : Int, i.natAbs < 10 ^ 60 → Q (.int i)
def S_lnumber : DSp := fun ds Q => ∃ z : Int, ds = [.int z] ∧ ∀ m : Nm, m.re.natAbs < 10 ^ 60 → m.im.natAbs < 10 ^ 60 → Q m.dt
def S_spoT : DSp := fun ds Q => ∃ x, ∃ z : Int, ds = [.str x, .int z] ∧ asc x ∧ x.length ≤ 1000 ∧ ∀ y, asc y → y.length ≤ 5000 → Q (.str y)
def S_long : DSp := fun ds Q => ∃ z : Int, ds = [.int z] ∧ Q (.bl true)
structure Adr where
  NoText : Addr
structure Txt (K : PySem.W.Frag) (mg : Str → Option Value) (A : Adr) : Prop where
  kt : KitT K
  isinstance : mg "isinstance" = none
  n_int : mg "int" = none
  n_bool : mg "bool" = none
  n_tuple : mg "tuple" = none
  len : mg "len" = none
  n_str : mg "str" = none
  gs_FIGURES : ∃ tk, mg "FIGURES" = some (.str "0123456789" tk)
  gc_NoText : mg "NoText" = some (.ref A.NoText)
  ex_NoText : ExcK K A.NoText
  ix_NoText : IsxOk K A.NoText
  em_NoText_NoText : PySem.W.exmOne K (.ref A.NoText) (.ref A.NoText) = some true
  kx_NoText_NoText : PySem.W.kitOne K (.ref A.NoText) (.ref A.NoText) = some true
def S_wread (A : Adr) : DSpX := fun ds Q R => ∃ x, ds = [.str x] ∧ asc x ∧ x.length ≤ 5000 ∧ (∀ i, wv x = some i → Q (.int i)) ∧ (wv x = none → R A.NoText)
def S_nread (A : Adr) : DSpX := fun ds Q R => ∃ x, ds = [.str x] ∧ asc x ∧ x.length ≤ 5000 ∧ (∀ m, nv x = some m → Q m.dt) ∧ (nv x = none → R A.NoText)
section
variable {P : Program} {w : World} {K : PySem.W.Frag} {mg : Str → Option Value} {base : Heap} {f : Addr} {fd : FuncData} {A : Adr}
abbrev s_is_whole : Stmt := top 4
theorem sc_is_whole : FnScope ["value"] ["value"] (defScope s_is_whole) := by walk_at "sc"
theorem ok_is_whole (T : Txt K mg A) (F : Fun K "is_whole" "is_whole" s_is_whole f fd) : FnOk P w K mg base CX0 1 f fd ["value"] (PureSp K (S_wholeB)) := by
  refine okD F sc_is_whole (by walk_at "ln") fun _ _ _ _ _ _ hr ds Q h => ?_
  obtain ⟨i, rfl, q⟩ := h
  refine ⟨_, (dss_one (ds_ret (de_and (de_isi (T := .int) T.kt T.isinstance T.n_int PyProof.Rows.boot_int (dv 0)) (de_one (de_not (de_isi (T := .bool) T.kt T.isinstance T.n_bool PyProof.Rows.boot_bool (dv 0))))))), ?_⟩
  walk_at "rd"
  exact q
abbrev s_is_pair : Stmt := top 5
theorem sc_is_pair : FnScope ["value"] ["value"] (defScope s_is_pair) := by walk_at "sc"
theorem ok_is_pair (T : Txt K mg A) (G_is_whole : DOk P w K mg base 1 "is_whole" (S_wholeB)) (F : Fun K "is_pair" "is_pair" s_is_pair f fd) : FnOk P w K mg base CX0 2 f fd ["value"] (PureSp K (S_is_pair)) := by
  refine okD F sc_is_pair (by walk_at "ln") fun _ _ _ _ _ _ hr ds Q h => ?_
  obtain ⟨d, m, rfl, hm, q⟩ := h
  refine ⟨_, (dss_one (ds_ret (de_and (de_isi (T := .tuple) T.kt T.isinstance T.n_tuple PyProof.Rows.boot_tuple (dv 0)) (de_and (de_cmp (o_eq hr) (de_len rfl T.len (dv 0)) de_int (nomark _)) (de_and (de_call G_is_whole (hr.mono (by decide)) rfl (da_cons (de_ix (dv 0) de_int (fun _ _ => rfl)) da_nil)) (de_one (de_call G_is_whole (hr.mono (by decide)) rfl (da_cons (de_ix (dv 0) de_int (fun _ _ => rfl)) da_nil)))))))), ?_⟩
  obtain rfl := numD_dt hm
  cases m
  all_goals
    walk_at "rd"
    exact q
abbrev s_whole_shown : Stmt := top 8
theorem sc_whole_shown : FnScope ["number", "limit", "parts", "rest"] ["number"] (defScope s_whole_shown) := by walk_at "sc"
theorem ok_whole_shown_0 (T : Txt K mg A) (F : Fun K "whole_shown" "whole_shown" s_whole_shown f fd) : FnOk P w K mg base CX0 1 f fd ["number"] (PureSp K (S_shown0)) := by
  refine okD F sc_whole_shown (by walk_at "ln") fun _ _ _ _ _ _ hr ds Q h => ?_
  obtain ⟨n, rfl, hn, q⟩ := h
  refine ⟨_, (dss_cons (ds_if (dt_cmp (o_lt) (dv 0) de_int (nomark _)) (dss_one ds_never) dss_nil)
  (dss_cons (ds_set (i := 1) sc_whole_shown.nd rfl (Or.inl rfl) (de_op o_pow de_int de_int))
  (dss_cons (ds_setO (i := 2) sc_whole_shown.nd rfl (Or.inl rfl) (df_lst da_nil))
  (dss_cons (ds_set (i := 3) sc_whole_shown.nd rfl (Or.inl rfl) (dv 0))
  (dss_cons (ds_while PassesOwn.never (dt_cmp (o_ge) (dv 3) (dv 1) (nomark _)) (dss_cons (ds_app 2 (de_zfill (de_strI rfl T.n_str (de_op o_mod (dv 3) (dv 1))) de_int))
  (dss_one (ds_set (i := 3) sc_whole_shown.nd rfl (Or.inl rfl) (de_op o_fdivG (dv 3) (dv 1))))))
  (dss_cons (ds_app 2 (de_strI rfl T.n_str (dv 3)))
  (dss_cons (ds_rev 2)
  (dss_frz 2 (dss_one (ds_ret (de_join de_str (dv 2)))))))))))), ?_⟩
  refine ⟨_, rfl, _, _, rfl, rfl, _, rfl, ifF (decide_eq_false (by omega)) ?_⟩
  walk_at "rd"
  refine ⟨fun r ρ => ∃ ps : List Str, ρ = [.some (.int n), .some (.int (10 ^ Int.toNat 60)), .own (ps.map Dt.str), .some (.int r)] ∧ dg n = dg r ++ (ps.reverse.map tl).flatten ∧ (∀ y ∈ ps, y.length ≤ 61) ∧ r * 2 ^ ps.length ≤ n ∧ (ps.length = 0 ∨ 1 ≤ r), ⟨n, [], rfl, by simp, (fun y hy => nomatch hy), by simp, .inl rfl⟩, ?_⟩
  rintro r ρ' ⟨ps, rfl, hd, hp, hk, h1⟩
  have hps := pow_two_lt hk h1 hn
  have lp : (ps.map Dt.str).length = ps.length := List.length_map _
  refine ⟨_, rfl, _, rfl, _, _, rfl, rfl, _, rfl, ?_⟩
  rw [big60]
  refine ifB (fun h => ?_) (fun h => ?_)
  · have hr : 10 ^ 60 ≤ r := Int.ofNat_le.mp (of_decide_eq_true h)
    have hlt : r % 10 ^ 60 < 10 ^ 60 := Nat.mod_lt _ (by decide)
    refine ⟨_, rfl, _, rfl, _, rfl, _, _, rfl, rfl, (by show ((10 ^ 60 : Nat) : Int) ≠ 0; decide), ?_⟩
    dsimp only
    rw [fm_nat]
    refine ⟨_, rfl, Nat.lt_trans (log_lt (k := 200) (by decide) (Nat.lt_trans (by rw [Int.natAbs_natCast]; exact hlt) (by decide))) (by decide), _, rfl, Nat.le_trans (shw_len (k := 60) _ (by decide) (by rw [Int.natAbs_natCast]; exact hlt)) (by decide), _, rfl, rfl, by rw [lp]; omega, ?_⟩
    refine ⟨_, rfl, _, rfl, _, _, rfl, rfl, cdivG (by decide) (by decide), ?_⟩
    dsimp only
    rw [fd_nat]
    have hq : 0 < r / 10 ^ 60 := Nat.div_pos hr (by decide)
    have hm := Nat.div_mul_le_self r (10 ^ 60)
    have h2 : r / 10 ^ 60 * 2 ≤ r := Nat.le_trans (Nat.mul_le_mul_left _ (by decide)) hm
    refine ⟨r / 10 ^ 60, Nat.div_lt_self (by omega) (by decide), ps ++ [Txt.zfill (shw ((r % 10 ^ 60 : Nat) : Int)) ((60 : Nat) : Int)], by rw [List.map_append]; rfl, shw_next hd hr, fun y hy => ?_, ?_, .inr hq⟩
    · rcases List.mem_append.mp hy with hy | hy
      · exact hp y hy
      · rw [List.mem_singleton.mp hy]; exact zf_len hlt
    · have e3 : 2 ^ (ps.length + 1) = 2 * 2 ^ ps.length := Nat.pow_succ'
      rw [List.length_append, List.length_singleton, e3, ← Nat.mul_assoc]
      exact Nat.le_trans (Nat.mul_le_mul_right _ h2) hk
  · have hr : ¬ ((10 ^ 60 : Nat) : Int) ≤ (r : Int) := of_decide_eq_false h
    have hr : r < 10 ^ 60 := by omega
    have hl := shw_len (k := 60) (r : Int) (by decide) (by rw [Int.natAbs_natCast]; exact hr)
    refine ⟨_, rfl, _, rfl, _, rfl, Nat.lt_trans (log_lt (k := 200) (by decide) (Nat.lt_trans (by rw [Int.natAbs_natCast]; exact hr) (by decide))) (by decide), by rw [lp]; omega, ?_⟩
    refine ⟨_, rfl, _, rfl, _, rfl, _, rfl, (ps ++ [shw r]).reverse, ?_, join_ok (fun y hy => ?_) (by rw [List.length_reverse, List.length_append]; show _ + 1 ≤ _; omega), ?_⟩
    · rw [List.map_reverse, List.map_append]; rfl
    · rcases List.mem_append.mp (List.mem_reverse.mp hy) with hy | hy
      · exact hp y hy
      · rw [List.mem_singleton.mp hy]; exact hl
    · rw [shw_parts hd]; exact q
theorem ok_whole_shown (T : Txt K mg A) (G_whole_shown : DOk P w K mg base 1 "whole_shown" (S_shown0)) (F : Fun K "whole_shown" "whole_shown" s_whole_shown f fd) : FnOk P w K mg base CX0 2 f fd ["number"] (PureSp K (S_shownW)) := by
  refine okD F sc_whole_shown (by walk_at "ln") fun _ _ _ _ _ _ hr ds Q h => ?_
  obtain ⟨i, rfl, hi, q⟩ := h
  refine ⟨_, (dss_cons (ds_if (dt_cmp (o_lt) (dv 0) de_int (nomark _)) (dss_one (ds_ret (de_op o_catS de_str (de_call G_whole_shown (hr.mono (by decide)) rfl (da_cons (de_neg (dv 0)) da_nil))))) dss_nil)
  (dss_cons (ds_set (i := 1) sc_whole_shown.nd rfl (Or.inl rfl) (de_op o_pow de_int de_int))
  (dss_cons (ds_setO (i := 2) sc_whole_shown.nd rfl (Or.inl rfl) (df_lst da_nil))
  (dss_cons (ds_set (i := 3) sc_whole_shown.nd rfl (Or.inl rfl) (dv 0))
  (dss_cons (ds_while PassesOwn.never (dt_cmp (o_ge) (dv 3) (dv 1) (nomark _)) (dss_cons (ds_app 2 (de_zfill (de_strI rfl T.n_str (de_op o_mod (dv 3) (dv 1))) de_int))
  (dss_one (ds_set (i := 3) sc_whole_shown.nd rfl (Or.inl rfl) (de_op o_fdivG (dv 3) (dv 1))))))
  (dss_cons (ds_app 2 (de_strI rfl T.n_str (dv 3)))
  (dss_cons (ds_rev 2)
  (dss_frz 2 (dss_one (ds_ret (de_join de_str (dv 2)))))))))))), ?_⟩
  refine ⟨_, rfl, _, _, rfl, rfl, _, rfl, ifB (fun h => ?_) (fun h => ?_)⟩
  · have h0 : i < 0 := of_decide_eq_true h
    obtain ⟨n, rfl, hn⟩ : ∃ n : Nat, i = -(n : Int) ∧ 0 < n := ⟨i.natAbs, by omega, by omega⟩
    rw [shw_neg hn] at q
    have hn2 : n < 2 ^ 1800 := by rw [Int.natAbs_neg, Int.natAbs_natCast] at hi; exact hi
    refine ⟨_, rfl, _, rfl, n, by rw [Int.neg_neg], hn2, _, _, rfl, rfl, ?_, q⟩
    have e : (("-" : Str)).length = 1 := by decide +kernel
    have := shw_len (k := 1800) (n : Int) (by decide) (by rw [Int.natAbs_natCast]; exact Nat.lt_of_lt_of_le hn2 (Nat.pow_le_pow_left (by decide) _))
    rw [e]; omega
  · have h0 : ¬ i < 0 := of_decide_eq_false h
    obtain ⟨n, rfl⟩ := Int.eq_ofNat_of_zero_le (show 0 ≤ i by omega)
    have hn : n < 2 ^ 1800 := by rw [Int.natAbs_natCast] at hi; exact hi
    walk_at "rd"
    refine ⟨fun r ρ => ∃ ps : List Str, ρ = [.some (.int n), .some (.int (10 ^ Int.toNat 60)), .own (ps.map Dt.str), .some (.int r)] ∧ dg n = dg r ++ (ps.reverse.map tl).flatten ∧ (∀ y ∈ ps, y.length ≤ 61) ∧ r * 2 ^ ps.length ≤ n ∧ (ps.length = 0 ∨ 1 ≤ r), ⟨n, [], rfl, by simp, (fun y hy => nomatch hy), by simp, .inl rfl⟩, ?_⟩
    rintro r ρ' ⟨ps, rfl, hd, hp, hk, h1⟩
    have hps := pow_two_lt hk h1 hn
    have lp : (ps.map Dt.str).length = ps.length := List.length_map _
    refine ⟨_, rfl, _, rfl, _, _, rfl, rfl, _, rfl, ?_⟩
    rw [big60]
    refine ifB (fun h => ?_) (fun h => ?_)
    · have hr : 10 ^ 60 ≤ r := Int.ofNat_le.mp (of_decide_eq_true h)
      have hlt : r % 10 ^ 60 < 10 ^ 60 := Nat.mod_lt _ (by decide)
      refine ⟨_, rfl, _, rfl, _, rfl, _, _, rfl, rfl, (by show ((10 ^ 60 : Nat) : Int) ≠ 0; decide), ?_⟩
      dsimp only
      rw [fm_nat]
      refine ⟨_, rfl, Nat.lt_trans (log_lt (k := 200) (by decide) (Nat.lt_trans (by rw [Int.natAbs_natCast]; exact hlt) (by decide))) (by decide), _, rfl, Nat.le_trans (shw_len (k := 60) _ (by decide) (by rw [Int.natAbs_natCast]; exact hlt)) (by decide), _, rfl, rfl, by rw [lp]; omega, ?_⟩
      refine ⟨_, rfl, _, rfl, _, _, rfl, rfl, cdivG (by decide) (by decide), ?_⟩
      dsimp only
      rw [fd_nat]
      have hq : 0 < r / 10 ^ 60 := Nat.div_pos hr (by decide)
      have hm := Nat.div_mul_le_self r (10 ^ 60)
      have h2 : r / 10 ^ 60 * 2 ≤ r := Nat.le_trans (Nat.mul_le_mul_left _ (by decide)) hm
      refine ⟨r / 10 ^ 60, Nat.div_lt_self (by omega) (by decide), ps ++ [Txt.zfill (shw ((r % 10 ^ 60 : Nat) : Int)) ((60 : Nat) : Int)], by rw [List.map_append]; rfl, shw_next hd hr, fun y hy => ?_, ?_, .inr hq⟩
      · rcases List.mem_append.mp hy with hy | hy
        · exact hp y hy
        · rw [List.mem_singleton.mp hy]; exact zf_len hlt
      · have e3 : 2 ^ (ps.length + 1) = 2 * 2 ^ ps.length := Nat.pow_succ'
        rw [List.length_append, List.length_singleton, e3, ← Nat.mul_assoc]
        exact Nat.le_trans (Nat.mul_le_mul_right _ h2) hk
    · have hr : ¬ ((10 ^ 60 : Nat) : Int) ≤ (r : Int) := of_decide_eq_false h
      have hr : r < 10 ^ 60 := by omega
      have hl := shw_len (k := 60) (r : Int) (by decide) (by rw [Int.natAbs_natCast]; exact hr)
      refine ⟨_, rfl, _, rfl, _, rfl, Nat.lt_trans (log_lt (k := 200) (by decide) (Nat.lt_trans (by rw [Int.natAbs_natCast]; exact hr) (by decide))) (by decide), by rw [lp]; omega, ?_⟩
      refine ⟨_, rfl, _, rfl, _, rfl, _, rfl, (ps ++ [shw r]).reverse, ?_, join_ok (fun y hy => ?_) (by rw [List.length_reverse, List.length_append]; show _ + 1 ≤ _; omega), ?_⟩
      · rw [List.map_reverse, List.map_append]; rfl
      · rcases List.mem_append.mp (List.mem_reverse.mp hy) with hy | hy
        · exact hp y hy
        · rw [List.mem_singleton.mp hy]; exact hl
      · rw [shw_parts hd]; exact q
abbrev s_number_shown : Stmt := top 9
theorem sc_number_shown : FnScope ["number"] ["number"] (defScope s_number_shown) := by walk_at "sc"
theorem ok_number_shown (T : Txt K mg A) (G_is_pair : DOk P w K mg base 2 "is_pair" (S_is_pair)) (G_whole_shown : DOk P w K mg base 2 "whole_shown" (S_shownW)) (F : Fun K "number_shown" "number_shown" s_number_shown f fd) : FnOk P w K mg base CX0 3 f fd ["number"] (PureSp K (S_nshown)) := by
  refine okD F sc_number_shown (by walk_at "ln") fun _ _ _ _ _ _ hr ds Q h => ?_
  obtain ⟨m, rfl, h1, h2, q⟩ := h
  refine ⟨_, (dss_cons (ds_if (dt_val (de_call G_is_pair (hr.mono (by decide)) rfl (da_cons (dv 0) da_nil))) (dss_one (ds_ret (de_op o_catS (de_op o_catS (de_call G_whole_shown (hr.mono (by decide)) rfl (da_cons (de_ix (dv 0) de_int (fun _ _ => rfl)) da_nil)) de_str) (de_call G_whole_shown (hr.mono (by decide)) rfl (da_cons (de_ix (dv 0) de_int (fun _ _ => rfl)) da_nil))))) dss_nil)
  (dss_one (ds_ret (de_call G_whole_shown (hr.mono (by decide)) rfl (da_cons (dv 0) da_nil))))), ?_⟩
  refine ⟨_, rfl, _, m, rfl, numD_of m, _, rfl, ?_⟩
  cases m with
  | i a => exact ifF rfl ⟨_, rfl, a, rfl, h1, q⟩
  | p a b =>
    have h1 : a.natAbs < 2 ^ 1800 := h1
    have h2 : b.natAbs < 2 ^ 1800 := h2
    refine ifT rfl ⟨_, rfl, _, _, _, rfl, rfl, rfl, a, rfl, h1, _, _, rfl, rfl, by have := l1800 h1; rw [len_comma]; omega, _, rfl, _, _, _, rfl, rfl, rfl, b, rfl, h2, _, _, rfl, rfl, ?_, q⟩
    have := l1800 h1
    have := l1800 h2
    rw [← tl_len, tl_app, List.length_append, tl_len, tl_len, len_comma]
    omega
abbrev s_law_text : Stmt := top 19
theorem sc_law_text : FnScope ["_law_number_here"] ["_law_number_here"] (defScope s_law_text) := by walk_at "sc"
theorem ok_law_text (T : Txt K mg A) (F : Fun K "_law_text" "_law_text" s_law_text f fd) : FnOk P w K mg base CX0 1 f fd ["_law_number_here"] (PureSp K (S_nshown)) := by
  refine okD F sc_law_text (by walk_at "ln") fun _ _ _ _ _ _ hr ds Q h => ?_
  obtain ⟨m, rfl, h1, h2, q⟩ := h
  refine ⟨_, (dss_cons (ds_if (dt_val (de_isi (T := .tuple) T.kt T.isinstance T.n_tuple PyProof.Rows.boot_tuple (dv 0))) (dss_one (ds_ret (de_op o_catS (de_op o_catS (de_strI rfl T.n_str (de_ix (dv 0) de_int (fun _ _ => rfl))) de_str) (de_strI rfl T.n_str (de_ix (dv 0) de_int (fun _ _ => rfl)))))) dss_nil)
  (dss_one (ds_ret (de_strI rfl T.n_str (dv 0))))), ?_⟩
  cases m with
  | i a =>
    walk_at "rd"
    exact ⟨Nat.lt_trans (log_lt (by decide) h1) (by decide), q⟩
  | p a b =>
    have h1 : a.natAbs < 2 ^ 1800 := h1
    have h2 : b.natAbs < 2 ^ 1800 := h2
    have k1 := l1800 h1
    have k2 := l1800 h2
    walk_at "rd"
    refine ⟨Nat.lt_trans (log_lt (by decide) h1) (by decide), _, _, rfl, rfl, by rw [len_comma]; show (shw a).length + 1 ≤ _; omega, _, rfl, _, _, _, rfl, rfl, rfl, b, rfl, Nat.lt_trans (log_lt (by decide) h2) (by decide), _, _, rfl, rfl, ?_, q⟩
    show (shw a ++ ("," : Str)).length + (shw b).length ≤ _
    rw [← tl_len (shw a ++ _), tl_app, List.length_append, tl_len, tl_len, len_comma]
    omega
abbrev s_law_long_shown : Stmt := top 24
theorem sc_law_long_shown : FnScope ["_law_cell", "_law_long", "_law_number_here", "_law_text_here"] ["_law_cell"] (defScope s_law_long_shown) := by walk_at "sc"
theorem ok_law_long_shown (T : Txt K mg A) (G_number_shown : DOk P w K mg base 3 "number_shown" (S_nshown)) (G__law_text : DOk P w K mg base 1 "_law_text" (S_nshown)) (F : Fun K "_law_long_shown" "_law_long_shown" s_law_long_shown f fd) : FnOk P w K mg base CX0 4 f fd ["_law_cell"] (PureSp K (S_long)) := by
  refine okD F sc_law_long_shown (by walk_at "ln") fun _ _ _ _ _ _ hr ds Q h => ?_
  obtain ⟨z, rfl, q⟩ := h
  refine ⟨_, (dss_cons (ds_set (i := 1) sc_law_long_shown.nd rfl (Or.inl rfl) (de_op o_add (de_op o_mul (de_op o_mul (de_op o_mod (de_op o_add (de_op o_mul (dv 0) de_int) de_int) (de_op o_pow de_int de_int)) (de_op o_pow de_int de_int)) (de_op o_pow de_int de_int)) (de_op o_mod (dv 0) (de_op o_pow de_int de_int))))
  (dss_cons (ds_set (i := 1) sc_law_long_shown.nd rfl (Or.inl rfl) (de_op o_mul (dv 1) (de_op o_sub de_int (de_op o_mul de_int (de_op o_mod (de_op o_fdiv (dv 0) de_int) de_int)))))
  (dss_cons (ds_for (j := 2) rfl sc_law_long_shown.nd rfl (Or.inl rfl) PassesOwn.never (de_lst (da_cons (dv 1) (da_cons (de_tup (da_cons (dv 1) (da_cons (de_op o_mod (dv 0) de_int) da_nil))) (da_cons (de_tup (da_cons (de_op o_sub de_int (de_op o_mod (dv 0) (de_op o_pow de_int de_int))) (da_cons (dv 1) da_nil))) da_nil)))) (dss_cons (ds_set (i := 3) sc_law_long_shown.nd rfl (Or.inl rfl) (de_call G_number_shown (hr.mono (by decide)) rfl (da_cons (dv 2) da_nil)))
  (dss_one (ds_if (DW.dt (dw_or (dt_not (dt_val (de_isiS T.isinstance T.n_str (dv 3)))) (dw_or1 (dt_cmp (o_neS) (dv 3) (de_call G__law_text (hr.mono (by decide)) rfl (da_cons (dv 2) da_nil)) (nomark _))))) (dss_one (ds_ret de_bl)) dss_nil))))
  (dss_one (ds_ret de_bl))))), ?_⟩
  have a0 := Int.fmod_nonneg_of_pos (z * 48271 + 7) (show (0 : Int) < 10 ^ Int.toNat 64 by decide)
  have a1 := Int.fmod_lt_of_pos (z * 48271 + 7) (show (0 : Int) < 10 ^ Int.toNat 64 by decide)
  have b0 := Int.fmod_nonneg_of_pos z (show (0 : Int) < 10 ^ Int.toNat 40 by decide)
  have b1 := Int.fmod_lt_of_pos z (show (0 : Int) < 10 ^ Int.toNat 40 by decide)
  have c0 := Int.fmod_nonneg_of_pos (z.fdiv 3) (show (0 : Int) < 2 by decide)
  have c1 := Int.fmod_lt_of_pos (z.fdiv 3) (show (0 : Int) < 2 by decide)
  have d0 := Int.fmod_nonneg_of_pos z (show (0 : Int) < 1000 by decide)
  have d1 := Int.fmod_lt_of_pos z (show (0 : Int) < 1000 by decide)
  have e0 := Int.fmod_nonneg_of_pos z (show (0 : Int) < 10 ^ Int.toNat 9 by decide)
  have e1 := Int.fmod_lt_of_pos z (show (0 : Int) < 10 ^ Int.toNat 9 by decide)
  have t64 : ((10 : Int) ^ Int.toNat 64).natAbs < 2 ^ 213 := by decide
  have t64' : (10 : Int) ^ Int.toNat 64 < 2 ^ 213 := by decide
  have t40 : (10 : Int) ^ Int.toNat 40 < 2 ^ 213 := by decide
  have t9 : (10 : Int) ^ Int.toNat 9 = 1000000000 := by decide
  walk_at "rd"
  generalize (z * 48271 + 7).fmod (10 ^ Int.toNat 64) = a at *
  have ha : a.natAbs < 2 ^ 213 := by
    have : ((2 ^ 213 : Nat) : Int) = 2 ^ 213 := by decide
    generalize (10 : Int) ^ Int.toNat 64 = t at *
    generalize 2 ^ 213 = X at *
    omega
  have hat := natAbs_mul_lt ha t64
  have hatt := natAbs_mul_lt hat t64
  refine ⟨mulBigT ha t64 (by decide), ?_⟩
  walk_at "rd"
  refine ⟨mulBigT hat t64 (by decide), ?_⟩
  walk_at "rd"
  dsimp only
  generalize a * 10 ^ Int.toNat 64 * 10 ^ Int.toNat 64 = w at *
  generalize z.fmod (10 ^ Int.toNat 40) = v at *
  have hv : v.natAbs < 2 ^ 213 := by
    have : ((2 ^ 213 : Nat) : Int) = 2 ^ 213 := by decide
    generalize 2 ^ 213 = X at *
    omega
  refine ⟨small (by omega) (by omega) _, ?_⟩
  obtain ⟨y, hy⟩ : ∃ y, (w + v) * (1 - 2 * (z.fdiv 3).fmod 2) = y := ⟨_, rfl⟩
  have yb : y.natAbs < 2 ^ 1800 := by
    have h1 : 2 ^ (213 + 213 + 213) + 2 ^ 213 ≤ 2 ^ 1800 := Nat.le_trans (show 2 ^ (213 + 213 + 213) + 2 ^ 213 ≤ 2 ^ 640 by decide) (Nat.pow_le_pow_right (by decide) (by decide))
    generalize 2 ^ 1800 = W at *
    generalize 2 ^ (213 + 213 + 213) = X at *
    generalize 2 ^ 213 = Y at *
    rcases (by omega : (z.fdiv 3).fmod 2 = 0 ∨ (z.fdiv 3).fmod 2 = 1) with e | e <;> rw [e] at hy <;> omega
  have small18 : ∀ i : Int, i.natAbs < 2 ^ 64 → i.natAbs < 2 ^ 1800 := fun i h => Nat.lt_of_lt_of_le h (Nat.pow_le_pow_right (by decide) (by decide))
  walk_at "rd"
  dsimp only
  rw [hy]
  refine ⟨_, fun _ ρ => ∃ v2 v3, ρ = [.some (.int z), .some (.int y), v2, v3], rfl, ⟨_, _, rfl⟩, ?_, ?_⟩
  · rintro i e ρ' he ⟨v2, v3, rfl⟩
    obtain ⟨m, rfl, m1, m2⟩ : ∃ m : Nm, e = m.dt ∧ m.re.natAbs < 2 ^ 1800 ∧ m.im.natAbs < 2 ^ 1800 := by
      match i, he with
      | 0, he => exact ⟨.i y, (Option.some.inj he).symm, yb, small18 0 (by decide)⟩
      | 1, he => exact ⟨.p y (z.fmod 1000), (Option.some.inj he).symm, yb, small18 _ (by show (z.fmod 1000).natAbs < 18446744073709551616; omega)⟩
      | 2, he => exact ⟨.p (0 - z.fmod (10 ^ Int.toNat 9)) y, (Option.some.inj he).symm, small18 _ (by show (0 - z.fmod (10 ^ Int.toNat 9)).natAbs < 18446744073709551616; rw [t9] at e0 e1 ⊢; omega), yb⟩
      | i + 3, he => cases he
    refine ⟨_, rfl, m, rfl, m1, m2, _, rfl, _, rfl, _, rfl, ifF rfl ?_⟩
    exact ⟨_, rfl, _, rfl, m, rfl, m1, m2, _, _, rfl, rfl, _, rfl, ifF (nT (beq_self_eq_true _)) ⟨_, _, rfl⟩⟩
  · rintro ρ' ⟨v2, v3, rfl⟩
    exact q
abbrev s_law_one : Stmt := top 21
theorem sc_law_one : FnScope ["_law_cell", "_law_size", "_law_rest"] ["_law_cell"] (defScope s_law_one) := by walk_at "sc"
theorem ok_law_one (T : Txt K mg A) (F : Fun K "_law_one" "_law_one" s_law_one f fd) : FnOk P w K mg base CX0 1 f fd ["_law_cell"] (PureSp K (S_lone)) := by
  refine okD F sc_law_one (by walk_at "ln") fun _ _ _ _ _ _ hr ds Q h => ?_
  obtain ⟨z, rfl, q⟩ := h
  refine ⟨_, (dss_cons (ds_set (i := 1) sc_law_one.nd rfl (Or.inl rfl) (de_ix (de_lst (da_cons de_int (da_cons (de_op o_pow de_int de_int) (da_cons (de_op o_pow de_int de_int) (da_cons (de_op o_pow de_int de_int) da_nil))))) (de_op o_mod (dv 0) de_int) (fun _ _ => rfl)))
  (dss_cons (ds_set (i := 2) sc_law_one.nd rfl (Or.inl rfl) (de_op o_fdiv (dv 0) de_int))
  (dss_one (ds_ret (de_op o_mul (de_op o_mod (de_op o_fdiv (dv 2) de_int) (dv 1)) (de_op o_sub de_int (de_op o_mul de_int (de_op o_mod (dv 2) de_int)))))))), ?_⟩
  obtain ⟨s, es, s1, s2⟩ := four_at (z := z)
  have m0 := Int.fmod_nonneg_of_pos (z.fdiv 4) (show (0 : Int) < 2 by decide)
  have m1 := Int.fmod_lt_of_pos (z.fdiv 4) (show (0 : Int) < 2 by decide)
  have b0 := Int.fmod_nonneg_of_pos ((z.fdiv 4).fdiv 2) (show (0 : Int) < s by omega)
  have b1 := Int.fmod_lt_of_pos ((z.fdiv 4).fdiv 2) (show (0 : Int) < s by omega)
  walk_at "rd"
  refine ⟨_, _, _, rfl, rfl, es, ?_⟩
  walk_at "rd"
  refine ⟨(by show s ≠ 0; omega), ?_⟩
  walk_at "rd"
  refine ⟨small (by omega) (by omega) _, q _ ?_⟩
  generalize 10 ^ 60 = B at *
  rcases (by omega : (z.fdiv 4).fmod 2 = 0 ∨ (z.fdiv 4).fmod 2 = 1) with e | e <;> rw [e] <;> omega
abbrev s_law_number : Stmt := top 22
theorem sc_law_number : FnScope ["_law_cell"] ["_law_cell"] (defScope s_law_number) := by walk_at "sc"
theorem ok_law_number (T : Txt K mg A) (G__law_one : DOk P w K mg base 1 "_law_one" (S_lone)) (F : Fun K "_law_number" "_law_number" s_law_number f fd) : FnOk P w K mg base CX0 2 f fd ["_law_cell"] (PureSp K (S_lnumber)) := by
  refine okD F sc_law_number (by walk_at "ln") fun _ _ _ _ _ _ hr ds Q h => ?_
  obtain ⟨z, rfl, q⟩ := h
  refine ⟨_, (dss_cons (ds_if (dt_cmp (o_eq hr) (de_op o_mod (dv 0) de_int) de_int (nomark _)) (dss_one (ds_ret (de_tup (da_cons (de_call G__law_one (hr.mono (by decide)) rfl (da_cons (de_op o_fdiv (dv 0) de_int) da_nil)) (da_cons (de_call G__law_one (hr.mono (by decide)) rfl (da_cons (de_op o_mod (de_op o_mul (de_op o_fdiv (dv 0) de_int) de_int) de_int) da_nil)) da_nil))))) dss_nil)
  (dss_one (ds_ret (de_call G__law_one (hr.mono (by decide)) rfl (da_cons (de_op o_fdiv (dv 0) de_int) da_nil))))), ?_⟩
  refine ⟨_, rfl, _, _, rfl, rfl, cmodN (by decide), rfl, rfl, _, rfl, ifB (fun _ => ?_) (fun _ => ?_)⟩
  · refine ⟨_, rfl, _, _, rfl, rfl, cdivN (by decide), _, rfl, fun i hi => ?_⟩
    refine ⟨_, rfl, _, _, rfl, rfl, cdivN (by decide), _, _, rfl, rfl, mulR (by decide), _, _, rfl, rfl, cmodN (by decide), _, rfl, fun j hj => ⟨rfl, q (.p i j) hi hj⟩⟩
  · exact ⟨_, rfl, _, _, rfl, rfl, cdivN (by decide), _, rfl, fun i hi => q (.i i) hi (by show (0 : Int).natAbs < _; decide)⟩
abbrev s_has_figures_alone : Stmt := top 10
theorem sc_has_figures_alone : FnScope ["text", "sign"] ["text"] (defScope s_has_figures_alone) := by walk_at "sc"
theorem ok_has_figures_alone (T : Txt K mg A) (F : Fun K "has_figures_alone" "has_figures_alone" s_has_figures_alone f fd) : FnOk P w K mg base CX0 1 f fd ["text"] (PureSp K (S_alone)) := by
  refine okD F sc_has_figures_alone (by walk_at "ln") fun _ _ _ _ _ _ hr ds Q h => ?_
  obtain ⟨x, rfl, hx, q⟩ := h
  refine ⟨_, (dss_cons (ds_forT (j := 1) rfl sc_has_figures_alone.nd rfl (Or.inl rfl) PassesOwn.never (dv 0) (dss_one (ds_if (dt_cmp o_notinT (dv 1) (de_gstrE rfl T.gs_FIGURES) (by with_unfolding_all rfl)) (dss_one (ds_ret de_bl)) dss_nil)))
  (dss_one (ds_ret de_bl))), ?_⟩
  refine ⟨_, rfl, x, fun i ρ => ∃ v, ρ = [.some (.str x), v] ∧ ∀ c ∈ (tl x).take i, figB c = true, rfl, asc_all hx, ⟨_, rfl, fun c hc => by cases hc⟩, ?_, ?_⟩
  · rintro i c ρ' hc ⟨v, rfl, hb⟩
    have hc' : (tl x)[i]? = some c := by unfold tl; rw [Array.getElem?_toList]; exact hc
    refine ⟨_, rfl, _, _, rfl, rfl, _, rfl, ?_⟩
    rw [occ_fig]
    refine ifB (fun h => ?_) (fun h => ⟨_, rfl, fun c' hc2 => ?_⟩)
    · have : allFg x = false := by
        rw [← Bool.not_eq_true]
        intro z
        have := List.all_eq_true.mp z c (List.mem_of_getElem? hc')
        unfold figB at this
        rw [this] at h; cases h
      rw [this] at q
      exact q
    · rw [List.take_succ, hc'] at hc2
      rcases List.mem_append.mp hc2 with h2 | h2
      · exact hb c' h2
      · rw [List.mem_singleton.mp h2]
        exact of_nF h
  · rintro ρ' ⟨v, rfl, hb⟩
    have : allFg x = true := List.all_eq_true.mpr fun c hc => hb c (by
      rw [List.take_of_length_le (by unfold tl; simp)]; exact hc)
    rw [this] at q
    exact q
abbrev s_whole_read : Stmt := top 11
theorem sc_whole_read : FnScope ["text", "figures"] ["text"] (defScope s_whole_read) := by walk_at "sc"
theorem ok_whole_read (T : Txt K mg A) (G_has_figures_alone : DOk P w K mg base 1 "has_figures_alone" (S_alone)) (F : Fun K "whole_read" "whole_read" s_whole_read f fd) : FnOk P w K mg base (CX1 P w) 2 f fd ["text"] (PureSpX K (S_wread A)) := by
  refine okDX F sc_whole_read (by walk_at "ln") fun _ _ _ _ _ _ hr ds Q R h rz => ?_
  obtain ⟨x, rfl, hx, hl, q, hR⟩ := h
  refine ⟨_, (dss_cons (ds_set (i := 1) sc_whole_read.nd rfl (Or.inl rfl) (de_ifExp (dt_val (de_starts (dv 0) de_str)) (de_sliceT (dv 0) (do_some de_int) do_none) (dv 0)))
  (dss_join (ds_if (DW.dt (dw_or (dt_cmp (o_eqS) (dv 1) de_str (nomark _)) (dw_or (dt_cmp (o_gt) (de_lenS rfl T.len (dv 1)) de_int (nomark _)) (dw_or1 (dt_not (dt_val (de_call G_has_figures_alone (hr.mono (by decide)) rfl (da_cons (dv 1) da_nil)))))))) (dss_one (ds_raise rfl rfl T.gc_NoText T.ex_NoText de_str)) dss_nil)
  (dss_join (ds_if (DW.dt (dw_and (dt_cmp (o_eqS) (de_itS (dv 1) de_int) de_str (nomark _)) (dw_and1 (dt_cmp (o_neS) (dv 0) de_str (nomark _))))) (dss_one (ds_raise rfl rfl T.gc_NoText T.ex_NoText de_str)) dss_nil)
  (dss_one (ds_ret (de_intS rfl T.n_int (dv 0))))))), ?_⟩
  have hxl := tl_len x
  have hx60 : (fg x).length ≤ 60 → x.length ≤ 61 := fun h => by
    rw [← hxl]
    rcases fg_of (x := x) rfl with ⟨e, _⟩ | e
    · rw [e]; omega
    · rw [e, List.length_cons]; omega
  refine ⟨_, rfl, _, rfl, by omega, _, rfl, _, rfl, ?_⟩
  rw [starts_dash]
  refine ifB (fun h => ?_) (fun h => ?_)
  · have h := of_decide_eq_true h
    have h1 : 1 ≤ (tl x).length := by
      cases e : tl x with
      | nil => rw [e] at h; cases h
      | cons c r => rw [List.length_cons]; omega
    refine ⟨_, rfl, _, rfl, _, rfl, by omega, ?_⟩
    obtain ⟨f, hf⟩ : ∃ f, Txt.slice x (some 1) none = f := ⟨_, rfl⟩
    have t1 : tl f = fg x := by rw [← hf, slice_from (by decide) (by omega)]; unfold fg; rw [if_pos h]; rfl
    have a1 : asc f := hf ▸ asc_slice hx
    have l1 : f.length ≤ 5000 := by have := slice_len x (some 1) none; rw [hf] at this; omega
    rw [hf]
    have hfl := tl_len f
    refine ⟨fun ρ => ρ = [.some (.str x), .some (.str f)] ∧ fg x ≠ [] ∧ (fg x).length ≤ 60 ∧ ∀ c ∈ fg x, isDg c, ?_, ?_⟩
    · refine ⟨_, rfl, _, _, rfl, rfl, _, rfl, ?_⟩
      rw [str_nil, t1]
      refine ifB (fun h => ifT rfl (rz _ (hR (wv_none fun z => ((numl_iff rfl).mp z.1).1 (of_decide_eq_true h))))) (fun h => ?_)
      refine ⟨_, rfl, _, rfl, by omega, _, _, rfl, rfl, _, rfl, ifB (fun h2 => ifT rfl (rz _ (hR (wv_none fun z => ?_)))) (fun h2 => ?_)⟩
      · have h2 : (60 : Int) < (f.length : Int) := of_decide_eq_true h2
        have := z.2
        rw [← t1] at this
        omega
      have h2 : ¬ (60 : Int) < (f.length : Int) := of_decide_eq_false h2
      refine ⟨_, rfl, f, rfl, a1, _, rfl, ifB (fun h3 => (rz _ (hR (wv_none fun z => ?_)))) (fun h3 => ⟨rfl, of_decide_eq_false h, by rw [← t1]; omega, by rw [← t1]; exact allFg_iff.mp (of_nF h3)⟩)⟩
      have z2 := ((numl_iff rfl).mp z.1).2.1
      rw [← t1] at z2
      rw [allFg_iff.mpr z2] at h3
      cases h3
    rintro ρ ⟨rfl, f1, f2, f3⟩
    obtain ⟨c, r, ec⟩ : ∃ c r, fg x = c :: r := by
      cases e : fg x with
      | nil => exact absurd e f1
      | cons c r => exact ⟨c, r, rfl⟩
    refine ⟨fun ρ => ρ = [.some (.str x), .some (.str f)] ∧ (c = 48 → tl x = [48]), ?_, ?_⟩
    · refine ⟨_, rfl, _, _, c, rfl, rfl, by decide, by decide, by rw [← tl_len, t1, ec, List.length_cons]; omega, cps_head (t1.trans ec), _, _, rfl, rfl, _, rfl, ?_⟩
      rw [one_nought]
      refine ifB (fun h => ?_) (fun h => ifF rfl ⟨rfl, fun z => absurd z (of_decide_eq_false h)⟩)
      refine ⟨_, rfl, _, _, rfl, rfl, _, rfl, ?_⟩
      rw [is_nought]
      refine ifB (fun h2 => rz _ (hR (wv_none fun z => ?_))) (fun h2 => ⟨rfl, fun _ => of_decide_eq_true (of_nF h2)⟩)
      have z3 := ((numl_iff rfl).mp z.1).2.2 (by rw [ec, of_decide_eq_true h]; rfl)
      rw [decide_eq_true z3] at h2
      cases h2
    rintro ρ ⟨rfl, hc⟩
    have hn : Numl (tl x) := (numl_iff rfl).mpr ⟨f1, f3, fun z => hc (by rw [ec] at z; exact Option.some.inj z)⟩
    exact ⟨_, rfl, x, rfl, hn, by show (tl x).length ≤ 640; rw [hxl]; have := hx60 f2; omega, q _ (wv_some hn f2)⟩
  · refine ⟨_, rfl, ?_⟩
    have t1 : tl x = fg x := by unfold fg; rw [if_neg (of_decide_eq_false h)]
    have a1 := hx
    have l1 := hl
    have hfl := tl_len x
    refine ⟨fun ρ => ρ = [.some (.str x), .some (.str x)] ∧ fg x ≠ [] ∧ (fg x).length ≤ 60 ∧ ∀ c ∈ fg x, isDg c, ?_, ?_⟩
    · refine ⟨_, rfl, _, _, rfl, rfl, _, rfl, ?_⟩
      rw [str_nil, t1]
      refine ifB (fun h => ifT rfl (rz _ (hR (wv_none fun z => ((numl_iff rfl).mp z.1).1 (of_decide_eq_true h))))) (fun h => ?_)
      refine ⟨_, rfl, _, rfl, by omega, _, _, rfl, rfl, _, rfl, ifB (fun h2 => ifT rfl (rz _ (hR (wv_none fun z => ?_)))) (fun h2 => ?_)⟩
      · have h2 : (60 : Int) < (x.length : Int) := of_decide_eq_true h2
        have := z.2
        rw [← t1] at this
        omega
      have h2 : ¬ (60 : Int) < (x.length : Int) := of_decide_eq_false h2
      refine ⟨_, rfl, x, rfl, a1, _, rfl, ifB (fun h3 => (rz _ (hR (wv_none fun z => ?_)))) (fun h3 => ⟨rfl, of_decide_eq_false h, by rw [← t1]; omega, by rw [← t1]; exact allFg_iff.mp (of_nF h3)⟩)⟩
      have z2 := ((numl_iff rfl).mp z.1).2.1
      rw [← t1] at z2
      rw [allFg_iff.mpr z2] at h3
      cases h3
    rintro ρ ⟨rfl, f1, f2, f3⟩
    obtain ⟨c, r, ec⟩ : ∃ c r, fg x = c :: r := by
      cases e : fg x with
      | nil => exact absurd e f1
      | cons c r => exact ⟨c, r, rfl⟩
    refine ⟨fun ρ => ρ = [.some (.str x), .some (.str x)] ∧ (c = 48 → tl x = [48]), ?_, ?_⟩
    · refine ⟨_, rfl, _, _, c, rfl, rfl, by decide, by decide, by rw [← tl_len, t1, ec, List.length_cons]; omega, cps_head (t1.trans ec), _, _, rfl, rfl, _, rfl, ?_⟩
      rw [one_nought]
      refine ifB (fun h => ?_) (fun h => ifF rfl ⟨rfl, fun z => absurd z (of_decide_eq_false h)⟩)
      refine ⟨_, rfl, _, _, rfl, rfl, _, rfl, ?_⟩
      rw [is_nought]
      refine ifB (fun h2 => rz _ (hR (wv_none fun z => ?_))) (fun h2 => ⟨rfl, fun _ => of_decide_eq_true (of_nF h2)⟩)
      have z3 := ((numl_iff rfl).mp z.1).2.2 (by rw [ec, of_decide_eq_true h]; rfl)
      rw [decide_eq_true z3] at h2
      cases h2
    rintro ρ ⟨rfl, hc⟩
    have hn : Numl (tl x) := (numl_iff rfl).mpr ⟨f1, f3, fun z => hc (by rw [ec] at z; exact Option.some.inj z)⟩
    exact ⟨_, rfl, x, rfl, hn, by show (tl x).length ≤ 640; rw [hxl]; have := hx60 f2; omega, q _ (wv_some hn f2)⟩
abbrev s_number_read : Stmt := top 12
theorem sc_number_read : FnScope ["text", "parts"] ["text"] (defScope s_number_read) := by walk_at "sc"
theorem ok_number_read (T : Txt K mg A) (G_whole_read : DOkX P w K mg base 2 "whole_read" (S_wread A)) (F : Fun K "number_read" "number_read" s_number_read f fd) : FnOk P w K mg base (CX1 P w) 3 f fd ["text"] (PureSpX K (S_nread A)) := by
  refine okDX F sc_number_read (by walk_at "ln") fun _ _ _ _ _ _ hr ds Q R h rz => ?_
  obtain ⟨x, rfl, hx, hl, q, hR⟩ := h
  refine ⟨_, (dss_cons (ds_set (i := 1) sc_number_read.nd rfl (Or.inl rfl) (DF.de (df_split (dv 0) de_str)))
  (dss_cons (ds_if (dt_cmp (o_eq hr) (de_len rfl T.len (dv 1)) de_int (nomark _)) (dss_one (ds_ret (de_callX G_whole_read (hr.mono (by decide)) rfl (da_cons (dv 0) da_nil)))) dss_nil)
  (dss_cons (ds_if (dt_cmp (o_gt) (de_len rfl T.len (dv 1)) de_int (nomark _)) (dss_one (ds_raise rfl rfl T.gc_NoText T.ex_NoText de_str)) dss_nil)
  (dss_one (ds_ret (de_tup (da_cons (de_callX G_whole_read (hr.mono (by decide)) rfl (da_cons (de_ix (dv 1) de_int (fun _ _ => rfl)) da_nil)) (da_cons (de_callX G_whole_read (hr.mono (by decide)) rfl (da_cons (de_ix (dv 1) de_int (fun _ _ => rfl)) da_nil)) da_nil)))))))), ?_⟩
  refine ⟨_, rfl, x, rfl, by omega, _, rfl, rfl, ?_⟩
  have hne := split_ne x ","
  have hm := fun p => split_mem (x := x) (y := ",") (p := p)
  have ho := fun p => split_one (x := x) (y := ",") (p := p)
  unfold nv at q hR
  generalize Txt.split x "," = ps at *
  match ps, hne, hm, ho, q, hR with
  | [], hne, _, _, _, _ => exact absurd rfl hne
  | [p], _, _, ho, q, hR =>
    obtain rfl := ho p rfl
    refine ⟨_, rfl, _, rfl, rfl, rfl, _, rfl, ifT rfl ⟨_, rfl, p, rfl, hx, hl, fun i e => ?_, fun e => rz _ (hR ?_)⟩⟩
    · exact q (.i i) (by show (wv p).map Nm.i = _; rw [e]; rfl)
    · show (wv p).map Nm.i = none
      rw [e]; rfl
  | [p, p'], _, hm, _, q, hR =>
    obtain ⟨m1, m2⟩ := hm p List.mem_cons_self
    obtain ⟨n1, n2⟩ := hm p' (List.mem_cons_of_mem _ List.mem_cons_self)
    refine ⟨_, rfl, _, rfl, rfl, rfl, _, rfl, ifF rfl ⟨_, rfl, _, rfl, _, _, rfl, rfl, _, rfl, ifF rfl ?_⟩⟩
    refine ⟨_, rfl, _, _, _, rfl, rfl, rfl, p, rfl, fun c hc => hx c (m2 c hc), by omega, fun i e => ?_, fun e => rz _ (hR ?_)⟩
    · refine ⟨_, rfl, _, _, _, rfl, rfl, rfl, p', rfl, fun c hc => hx c (n2 c hc), by omega, fun i' e' => ⟨rfl, q (.p i i') ?_⟩, fun e' => rz _ (hR ?_)⟩
      · show (match wv p, wv p' with | some a, some b => some (Nm.p a b) | _, _ => none) = _
        rw [e, e']
      · show (match wv p, wv p' with | some a, some b => some (Nm.p a b) | _, _ => none) = _
        rw [e, e']
    · show (match wv p, wv p' with | some a, some b => some (Nm.p a b) | _, _ => none) = _
      rw [e]
  | p :: p' :: p'' :: l, _, _, _, _, hR =>
    refine ⟨_, rfl, _, rfl, rfl, rfl, _, rfl, ifF (neI (by rw [List.length_map]; simp; omega)) ⟨_, rfl, _, rfl, _, _, rfl, rfl, _, rfl, ifT (decide_eq_true (by rw [List.length_map]; simp; omega)) (rz _ (hR rfl))⟩⟩
abbrev s_law_whole_of : Stmt := top 17
theorem sc_law_whole_of : FnScope ["_law_text_here", "_law_figures", "_law_sign"] ["_law_text_here"] (defScope s_law_whole_of) := by walk_at "sc"
theorem ok_law_whole_of (T : Txt K mg A) (F : Fun K "_law_whole_of" "_law_whole_of" s_law_whole_of f fd) : FnOk P w K mg base CX0 1 f fd ["_law_text_here"] (PureSp K (S_lwhole)) := by
  refine okD F sc_law_whole_of (by walk_at "ln") fun _ _ _ _ _ _ hr ds Q h => ?_
  obtain ⟨x, rfl, hx, hl, q⟩ := h
  refine ⟨_, (dss_cons (ds_set (i := 1) sc_law_whole_of.nd rfl (Or.inl rfl) (dv 0))
  (dss_join (ds_if (dt_cmp (o_eqS) (de_sliceT (dv 0) do_none (do_some de_int)) de_str (nomark _)) (dss_one (ds_set (i := 1) sc_law_whole_of.nd rfl (Or.inl rfl) (de_sliceT (dv 0) (do_some de_int) do_none))) dss_nil)
  (dss_cons (ds_if (dt_not (dt_chain (o_le) (o_le) de_int (de_lenS rfl T.len (dv 1)) de_int)) (dss_one (ds_ret de_non)) dss_nil)
  (dss_cons (ds_forT (j := 2) rfl sc_law_whole_of.nd rfl (Or.inl rfl) PassesOwn.never (dv 1) (dss_one (ds_if (dt_cmp o_notinT (dv 2) de_str (by with_unfolding_all rfl)) (dss_one (ds_ret de_non)) dss_nil)))
  (dss_join (ds_if (DW.dt (dw_and (dt_cmp (o_eqS) (de_itS (dv 1) de_int) de_str (nomark _)) (dw_and1 (dt_cmp (o_neS) (dv 0) de_str (nomark _))))) (dss_one (ds_ret de_non)) dss_nil)
  (dss_one (ds_ret (de_intS rfl T.n_int (dv 0))))))))), ?_⟩
  have hxl := tl_len x
  have q0 : ¬ (Numl (tl x) ∧ (fg x).length ≤ 60) → Q .non := fun z => by rw [wv_none z] at q; exact q
  refine ⟨_, rfl, fun ρ => ∃ f, ρ = [.some (.str x), .some (.str f), .none] ∧ tl f = fg x ∧ asc f ∧ f.length ≤ 5000, ?_, ?_⟩
  · refine ⟨_, rfl, _, rfl, _, rfl, by omega, _, _, rfl, rfl, _, rfl, ?_⟩
    rw [slice1_dash]
    refine ifB (fun h => ?_) (fun h => ⟨x, rfl, by unfold fg; rw [if_neg (of_decide_eq_false h)], hx, hl⟩)
    have h := of_decide_eq_true h
    have h1 : 1 ≤ (tl x).length := by
      cases e : tl x with
      | nil => rw [e] at h; cases h
      | cons c r => rw [List.length_cons]; omega
    have sl := slice_len x (some 1) none
    exact ⟨_, rfl, _, rfl, _, rfl, by omega, _, rfl, by rw [slice_from (by decide) (by omega)]; unfold fg; rw [if_pos h]; rfl, asc_slice hx, by omega⟩
  rintro ρ ⟨f, rfl, t1, a1, l1⟩
  have hfl := tl_len f
  refine ⟨_, rfl, _, rfl, by omega, _, _, rfl, rfl, _, rfl, ifB (fun h1 => ?_) (fun h1 => ⟨_, rfl, ifT rfl (q0 fun z => ((numl_iff rfl).mp z.1).1 ?_)⟩)⟩
  rotate_left
  · have h1 : ¬ (1 : Int) ≤ (f.length : Int) := of_decide_eq_false h1
    rw [← t1]
    exact List.length_eq_zero_iff.mp (by omega)
  have h1 : (1 : Int) ≤ (f.length : Int) := of_decide_eq_true h1
  refine ⟨_, _, rfl, rfl, _, rfl, ifB (fun h2 => q0 fun z => ?_) (fun h2 => ?_)⟩
  · have h2 := of_decide_eq_false (of_nT h2)
    have := z.2
    rw [← t1] at this
    omega
  have h2 := of_decide_eq_true (of_nF h2)
  refine ⟨_, rfl, f, fun i ρ => ∃ v, ρ = [.some (.str x), .some (.str f), v] ∧ ∀ c ∈ (tl f).take i, figB c = true, rfl, asc_all a1, ⟨_, rfl, fun c hc => by cases hc⟩, ?_, ?_⟩
  · rintro i c ρ' hc ⟨v, rfl, hb⟩
    have hc' : (tl f)[i]? = some c := by unfold tl; rw [Array.getElem?_toList]; exact hc
    refine ⟨_, rfl, _, _, rfl, rfl, _, rfl, ?_⟩
    rw [occ_fig]
    refine ifB (fun h => q0 fun z => ?_) (fun h => ⟨_, rfl, fun c' hc2 => ?_⟩)
    · have := ((numl_iff rfl).mp z.1).2.1 c (by rw [← t1]; exact List.mem_of_getElem? hc')
      have := figB_iff.mpr this
      unfold figB at this
      rw [this] at h; cases h
    · rw [List.take_succ, hc'] at hc2
      rcases List.mem_append.mp hc2 with h2 | h2
      · exact hb c' h2
      · rw [List.mem_singleton.mp h2]
        exact of_nF h
  rintro ρ' ⟨v, rfl, hb⟩
  have f3 : ∀ c ∈ fg x, isDg c := fun c hc => figB_iff.mp (hb c (by
    rw [List.take_of_length_le (by unfold tl; simp), t1]; exact hc))
  obtain ⟨c, r, ec⟩ : ∃ c r, fg x = c :: r := by
    cases e : fg x with
    | nil => rw [e] at t1; rw [t1] at hfl; simp at hfl; omega
    | cons c r => exact ⟨c, r, rfl⟩
  have f1 : fg x ≠ [] := by rw [ec]; exact fun z => nomatch z
  have f2 : (fg x).length ≤ 60 := by rw [← t1]; omega
  refine ⟨fun ρ => ρ = [.some (.str x), .some (.str f), v] ∧ (c = 48 → tl x = [48]), ?_, ?_⟩
  · refine ⟨_, rfl, _, _, c, rfl, rfl, by decide, by decide, by omega, cps_head (t1.trans ec), _, _, rfl, rfl, _, rfl, ?_⟩
    rw [one_nought]
    refine ifB (fun h => ?_) (fun h => ifF rfl ⟨rfl, fun z => absurd z (of_decide_eq_false h)⟩)
    refine ⟨_, rfl, _, _, rfl, rfl, _, rfl, ?_⟩
    rw [is_nought]
    refine ifB (fun h2 => q0 fun z => ?_) (fun h2 => ⟨rfl, fun _ => of_decide_eq_true (of_nF h2)⟩)
    have z3 := ((numl_iff rfl).mp z.1).2.2 (by rw [ec, of_decide_eq_true h]; rfl)
    rw [decide_eq_true z3] at h2
    cases h2
  rintro ρ ⟨rfl, hc⟩
  have hn : Numl (tl x) := (numl_iff rfl).mpr ⟨f1, f3, fun z => hc (by rw [ec] at z; exact Option.some.inj z)⟩
  refine ⟨_, rfl, x, rfl, hn, ?_, ?_⟩
  · show (tl x).length ≤ 640
    rcases fg_of (x := x) rfl with ⟨e, _⟩ | e
    · rw [e]; omega
    · rw [e, List.length_cons]; omega
  · rw [wv_some hn f2] at q; exact q
abbrev s_law_number_of : Stmt := top 18
theorem sc_law_number_of : FnScope ["_law_text_here", "_law_parts"] ["_law_text_here"] (defScope s_law_number_of) := by walk_at "sc"
theorem ok_law_number_of (T : Txt K mg A) (G__law_whole_of : DOk P w K mg base 1 "_law_whole_of" (S_lwhole)) (F : Fun K "_law_number_of" "_law_number_of" s_law_number_of f fd) : FnOk P w K mg base CX0 2 f fd ["_law_text_here"] (PureSp K (S_lnum)) := by
  refine okD F sc_law_number_of (by walk_at "ln") fun _ _ _ _ _ _ hr ds Q h => ?_
  obtain ⟨x, rfl, hx, hl, q⟩ := h
  refine ⟨_, (dss_cons (cgP_P (ds_setCompGP (i := 1) (L := 0) (osc := defScope s_law_number_of) (N0 := ["_law_text_here", "_law_parts"]) (bs := ["_law_part"]) (caps := []) (js := []) rfl (by decide +kernel) rfl rfl rfl sc_law_number_of.nd rfl (Or.inl rfl) (di_list (DF.de (df_split (dv 0) de_str))) (fun _ _ _ _ _ => (pg_name (i := 0) (show List.Nodup [("_law_part" : Str)] by decide +kernel) rfl (Or.inl (lookup_relabel_local rfl)) (.inl rfl))) lig_one (fun _ _ _ _ _ => dc_nil) (fun _ _ _ _ _ => (de_call G__law_whole_of (hr.mono (by decide)) rfl (da_cons (dv 0) da_nil)))))
  (dss_join (ds_if (DW.dt (dw_or (dt_cmp o_inN de_non (dv 1) (by with_unfolding_all rfl)) (dw_or1 (dt_cmp (o_gt) (de_len rfl T.len (dv 1)) de_int (nomark _))))) (dss_one (ds_ret de_non)) dss_nil)
  (dss_cons (ds_if (dt_cmp (o_eq hr) (de_len rfl T.len (dv 1)) de_int (nomark _)) (dss_one (ds_ret (de_tup (da_cons (de_ix (dv 1) de_int (fun _ _ => rfl)) (da_cons (de_ix (dv 1) de_int (fun _ _ => rfl)) da_nil))))) dss_nil)
  (dss_one (ds_ret (de_ix (dv 1) de_int (fun _ _ => rfl))))))), ?_⟩
  refine ⟨_, rfl, x, rfl, by omega, _, rfl, rfl, ?_⟩
  have hne := split_ne x ","
  have hm := fun p => split_mem (x := x) (y := ",") (p := p)
  have ho := fun p => split_one (x := x) (y := ",") (p := p)
  have hlen := split_len x ","
  unfold nv at q
  generalize Txt.split x "," = ps at *
  have lps : (ps.map Dt.str).length = ps.length := List.length_map _
  refine ⟨_, fun i es => es = ((ps.take i).map wv).map optI, rfl, by rw [lps]; omega, rfl, ?_, ?_⟩
  · rintro i e es he rfl
    rw [List.getElem?_map] at he
    obtain ⟨p, hp, rfl⟩ := Option.map_eq_some_iff.mp he
    obtain ⟨m1, m2⟩ := hm p (List.mem_of_getElem? hp)
    refine ⟨_, rfl, p, rfl, fun c hc => hx c (m2 c hc), by omega, ?_⟩
    show List.map optI (List.map wv (List.take i ps)) ++ [_] = List.map optI (List.map wv (List.take (i + 1) ps))
    rw [List.take_succ, hp, List.map_append, List.map_append]
    rfl
  rintro es rfl
  rw [lps, List.take_length]
  have lo : ((ps.map wv).map optI).length = ps.length := by rw [List.length_map, List.length_map]
  match ps, hne, ho, q, lo with
  | [], hne, _, _, _ => exact absurd rfl hne
  | [p], _, _, q, _ =>
    have q : Q (optN ((wv p).map Nm.i)) := q
    refine ⟨fun ρ => ∃ i, wv p = some i ∧ ρ = [.some (.str x), .some (.lst [.int i])], ?_, ?_⟩
    · refine ⟨_, rfl, _, [wv p], rfl, rfl, rfl, _, rfl, ?_⟩
      cases e : wv p with
      | none => rw [e] at q; exact ifT rfl (ifT rfl q)
      | some i => exact ifF rfl ⟨_, rfl, _, rfl, _, _, rfl, rfl, _, rfl, ifF rfl ⟨i, rfl, by show [Sl.some (Dt.str x), Sl.some (Dt.lst [optI (wv p)])] = _; rw [e]; rfl⟩⟩
    · rintro ρ ⟨i, e, rfl⟩
      rw [e] at q
      exact ⟨_, rfl, _, rfl, rfl, rfl, _, rfl, ifF rfl ⟨_, rfl, _, _, _, rfl, rfl, rfl, q⟩⟩
  | [p, p'], _, _, q, _ =>
    have q : Q (optN (match wv p, wv p' with | some a, some b => some (Nm.p a b) | _, _ => none)) := q
    refine ⟨fun ρ => ∃ i i', wv p = some i ∧ wv p' = some i' ∧ ρ = [.some (.str x), .some (.lst [.int i, .int i'])], ?_, ?_⟩
    · refine ⟨_, rfl, _, [wv p, wv p'], rfl, rfl, rfl, _, rfl, ?_⟩
      cases e : wv p with
      | none => rw [e] at q; exact ifT rfl (ifT rfl q)
      | some i =>
        cases e' : wv p' with
        | none => rw [e, e'] at q; exact ifT rfl (ifT rfl q)
        | some i' => exact ifF rfl ⟨_, rfl, _, rfl, _, _, rfl, rfl, _, rfl, ifF rfl ⟨i, i', rfl, rfl, by show [Sl.some (Dt.str x), Sl.some (Dt.lst [optI (wv p), optI (wv p')])] = _; rw [e, e']; rfl⟩⟩
    · rintro ρ ⟨i, i', e, e', rfl⟩
      rw [e, e'] at q
      exact ⟨_, rfl, _, rfl, rfl, rfl, _, rfl, ifT rfl ⟨_, rfl, _, _, _, rfl, rfl, rfl, _, rfl, _, _, _, rfl, rfl, rfl, rfl, q⟩⟩
  | p :: p' :: p'' :: l, _, _, q, lo =>
    refine ⟨fun _ => False, ?_, fun _ h => h.elim⟩
    refine ⟨_, rfl, _, (p :: p' :: p'' :: l).map wv, rfl, rfl, rfl, _, rfl, ifB (fun _ => ifT rfl q) (fun _ => ?_)⟩
    exact ⟨_, rfl, _, rfl, _, _, rfl, rfl, _, rfl, ifT (decide_eq_true (by rw [lo]; simp; omega)) q⟩
abbrev s_law_whole : Stmt := top 15
theorem sc_law_whole : FnScope ["_law_found"] ["_law_found"] (defScope s_law_whole) := by walk_at "sc"
theorem ok_law_whole (T : Txt K mg A) (F : Fun K "_law_whole" "_law_whole" s_law_whole f fd) : FnOk P w K mg base CX0 1 f fd ["_law_found"] (PureSp K (S_wholeB)) := by
  refine okD F sc_law_whole (by walk_at "ln") fun _ _ _ _ _ _ hr ds Q h => ?_
  obtain ⟨i, rfl, q⟩ := h
  refine ⟨_, (dss_one (ds_ret (de_and (de_isi (T := .int) T.kt T.isinstance T.n_int PyProof.Rows.boot_int (dv 0)) (de_one (de_not (de_isi (T := .bool) T.kt T.isinstance T.n_bool PyProof.Rows.boot_bool (dv 0))))))), ?_⟩
  walk_at "rd"
  exact q
abbrev s_law_alike : Stmt := top 16
theorem sc_law_alike : FnScope ["_law_found", "_law_due"] ["_law_found", "_law_due"] (defScope s_law_alike) := by walk_at "sc"
theorem ok_law_alike (T : Txt K mg A) (G__law_whole : DOk P w K mg base 1 "_law_whole" (S_wholeB)) (F : Fun K "_law_alike" "_law_alike" s_law_alike f fd) : FnOk P w K mg base CX0 2 f fd ["_law_found", "_law_due"] (PureSp K (S_alike)) := by
  refine okD F sc_law_alike (by walk_at "ln") fun _ _ _ _ _ _ hr ds Q h => ?_
  obtain ⟨m, rfl, q⟩ := h
  refine ⟨_, (dss_cons (ds_if (dt_val (de_isi (T := .tuple) T.kt T.isinstance T.n_tuple PyProof.Rows.boot_tuple (dv 1))) (dss_join (ds_if (DW.dt (dw_or (dt_not (dt_val (de_isi (T := .tuple) T.kt T.isinstance T.n_tuple PyProof.Rows.boot_tuple (dv 0)))) (dw_or1 (dt_cmp (o_ne hr) (de_len rfl T.len (dv 0)) de_int (nomark _))))) (dss_one (ds_ret de_bl)) dss_nil)
  (dss_one (ds_ret (de_and (de_call G__law_whole (hr.mono (by decide)) rfl (da_cons (de_ix (dv 0) de_int (fun _ _ => rfl)) da_nil)) (de_and (de_call G__law_whole (hr.mono (by decide)) rfl (da_cons (de_ix (dv 0) de_int (fun _ _ => rfl)) da_nil)) (de_one (de_cmp (o_eq hr) (dv 0) (dv 1) (nomark _)))))))) dss_nil)
  (dss_one (ds_ret (de_and (de_call G__law_whole (hr.mono (by decide)) rfl (da_cons (dv 0) da_nil)) (de_one (de_cmp (o_eq hr) (dv 0) (dv 1) (nomark _))))))), ?_⟩
  cases m with
  | i a =>
    walk_at "rd"
    exact (eqI (a := a) rfl).symm ▸ q
  | p a b =>
    have ok : okE 40 (Nm.p a b).dt = true := rfl
    walk_at "rd"
    refine ⟨fun ρ => ρ = [.some (Nm.p a b).dt, .some (Nm.p a b).dt], ?_, ?_⟩
    · walk_at "rd"
      rfl
    rintro ρ rfl
    refine ⟨_, rfl, _, _, _, rfl, rfl, rfl, a, rfl, _, rfl, ifT rfl ⟨_, rfl, _, _, _, rfl, rfl, rfl, b, rfl, _, rfl, ifT rfl ⟨_, rfl, _, rfl, ok, ok, ?_⟩⟩⟩
    exact (eqD_self 40 ok).symm ▸ q
abbrev s_law_read : Stmt := top 20
theorem sc_law_read : FnScope ["_law_text_here", "_law_found", "_law_refused", "_law_due"] ["_law_text_here"] (defScope s_law_read) := by walk_at "sc"
theorem ok_law_read (T : Txt K mg A) (G_number_read : DOkX P w K mg base 3 "number_read" (S_nread A)) (G__law_number_of : DOk P w K mg base 2 "_law_number_of" (S_lnum)) (G__law_alike : DOk P w K mg base 2 "_law_alike" (S_alike)) (F : Fun K "_law_read" "_law_read" s_law_read f fd) : FnOk P w K mg base CX0 4 f fd ["_law_text_here"] (PureSp K (S_lread)) := by
  refine okD F sc_law_read (by walk_at "ln") fun _ _ _ _ _ _ hr ds Q h => ?_
  obtain ⟨x, rfl, hx, hl, q⟩ := h
  refine ⟨_, (dss_cons (ds_set (i := 1) sc_law_read.nd rfl (Or.inl rfl) de_non)
  (dss_cons (ds_set (i := 2) sc_law_read.nd rfl (Or.inl rfl) de_bl)
  (dss_cons (ds_trySet (i := 1) (m2 := "") rfl rfl sc_law_read.nd rfl (Or.inl rfl) G_number_read (hr.mono (by decide)) rfl (da_cons (dv 0) da_nil) (fun _ => (dss_one (ds_set (i := 2) sc_law_read.nd rfl (Or.inl rfl) de_bl))) rfl T.gc_NoText)
  (dss_cons (ds_set (i := 3) sc_law_read.nd rfl (Or.inl rfl) (de_call G__law_number_of (hr.mono (by decide)) rfl (da_cons (dv 0) da_nil)))
  (dss_cons (ds_if (dt_isN (dv 3)) (dss_one (ds_ret (dv 2))) dss_nil)
  (dss_one (ds_ret (de_and (de_not (dv 2)) (de_one (de_call G__law_alike (hr.mono (by decide)) rfl (da_cons (dv 1) (da_cons (dv 3) da_nil)))))))))))), ?_⟩
  refine ⟨_, rfl, x, rfl, hx, hl, fun m e => ?_, fun e => ⟨T.em_NoText_NoText, ?_⟩⟩
  · refine ⟨_, rfl, x, rfl, hx, hl, ?_⟩
    rw [e]
    refine ⟨_, rfl, _, rfl, ifF (by cases m <;> rfl) ?_⟩
    exact ⟨_, rfl, _, rfl, _, rfl, ifT rfl ⟨_, rfl, _, rfl, m, rfl, q⟩⟩
  · refine ⟨_, rfl, x, rfl, hx, hl, ?_⟩
    rw [e]
    exact ⟨_, rfl, _, rfl, ifT rfl ⟨_, rfl, q⟩⟩
abbrev s_law_spoilt : Stmt := top 23
theorem sc_law_spoilt : FnScope ["_law_text_here", "_law_cell", "_law_signs", "_law_sign", "_law_at", "_law_way"] ["_law_text_here", "_law_cell"] (defScope s_law_spoilt) := by walk_at "sc"
theorem ok_law_spoilt (T : Txt K mg A) (F : Fun K "_law_spoilt" "_law_spoilt" s_law_spoilt f fd) : FnOk P w K mg base CX0 1 f fd ["_law_text_here", "_law_cell"] (PureSp K (S_spoT)) := by
  refine okD F sc_law_spoilt (by walk_at "ln") fun _ _ _ _ _ _ hr ds Q h => ?_
  obtain ⟨x, z, rfl, hx, hl, q⟩ := h
  refine ⟨_, (dss_cons (ds_set (i := 2) sc_law_spoilt.nd rfl (Or.inl rfl) de_str)
  (dss_cons (ds_set (i := 3) sc_law_spoilt.nd rfl (Or.inl rfl) (de_itS (dv 2) (de_op o_mod (dv 1) de_int)))
  (dss_cons (ds_set (i := 4) sc_law_spoilt.nd rfl (Or.inl rfl) (de_op o_mod (de_op o_fdiv (dv 1) de_int) (de_op o_add (de_lenS rfl T.len (dv 0)) de_int)))
  (dss_cons (ds_set (i := 5) sc_law_spoilt.nd rfl (Or.inl rfl) (de_op o_mod (de_op o_fdiv (dv 1) de_int) de_int))
  (dss_cons (ds_if (dt_cmp (o_eq hr) (dv 5) de_int (nomark _)) (dss_one (ds_ret (de_op o_catS (de_op o_catS (de_sliceT (dv 0) do_none (do_some (dv 4))) (dv 3)) (de_sliceT (dv 0) (do_some (dv 4)) do_none)))) dss_nil)
  (dss_cons (ds_if (dt_cmp (o_eq hr) (dv 5) de_int (nomark _)) (dss_one (ds_ret (de_op o_catS (de_sliceT (dv 0) do_none (do_some (dv 4))) (de_sliceT (dv 0) (do_some (de_op o_add (dv 4) de_int)) do_none)))) dss_nil)
  (dss_one (ds_ret (de_op o_catS (de_op o_catS (de_sliceT (dv 0) do_none (do_some (dv 4))) (dv 3)) (de_sliceT (dv 0) (do_some (de_op o_add (dv 4) de_int)) do_none)))))))))), ?_⟩
  obtain ⟨c, ec, hc⟩ := sign_at z
  have s0 := Int.fmod_nonneg_of_pos z (show (0 : Int) < 10 by decide)
  have s1 := Int.fmod_lt_of_pos z (show (0 : Int) < 10 by decide)
  have hs : asc ⟨#[c]⟩ := fun d hd => by rw [List.mem_singleton.mp (show d ∈ [c] from hd)]; exact hc
  have l0 : (⟨#[c]⟩ : Str).length = 1 := rfl
  refine ⟨_, rfl, _, rfl, _, _, rfl, rfl, cmodN (by decide), _, _, c, rfl, rfl, s0, by omega, by rw [sign_len]; exact s1, ec, ?_⟩
  refine ⟨_, rfl, _, _, rfl, rfl, cdivN (by decide), _, rfl, _, rfl, by omega, _, _, rfl, rfl, _, _, rfl, rfl, (by show (x.length : Int) + 1 ≠ 0; omega), ?_⟩
  dsimp only
  generalize (z.fdiv 10).fmod ((x.length : Int) + 1) = a
  walk_at "rd"
  have la := slice_len x none (some a)
  have lb := slice_len x (some a) none
  have lc := slice_len x (some (a + 1)) none
  have aa := asc_slice (l := none) (u := some a) hx
  have ab := asc_slice (l := some a) (u := none) hx
  have ac := asc_slice (l := some (a + 1)) (u := none) hx
  have le : ∀ u v : Str, (u ++ v).length = u.length + v.length := fun u v => by rw [← tl_len, tl_app, List.length_append, tl_len, tl_len]
  refine ifB (fun _ => ?_) (fun _ => ?_)
  · refine ⟨_, rfl, _, rfl, _, rfl, _, rfl, by omega, _, rfl, _, _, rfl, rfl, by rw [l0]; omega, _, rfl, _, rfl, _, rfl, _, rfl, by omega, _, _, rfl, rfl, by rw [le, l0]; omega, ?_⟩
    exact q _ (asc_app (asc_app aa hs) ab) (by rw [le, le, l0]; omega)
  refine ⟨_, rfl, rfl, rfl, _, rfl, ifB (fun _ => ?_) (fun _ => ?_)⟩
  · refine ⟨_, rfl, _, rfl, _, rfl, _, rfl, by omega, _, rfl, _, rfl, _, _, rfl, rfl, _, rfl, _, rfl, by omega, _, _, rfl, rfl, by omega, ?_⟩
    exact q _ (asc_app aa ac) (by rw [le]; omega)
  · refine ⟨_, rfl, _, rfl, _, rfl, _, rfl, by omega, _, rfl, _, _, rfl, rfl, by rw [l0]; omega, _, rfl, _, rfl, _, _, rfl, rfl, _, rfl, _, rfl, by omega, _, _, rfl, rfl, by rw [le, l0]; omega, ?_⟩
    exact q _ (asc_app (asc_app aa hs) ac) (by rw [le, le, l0]; omega)
abbrev s_law_cell_at : Stmt := top 14
theorem sc_law_cell_at : FnScope ["_law_script", "_law_k"] ["_law_script", "_law_k"] (defScope s_law_cell_at) := by walk_at "sc"
theorem ok_law_cell_at (T : Txt K mg A) (F : Fun K "_law_cell_at" "_law_cell_at" s_law_cell_at f fd) : FnOk P w K mg base CX0 1 f fd ["_law_script", "_law_k"] (PureSp K (S_cell)) := by
  refine okD F sc_law_cell_at (by walk_at "ln") fun _ _ _ _ _ _ hr ds Q h => ?_
  obtain ⟨ns, k, rfl, hk, q⟩ := h
  refine ⟨_, (dss_cons (ds_if (dt_cmp (o_lt) (dv 1) (de_len rfl T.len (dv 0)) (nomark _)) (dss_one (ds_ret (de_ix (dv 0) (dv 1) (fun _ _ => rfl)))) dss_nil)
  (dss_one (ds_ret de_int))), ?_⟩
  walk_at "rd"
  refine ite2 (fun hlt => ?_) (fun _ => q 0)
  have hlt : k < (ns.map Dt.int).length := of_decide_eq_true hlt
  rw [List.length_map] at hlt
  exact ⟨_, rfl, _, rfl, _, _, _, rfl, rfl, atI_row hk hlt, q _⟩
abbrev s_law : Stmt := top 25
theorem sc_law : FnScope ["_law_script", "_law_cell", "_law_number_here", "_law_text_here", "_law_nines"] ["_law_script"] (defScope s_law) := by walk_at "sc"
theorem ok_law (T : Txt K mg A) (G__law_long_shown : DOk P w K mg base 4 "_law_long_shown" (S_long)) (G__law_number : DOk P w K mg base 2 "_law_number" (S_lnumber)) (G_number_shown : DOk P w K mg base 3 "number_shown" (S_nshown)) (G__law_text : DOk P w K mg base 1 "_law_text" (S_nshown)) (G__law_read : DOk P w K mg base 4 "_law_read" (S_lread)) (G__law_spoilt : DOk P w K mg base 1 "_law_spoilt" (S_spoT)) (G__law_cell_at : DOk P w K mg base 1 "_law_cell_at" (S_cell)) (F : Fun K "law" "law" s_law f fd) : FnOk P w K mg base CX0 5 f fd ["_law_script"] (PureSp K (S_law)) := by
  refine okD F sc_law (by walk_at "ln") fun _ _ _ _ _ _ hr ds Q h => ?_
  obtain ⟨ns, rfl, hns, q⟩ := h
  refine ⟨_, (dss_cons (ds_for (j := 1) rfl sc_law.nd rfl (Or.inl rfl) PassesOwn.never (de_slice (dv 0) do_none (do_some de_int)) (dss_cons (ds_if (dt_not (dt_val (de_call G__law_long_shown (hr.mono (by decide)) rfl (da_cons (dv 1) da_nil)))) (dss_one (ds_ret de_bl)) dss_nil)
  (dss_cons (ds_set (i := 2) sc_law.nd rfl (Or.inl rfl) (de_call G__law_number (hr.mono (by decide)) rfl (da_cons (dv 1) da_nil)))
  (dss_cons (ds_set (i := 3) sc_law.nd rfl (Or.inl rfl) (de_call G_number_shown (hr.mono (by decide)) rfl (da_cons (dv 2) da_nil)))
  (dss_join (ds_if (DW.dt (dw_or (dt_not (dt_val (de_isiS T.isinstance T.n_str (dv 3)))) (dw_or (dt_cmp (o_neS) (dv 3) (de_call G__law_text (hr.mono (by decide)) rfl (da_cons (dv 2) da_nil)) (nomark _)) (dw_or1 (dt_not (dt_val (de_call G__law_read (hr.mono (by decide)) rfl (da_cons (dv 3) da_nil)))))))) (dss_one (ds_ret de_bl)) dss_nil)
  (dss_one (ds_if (dt_not (dt_val (de_call G__law_read (hr.mono (by decide)) rfl (da_cons (de_call G__law_spoilt (hr.mono (by decide)) rfl (da_cons (dv 3) (da_cons (de_op o_mod (de_op o_mul (dv 1) de_int) de_int) da_nil))) da_nil)))) (dss_one (ds_ret de_bl)) dss_nil)))))))
  (dss_cons (ds_set (i := 4) sc_law.nd rfl (Or.inl rfl) (de_op o_mulT de_str (de_op o_add de_int (de_op o_mod (de_call G__law_cell_at (hr.mono (by decide)) rfl (da_cons (dv 0) (da_cons de_int da_nil))) de_int))))
  (dss_cons (ds_for (j := 3) rfl sc_law.nd rfl (Or.inl rfl) PassesOwn.never (de_lst (da_cons de_str (da_cons de_str (da_cons de_str (da_cons de_str (da_cons de_str (da_cons de_str (da_cons de_str (da_cons de_str (da_cons de_str (da_cons de_str (da_cons de_str (da_cons de_str (da_cons (dv 4) (da_cons (de_op o_catS de_str (dv 4)) da_nil))))))))))))))) (dss_one (ds_if (DW.dt (dw_or (dt_not (dt_val (de_call G__law_read (hr.mono (by decide)) rfl (da_cons (dv 3) da_nil)))) (dw_or1 (dt_not (dt_val (de_call G__law_read (hr.mono (by decide)) rfl (da_cons (de_op o_catS (de_op o_catS (dv 3) de_str) (dv 4)) da_nil))))))) (dss_one (ds_ret de_bl)) dss_nil)))
  (dss_one (ds_ret de_bl))))), ?_⟩
  obtain ⟨cs, ec, lc, _⟩ := cut_ints ns none (some 40)
  walk_at "rd"
  rw [ec]
  refine ⟨_, fun _ ρ => ∃ v1 v2 v3, ρ = [.some (.scr ns), v1, v2, v3, .none], rfl, ⟨_, _, _, rfl⟩, ?_, ?_⟩
  · rintro i e ρ' he ⟨v1, v2, v3, rfl⟩
    obtain ⟨rfl, hi⟩ := get_ints he
    generalize cs.getD i 0 = z
    refine ⟨_, rfl, z, rfl, _, rfl, ifF rfl ?_⟩
    refine ⟨_, rfl, z, rfl, fun m m1 m2 => ?_⟩
    have k : ∀ n : Nat, n < 10 ^ 60 → n < 2 ^ 1800 := fun n h => Nat.lt_trans h (Nat.lt_of_lt_of_le (show 10 ^ 60 < 2 ^ 200 by decide) (Nat.pow_le_pow_right (by decide) (by decide)))
    refine ⟨_, rfl, m, rfl, k _ m1, k _ m2, ?_⟩
    have as : asc (shwN m) ∧ (shwN m).length ≤ 1000 := by
      cases m with
      | i a => exact ⟨shw_asc a, Nat.le_trans (shw_len (k := 60) a (by decide) m1) (by decide)⟩
      | p a b =>
        have l1 := shw_len (k := 60) a (by decide) m1
        have l2 := shw_len (k := 60) b (by decide) m2
        refine ⟨asc_app (asc_app (shw_asc a) (by intro c hc; revert c; decide +kernel)) (shw_asc b), ?_⟩
        show (shw a ++ ("," : Str) ++ shw b).length ≤ 1000
        rw [← tl_len, tl_app, tl_app, List.length_append, List.length_append, tl_len, tl_len, tl_len, len_comma]
        omega
    refine ⟨fun ρ => ρ = [.some (.scr ns), .some (.int z), .some m.dt, .some (.str (shwN m)), .none], ?_, ?_⟩
    · refine ⟨_, rfl, _, rfl, _, rfl, ifF rfl ?_⟩
      refine ⟨_, rfl, _, rfl, m, rfl, k _ m1, k _ m2, _, _, rfl, rfl, _, rfl, ifF (nT (beq_self_eq_true _)) ?_⟩
      exact ⟨_, rfl, _, rfl, as.1, by omega, _, rfl, ifF rfl rfl⟩
    rintro ρ rfl
    refine ⟨_, rfl, _, rfl, _, _, rfl, rfl, mulR (by decide), _, _, rfl, rfl, cmodN (by decide), _, _, rfl, as.1, as.2, fun y a1 l1 => ?_⟩
    exact ⟨_, rfl, a1, l1, _, rfl, ifF rfl ⟨_, _, _, rfl⟩⟩
  rintro ρ' ⟨v1, v2, v3, rfl⟩
  refine ⟨_, rfl, ns, _, rfl, by decide, fun z0 => ?_⟩
  have n0 := Int.fmod_nonneg_of_pos z0 (show (0 : Int) < 2 by decide)
  have n1 := Int.fmod_lt_of_pos z0 (show (0 : Int) < 2 by decide)
  obtain ⟨nn, hn, hnl, hna⟩ := nines_at z0
  refine ⟨_, _, rfl, rfl, cmodN (by decide), _, _, rfl, rfl, _, _, rfl, rfl, by decide +kernel, by decide +kernel, by omega, by omega, ?_⟩
  rw [hn]
  refine ⟨by omega, ?_⟩
  have ld : (("-" : Str)).length = 1 := by decide +kernel
  have le : ∀ u v : Str, (u ++ v).length = u.length + v.length := fun u v => by rw [← tl_len, tl_app, List.length_append, tl_len, tl_len]
  refine ⟨_, rfl, _, rfl, _, _, rfl, rfl, by rw [ld]; omega, rfl, ?_⟩
  refine ⟨_, fun _ ρ => ∃ v3, ρ = [.some (.scr ns), v1, v2, v3, .some (.str nn)], rfl, ⟨_, rfl⟩, ?_, ?_⟩
  · rintro i e ρ' he ⟨v3, rfl⟩
    obtain ⟨x, rfl, ax, lx⟩ : ∃ x, e = .str x ∧ asc x ∧ x.length ≤ 100 := by
      have hm : e ∈ lits.map Dt.str ++ [.str nn, .str (("-" : Str) ++ nn)] := List.mem_of_getElem? he
      rcases List.mem_append.mp hm with hm | hm
      · obtain ⟨x, hx, rfl⟩ := List.mem_map.mp hm
        have := lits_ok x hx
        exact ⟨x, rfl, fun c hc => of_decide_eq_true (List.all_eq_true.mp this.1 c hc), this.2⟩
      · rcases List.mem_cons.mp hm with rfl | hm
        · exact ⟨nn, rfl, hna, by omega⟩
        · rw [List.mem_singleton.mp hm]
          exact ⟨_, rfl, asc_app (by intro c hc; revert c; decide +kernel) hna, by rw [le, ld]; omega⟩
    refine ⟨_, rfl, x, rfl, ax, by omega, _, rfl, ifF rfl ?_⟩
    refine ⟨_, rfl, _, _, rfl, rfl, by rw [len_comma]; omega, _, rfl, _, _, rfl, rfl, by rw [le, len_comma]; omega, _, rfl, asc_app (asc_app ax (by intro c hc; revert c; decide +kernel)) hna, by rw [le, le, len_comma]; omega, _, rfl, ifF rfl ⟨_, rfl⟩⟩
  · rintro ρ' ⟨v3, rfl⟩
    exact q
end
def BA (n q : Str) (st : Stmt) (ps : List Str) (us : List Value) : Prop := ∀ (kV doc pm : Value) (an : Option Addr) (cdv ct : Value), bindArgs (PySem.W.fnOf n q (defArgs st) (defBody st) (defScope st) .none kV doc pm an cdv ct) ⟨us, []⟩ = pure (ps.zip us)
def BZ (n q : Str) (st : Stmt) (ps : List Str) : Prop := ∀ us : List Value, us.length = ps.length → BA n q st ps us
theorem bz1 {n q : Str} {st : Stmt} {ps : List Str} (hl : ps.length = 1) (h : ∀ u0 : Value, BA n q st ps [u0]) : BZ n q st ps := fun us e => match us, e.trans hl with | [_], _ => h _
theorem bz2 {n q : Str} {st : Stmt} {ps : List Str} (hl : ps.length = 2) (h : ∀ u0 u1 : Value, BA n q st ps [u0, u1]) : BZ n q st ps := fun us e => match us, e.trans hl with | [_, _], _ => h _ _
section
variable (K : PySem.W.Frag)
def FX (n q : Str) (st : Stmt) (f : Addr) : Prop := ∃ oc od kV dc pm an cd ct sl, K.lookup f = some ⟨oc, od, .func (PySem.W.fnOf n q (defArgs st) (defBody st) (defScope st) .none kV dc pm an cd ct), sl⟩ ∧ PySem.W.codeIn K cd q = true ∧ PySem.W.keepIn K (.ref f) = true
def FD (n : Str) (st : Stmt) (f : Addr) : Prop := PySem.W.nsIn K mainGlobals n = some (some (.ref f)) ∧ FX K n n st f
def FM (n q : Str) (st : Stmt) (f : Addr) : Prop := PySem.W.isFn K (.ref f) = true ∧ FX K n q st f
def Fi (C : Addr) (n : Str) (f : Addr) : Prop := PySem.W.findIn K (.ref C) n = some (some (.ref f))
def Ki (C D : Addr) (b : Bool) : Prop := PySem.W.kitOne K (.ref C) (.ref D) = some b
def Gc (n : Str) (C : Addr) : Prop := PySem.W.nsIn K mainGlobals n = some (some (.ref C))
def Gs (n y : Str) (t : Tok) : Prop := PySem.W.nsIn K mainGlobals n = some (some (.str y t))
def Zn (n : Str) : Prop := PySem.W.nsIn K mainGlobals n = some none
variable {K} {n q : Str} {st : Stmt} {f : Addr}
theorem FX.mk {oc od kV dc pm an cd ct sl} (l : K.lookup f = some ⟨oc, od, .func (PySem.W.fnOf n q (defArgs st) (defBody st) (defScope st) .none kV dc pm an cd ct), sl⟩) (c : PySem.W.codeIn K cd q = true) (k : PySem.W.keepIn K (.ref f) = true) : FX K n q st f := ⟨_, _, _, _, _, _, _, _, _, l, c, k⟩
theorem FX.get (r : FX K n q st f) (ps : List Str) (h : BZ n q st ps) : ∃ fd, Fun K n q st f fd ∧ Binds K fd ps [] :=
  let ⟨_, _, _, _, _, _, _, _, _, l, c, k⟩ := r; ⟨_, fun_mk l c k, (fun_mk l c k).binds fun a b c d e f us z => h us z a b c d e f⟩
theorem FD.get (r : FD K n st f) {h : Heap} {mg : Str → Option Value} (X : K.In h) (G : h.Ns mainGlobals mg) (ps : List Str) (h : BZ n n st ps) : ∃ fd, mg n = some (.ref f) ∧ Fun K n n st f fd ∧ Binds K fd ps [] :=
  let ⟨fd, F, b⟩ := r.2.get ps h; ⟨fd, PySem.W.mg_of X G r.1, F, b⟩
theorem FM.get (r : FM K n q st f) (ps : List Str) (h : BZ n q st ps) : ∃ fd, Fun K n q st f fd ∧ Binds K fd ps [] := r.2.get ps h
end

theorem all_mk {l : PySem.W.OpenLaw} {w : World} {K : PySem.W.Frag} {h : Heap} {mg : Str → Option Value} {fa : Addr} (X : K.In h) (G : h.Ns mainGlobals mg) (hfa : mg "law" = some (.ref fa))
 {C_NoText f1 f2 f3 f4 f5 f6 f7 f8 f9 f10 f11 f12 f13 f14 f15 f16 f17 f18 f19 : Addr} {t_FIGURES : Tok}
 (aC_NoText : Gc K "NoText" C_NoText)
 (r1 : FD K "is_whole" s_is_whole f1)
 (r2 : FD K "is_pair" s_is_pair f2)
 (r3 : FD K "whole_shown" s_whole_shown f3)
 (r4 : FD K "number_shown" s_number_shown f4)
 (r5 : FD K "_law_text" s_law_text f5)
 (r6 : FD K "_law_long_shown" s_law_long_shown f6)
 (r7 : FD K "_law_one" s_law_one f7)
 (r8 : FD K "_law_number" s_law_number f8)
 (r9 : FD K "has_figures_alone" s_has_figures_alone f9)
 (r10 : FD K "whole_read" s_whole_read f10)
 (r11 : FD K "number_read" s_number_read f11)
 (r12 : FD K "_law_whole_of" s_law_whole_of f12)
 (r13 : FD K "_law_number_of" s_law_number_of f13)
 (r14 : FD K "_law_whole" s_law_whole f14)
 (r15 : FD K "_law_alike" s_law_alike f15)
 (r16 : FD K "_law_read" s_law_read f16)
 (r17 : FD K "_law_spoilt" s_law_spoilt f17)
 (r18 : FD K "_law_cell_at" s_law_cell_at f18)
 (r19 : FD K "law" s_law f19)
 (ex_NoText : ExcK K C_NoText)
 (ix_NoText : IsxOk K C_NoText)
 (em_NoText_NoText : PySem.W.exmOne K (.ref C_NoText) (.ref C_NoText) = some true)
 (kx_NoText_NoText : Ki K C_NoText C_NoText true)
 (g_FIGURES : Gs K "FIGURES" "0123456789" t_FIGURES)
 (z_isinstance : Zn K "isinstance")
 (z_int : Zn K "int")
 (z_bool : Zn K "bool")
 (z_tuple : Zn K "tuple")
 (z_len : Zn K "len")
 (z_str : Zn K "str") :
 ∃ fd : FuncData, (∀ (s : Shared) (v : Value), BindsTo s fd ⟨[v], []⟩ [("_law_script", v)]) ∧ ∀ base : Heap, K.In base → base.Ns mainGlobals mg → FnOk l.prog w K mg base CX0 5 fa fd ["_law_script"] (PureSp K (S_law)) := by
  have mn {n : Str} (z : Zn K n) := PySem.W.mg_none_of X G z
  have mo {n : Str} {C : Addr} (z : Gc K n C) := PySem.W.mg_of X G z
  let A : Adr := ⟨C_NoText⟩
  have T : Txt K mg A := ⟨kitT K, mn z_isinstance, mn z_int, mn z_bool, mn z_tuple, mn z_len, mn z_str, ⟨_, PySem.W.mg_of X G g_FIGURES⟩, mo aC_NoText, ex_NoText, ix_NoText, em_NoText_NoText, kx_NoText_NoText⟩
  obtain ⟨_, m1, F1, b1⟩ := r1.get X G ["value"] (bz1 rfl fun _ _ _ _ _ _ _ => rfl)
  obtain ⟨_, m2, F2, b2⟩ := r2.get X G ["value"] (bz1 rfl fun _ _ _ _ _ _ _ => rfl)
  obtain ⟨_, m3, F3, b3⟩ := r3.get X G ["number"] (bz1 rfl fun _ _ _ _ _ _ _ => rfl)
  obtain ⟨_, m4, F4, b4⟩ := r4.get X G ["number"] (bz1 rfl fun _ _ _ _ _ _ _ => rfl)
  obtain ⟨_, m5, F5, b5⟩ := r5.get X G ["_law_number_here"] (bz1 rfl fun _ _ _ _ _ _ _ => rfl)
  obtain ⟨_, m6, F6, b6⟩ := r6.get X G ["_law_cell"] (bz1 rfl fun _ _ _ _ _ _ _ => rfl)
  obtain ⟨_, m7, F7, b7⟩ := r7.get X G ["_law_cell"] (bz1 rfl fun _ _ _ _ _ _ _ => rfl)
  obtain ⟨_, m8, F8, b8⟩ := r8.get X G ["_law_cell"] (bz1 rfl fun _ _ _ _ _ _ _ => rfl)
  obtain ⟨_, m9, F9, b9⟩ := r9.get X G ["text"] (bz1 rfl fun _ _ _ _ _ _ _ => rfl)
  obtain ⟨_, m10, F10, b10⟩ := r10.get X G ["text"] (bz1 rfl fun _ _ _ _ _ _ _ => rfl)
  obtain ⟨_, m11, F11, b11⟩ := r11.get X G ["text"] (bz1 rfl fun _ _ _ _ _ _ _ => rfl)
  obtain ⟨_, m12, F12, b12⟩ := r12.get X G ["_law_text_here"] (bz1 rfl fun _ _ _ _ _ _ _ => rfl)
  obtain ⟨_, m13, F13, b13⟩ := r13.get X G ["_law_text_here"] (bz1 rfl fun _ _ _ _ _ _ _ => rfl)
  obtain ⟨_, m14, F14, b14⟩ := r14.get X G ["_law_found"] (bz1 rfl fun _ _ _ _ _ _ _ => rfl)
  obtain ⟨_, m15, F15, b15⟩ := r15.get X G ["_law_found", "_law_due"] (bz2 rfl fun _ _ _ _ _ _ _ _ => rfl)
  obtain ⟨_, m16, F16, b16⟩ := r16.get X G ["_law_text_here"] (bz1 rfl fun _ _ _ _ _ _ _ => rfl)
  obtain ⟨_, m17, F17, b17⟩ := r17.get X G ["_law_text_here", "_law_cell"] (bz2 rfl fun _ _ _ _ _ _ _ _ => rfl)
  obtain ⟨_, m18, F18, b18⟩ := r18.get X G ["_law_script", "_law_k"] (bz2 rfl fun _ _ _ _ _ _ _ _ => rfl)
  obtain ⟨a19, _, _, kV, dc, pm, an, cd, ct, _, l19, c19, k19⟩ := r19
  cases hfa.symm.trans (PySem.W.mg_of X G a19)
  have F19 := fun_mk (st := s_law) l19 c19 k19
  refine ⟨PySem.W.fnOf "law" "law" (defArgs s_law) (defBody s_law) (defScope s_law) .none kV dc pm an cd ct, fun s v => .of_eq rfl, fun base _ _ => ?_⟩
  have G_is_whole := DOk.mk' F1 m1 b1 (ok_is_whole (P := l.prog) (w := w) (base := base) T F1)
  have G_is_pair := DOk.mk' F2 m2 b2 (ok_is_pair T G_is_whole F2)
  have G_whole_shown := DOk.mk' F3 m3 b3 (ok_whole_shown_0 (P := l.prog) (w := w) (base := base) T F3)
  have G_whole_shown := DOk.mk' F3 m3 b3 (ok_whole_shown (P := l.prog) (w := w) (base := base) T G_whole_shown F3)
  have G_number_shown := DOk.mk' F4 m4 b4 (ok_number_shown T G_is_pair G_whole_shown F4)
  have G__law_text := DOk.mk' F5 m5 b5 (ok_law_text (P := l.prog) (w := w) (base := base) T F5)
  have G__law_long_shown := DOk.mk' F6 m6 b6 (ok_law_long_shown T G_number_shown G__law_text F6)
  have G__law_one := DOk.mk' F7 m7 b7 (ok_law_one (P := l.prog) (w := w) (base := base) T F7)
  have G__law_number := DOk.mk' F8 m8 b8 (ok_law_number T G__law_one F8)
  have G_has_figures_alone := DOk.mk' F9 m9 b9 (ok_has_figures_alone (P := l.prog) (w := w) (base := base) T F9)
  have G_whole_read := DOkX.mk' F10 m10 b10 (ok_whole_read T G_has_figures_alone F10)
  have G_number_read := DOkX.mk' F11 m11 b11 (ok_number_read T G_whole_read F11)
  have G__law_whole_of := DOk.mk' F12 m12 b12 (ok_law_whole_of (P := l.prog) (w := w) (base := base) T F12)
  have G__law_number_of := DOk.mk' F13 m13 b13 (ok_law_number_of T G__law_whole_of F13)
  have G__law_whole := DOk.mk' F14 m14 b14 (ok_law_whole (P := l.prog) (w := w) (base := base) T F14)
  have G__law_alike := DOk.mk' F15 m15 b15 (ok_law_alike T G__law_whole F15)
  have G__law_read := DOk.mk' F16 m16 b16 (ok_law_read T G_number_read G__law_number_of G__law_alike F16)
  have G__law_spoilt := DOk.mk' F17 m17 b17 (ok_law_spoilt (P := l.prog) (w := w) (base := base) T F17)
  have G__law_cell_at := DOk.mk' F18 m18 b18 (ok_law_cell_at (P := l.prog) (w := w) (base := base) T F18)
  exact ok_law T G__law_long_shown G__law_number G_number_shown G__law_text G__law_read G__law_spoilt G__law_cell_at F19
theorem walk {l : PySem.W.OpenLaw} {q : Program} {loose : List Str} {XP : (Str → Option Value) → Heap → Prop} {YP : World → Heap → Prop} {d : DefRec} {K : Params → PySem.W.Frag} (hn : l.most = some 63) (hdf : d.params.defaults = [])
    (hY : ∀ (w : World) (h : Heap), YP w h → (K w.params).In h)
    (F : ∀ (w : World) (mg : Str → Option Value) (fa : Addr) (h : Heap), (K w.params).In h → h.Ns mainGlobals mg → mg d.name = some (.ref fa) →
      ∃ fd : FuncData, (∀ (s : Shared) (u : Value), BindsTo s fd ⟨[u], []⟩ [("_law_script", u)]) ∧ ∀ base : Heap, (K w.params).In base → base.Ns mainGlobals mg → FnOk l.prog w (K w.params) mg base CX0 5 fa fd ["_law_script"] (PureSp (K w.params) (S_law))) :
    PySem.W.WalkO q loose XP YP l.row.toRowW d [] (fun f vs => PySem.call f vs) :=
  L2.walk_of (n := 63) (k := 5) (x := "_law_script") (CX := fun _ => CX0) (sp := fun w => PureSp (K w.params) (S_law)) hn (by decide) hdf ⟨rfl, by decide, by decide⟩ hY F (fun w H a ns hl _ hS => ⟨⟨H, H, Same.refl H⟩, [.scr ns], fun d => d = .bl true, rfl, allIs_cons.mpr ⟨_, _, rfl, is_scr.mpr ⟨a, rfl, hS⟩, allIs_nil.mpr rfl⟩, ⟨ns, rfl, hl, rfl⟩, fun d v W' _ i e => by subst e; exact is_bl.mp i⟩) fun _ _ _ _ _ z => z
end My
local macro_rules | `(tactic| walk_at "fx") => `(tactic| (refine' My.FX.mk ?l ?c ?k; (case l => k_is); (case c => k_is); (case k => k_is)))
local macro_rules | `(tactic| walk_at "kk") => `(tactic| first | k_is | kit_is | kts_exm | (delta L2.ExcK; k_exc) | (delta My.Fi; k_is) | (delta My.Zn; k_is) | (delta My.Gs; k_is) | (delta My.Gc; k_is) | (delta My.Ki; kit_is) | (delta My.FD; refine ⟨?a, ?b⟩; (case a => k_is); (case b => walk_at "fx")) | (delta My.FM; refine ⟨?a, ?b⟩; (case a => k_is); (case b => walk_at "fx")) | (refine ⟨⟨?_, ?_, ?_, ?_⟩, ?_, ?_, ?_⟩ <;> k_is) | (refine ⟨?_, ?_, ?_, ?_, ?_, ?_, ?_⟩ <;> k_is) | (refine ⟨?_, ?_⟩ <;> k_is))
open PySem PySem.W PyProof.Rows
set_option maxRecDepth 100000 in
set_option maxHeartbeats 0 in
theorem PySem.Challenge.cw_oddbases_k57_numbers_as_texts_holds : PySem.Challenge.rw_oddbases_k57_numbers_as_texts.Holds := by
  w_on; o_law
  refine holds_open (q := My.h_view_39) (loose := []) (Xt := (fun s => xlAt My.h_view_39 [] s && recOk (RowW.records (OpenRow.toRowW PySem.Challenge.rw_oddbases_k57_numbers_as_texts.row)) s)) (XP := XL My.h_view_39 []) (Yf := Hook.obs (kHook My.h_heap_39 My.myAs My.myE)) (Ya := Hook.val (kHook My.h_heap_39 My.myAs My.myE)) (YP := Hook.says (kHook My.h_heap_39 My.myAs My.myE)) (N := 2164) My.left (Hook.of _) (Hook.keeps _) (fun s e => xl_of s (Bool.and_eq_true_iff.mp e).1) XL.keeps (by rfl) (by rfl) (by rfl) (fun s e => recFacts_of (Bool.and_eq_true_iff.mp e).2) (by rfl) (by first | assumption | decide +kernel) (by decide +kernel) ⟨rfl, rfl, rfl, rfl, rfl, by decide +kernel⟩ ?hw ?hc
  case hw => w_witness2
  k_fill
  refine My.walk (l := PySem.Challenge.rw_oddbases_k57_numbers_as_texts) rfl rfl (fun w h Y => PySem.W.kIn_of Y) ?F
  case F =>
    intro w mg fa h KX G hmg
    refine' My.all_mk KX G hmg ?aC_NoText ?r1 ?r2 ?r3 ?r4 ?r5 ?r6 ?r7 ?r8 ?r9 ?r10 ?r11 ?r12 ?r13 ?r14 ?r15 ?r16 ?r17 ?r18 ?r19 ?ex_NoText ?ix_NoText ?em_NoText_NoText ?kx_NoText_NoText ?g_FIGURES ?z_isinstance ?z_int ?z_bool ?z_tuple ?z_len ?z_str
    case aC_NoText | r1 | r2 | r3 | r4 | r5 | r6 | r7 | r8 | r9 | r10 | r11 | r12 | r13 | r14 | r15 | r16 | r17 | r18 | r19 | ex_NoText | ix_NoText | em_NoText_NoText | kx_NoText_NoText | g_FIGURES | z_isinstance | z_int | z_bool | z_tuple | z_len | z_str => walk_at "kk"
