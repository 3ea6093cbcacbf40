import PyProof.Rows.All
import Wide.All
import OpenK.AllK
import Wide.FinOn
import Lean
import PyProof.EqAt
import PyProof.EqKinds
import PyProof.TupleCall
import PyProof.NeKinds
import PySem.Challenge.RW_oddbases_k52_moved_refused
set_option Elab.async false
set_option linter.all false
set_option maxRecDepth 100000
namespace L2
open PySem PySem.Spec PyProof.Rows
abbrev Key:=Sum Int Str
def Zz:Key→Value→Bool
 | .inl k,v=>Value.isInt k v
 | .inr x,v=>Value.isStrOf x v
def PN (w:World):Key→Int
 | .inl k=>hashInt k
 | .inr x=>hashStr w x
theorem zS:∀ {k:Key} {v:Value},Zz k v=true→(∃ i t,k=Sum.inl i∧v=Value.int i t)∨(∃ x t,k=Sum.inr x∧v=Value.str x t)
 | .inl i,v,h=>by
  obtain ⟨t,e⟩:=Value.isInt_shape (k:=i) (v:=v) h
  exact .inl ⟨i,t,rfl,e⟩
 | .inr x,v,h=>by
  obtain ⟨t,e⟩:=Value.isStrOf_shape (x:=x) (v:=v) h
  exact .inr ⟨x,t,rfl,e⟩
theorem X0 (a b:Int):decide ((Sum.inl a:Key)=Sum.inl b)=(a == b):=by
 by_cases e:a=b
 ·subst e; simp
 ·have h:¬ (Sum.inl a:Key)=Sum.inl b:=fun q=>e (Sum.inl.inj q)
  rw [decide_eq_false h]
  exact (beq_eq_false_iff_ne.mpr e).symm
theorem XX (a b:Str):decide ((Sum.inr a:Key)=Sum.inr b)=decide (a=b):=by
 by_cases e:a=b
 ·subst e; simp
 ·have h:¬ (Sum.inr a:Key)=Sum.inr b:=fun q=>e (Sum.inr.inj q)
  rw [decide_eq_false h,decide_eq_false e]
theorem XZ (a:Int) (b:Str):decide ((Sum.inl a:Key)=Sum.inr b)=false:=decide_eq_false (fun q=>nomatch q)
theorem XY (a:Str) (b:Int):decide ((Sum.inr a:Key)=Sum.inl b)=false:=decide_eq_false (fun q=>nomatch q)
def oP (prog:Program) (w:World):PySem.KeyKind prog w Key where
 is:=Zz
 hash:=PN w
 inj:=fun v a b ha hb=>by
  rcases zS ha with ⟨i,t,rfl,rfl⟩ | ⟨x,t,rfl,rfl⟩
  ·rcases zS hb with ⟨j,u,rfl,e⟩ | ⟨y,u,rfl,e⟩
   ·injection e with e1 _; rw [e1]
   ·exact nomatch e
  ·rcases zS hb with ⟨j,u,rfl,e⟩ | ⟨y,u,rfl,e⟩
   ·exact nomatch e
   ·injection e with e1 _; rw [e1]
 byValue:=fun k v h=>by
  rcases zS h with ⟨i,t,rfl,rfl⟩ | ⟨x,t,rfl,rfl⟩ <;> rfl
 pyHash:=fun hv h=>by
  rcases zS hv with ⟨i,t,rfl,rfl⟩ | ⟨x,t,rfl,rfl⟩
  ·exact wpAny_pyHash_int h
  ·exact wpAny_pyHash_str h
 eqBool:=fun hu hv h=>by
  rcases zS hu with ⟨i,t,rfl,rfl⟩ | ⟨x,t,rfl,rfl⟩
  ·rcases zS hv with ⟨j,u,rfl,rfl⟩ | ⟨y,u,rfl,rfl⟩
   ·rw [X0] at h; exact wpAny_eqBool_int h
   ·rw [XZ] at h; exact SeqAt.EqAt.int_str i t y u _ _ _ _ h
  ·rcases zS hv with ⟨j,u,rfl,rfl⟩ | ⟨y,u,rfl,rfl⟩
   ·rw [XY] at h; exact SeqAt.EqAt.str_int x t j u _ _ _ _ h
   ·rw [XX] at h; exact wpAny_eqBool_str h
 «strs»:=fun k x t v h=>by
  rcases zS h with ⟨i,u,rfl,e⟩ | ⟨y,u,rfl,e⟩
  ·exact nomatch e
  ·injection e with e1 _
   subst e1
   cases v <;> rfl
end L2
namespace L2
open PySem PySem.Spec PyProof.Rows
inductive V where
 | non | bl (b:Bool) | int (i:Int) | str (x:Str) | byt (b:Array UInt8) | flt (b:UInt64) | ref (a:Addr) | ty (n:String)
 deriving DecidableEq
def RelV:V→Value→Prop
 | .non,u=>u=Value.none
 | .bl b,u=>u=Value.bool b
 | .int i,u=>∃ t,u=Value.int i t
 | .str x,u=>∃ t,u=Value.str x t
 | .byt b,u=>∃ t,u=Value.bytes b t
 | .flt b,u=>∃ t,u=Value.float b t
 | .ref a,u=>u=Value.ref a
 | .ty n,u=>u=Value.type n
abbrev Vals:List V→List Value→Prop:=Paired RelV
theorem Vals.length {xs:List V} {us:List Value} (r:Vals xs us):xs.length=us.length:=Paired.length r
theorem Vals.get:∀ {xs:List V} {us:List Value} {i:Nat} {x:V},Vals xs us→xs[i]? = some x→∃ u,us[i]? = some u∧RelV x u
 | _,_,_,_,.nil,e=>by simp at e
 | _,_,0,_,.cons r _,e=>by simp at e; subst e; exact ⟨_,rfl,r⟩
 | _,_,i + 1,x,.cons _ t,e=>by
  obtain ⟨u,h1,h2⟩:=Vals.get (i:=i) (x:=x) t (by simpa using e)
  exact ⟨u,by simpa using h1,h2⟩
theorem Vals.set {x:V} {u:Value} (r:RelV x u):∀ {xs:List V} {us:List Value} (i:Nat),Vals xs us→Vals (xs.set i x) (us.set i u)
 | _,_,_,.nil=>.nil
 | _,_,0,.cons _ t=>.cons r t
 | _,_,i + 1,.cons q t=>.cons q (Vals.set r i t)
theorem Vals.append:∀ {xs ys:List V} {us ws:List Value},Vals xs us→Vals ys ws→Vals (xs ++ ys) (us ++ ws)
 | _,_,_,_,.nil,s=>s
 | _,_,_,_,.cons r t,s=>.cons r (Vals.append t s)
theorem Vals.take:∀ {xs:List V} {us:List Value} (n:Nat),Vals xs us→Vals (xs.take n) (us.take n)
 | _,_,0,_=>.nil
 | _,_,_ + 1,.nil=>.nil
 | _,_,n + 1,.cons r t=>.cons r (Vals.take n t)
theorem Vals.drop:∀ {xs:List V} {us:List Value} (n:Nat),Vals xs us→Vals (xs.drop n) (us.drop n)
 | _,_,0,r=>r
 | _,_,_ + 1,.nil=>.nil
 | _,_,n + 1,.cons _ t=>Vals.drop n t
theorem Vals.none_of:∀ {xs:List V} {us:List Value} {i:Nat},Vals xs us→xs[i]? = none→us[i]? = none:=fun {xs us i} r e=>by
 have h1:=r.length
 have h2:xs.length ≤ i:=List.getElem?_eq_none_iff.mp e
 exact List.getElem?_eq_none_iff.mpr (by omega)
def RelO:Option V→Option Value→Prop
 | some v,some u=>RelV v u
 | none,none=>True
 | _,_=>False
def KV {κ:Type}:List (κ × V)→List (κ × Value)→Prop:=Paired fun (p:κ × V) (q:κ × Value)=>p.1=q.1∧RelV p.2 q.2
def kV:Key→V
 | .inl i=>.int i
 | .inr x=>.str x
inductive HO where
 | lst (xs:List V)
 | tup (xs:List V)
 | dK (kvs:List (Key × V)) | dT (kvs:List (List Key × V))
 | set (S:Int→Bool) (n:Nat)
 | ins (C dx:Addr) (fs:List (Str × V))
 | own (x:Addr)
 | xd (fs:List (Str × V))
 | met (f x:Addr)
 | rng (lo hi:Int)
 | frz (o:Obj) (u:HO)
 | tbl (ps:Array Value)
 | ext (φ:Heap→Prop)
abbrev Hp:=Addr→Option HO
def upd (H:Hp) (a:Addr) (o:HO):Hp:=fun b=>if b=a then some o else H b
theorem zA {H:Hp} {a:Addr} {o:HO}:upd H a o a=some o:=by unfold upd; rw [if_pos rfl]
theorem zx {H:Hp} {a b:Addr} {o:HO} (h:b ≠ a):upd H a o b=H b:=by unfold upd; rw [if_neg h]
theorem zT {H:Hp} {a b:Addr} {o:HO} (h:H a=some o) (h':H b=none):a ≠ b:=by
 intro e; subst e; rw [h] at h'; cases h'
section
variable (P:Program) (w:World)
def ObjOk (H:Hp) (h:Heap) (a:Addr):HO→Prop
 | .lst xs=>xs.length ≤ sizeLine∧∃ (its:List Value) (n:Nat),Vals xs its∧h.get? a=some { cls:=.type "list",data:=.seq its.toArray n }
 | .tup xs=>xs.length ≤ sizeLine∧∃ its:List Value,Vals xs its∧IsTup h a its.toArray
 | .dK kvs=>kvs.length ≤ sizeLine∧(a == sysModules)=false∧∃ vs,KV kvs vs∧h.DictOf (oP P w) a vs
 | .dT kvs=>kvs.length ≤ sizeLine∧(a == sysModules)=false∧∃ xs:List (List Key × Addr × Value),
   Paired (fun (p:List Key × V) (q:List Key × Addr × Value)=>p.1=q.1∧H q.2.1=some (.tup (p.1.map kV))∧RelV p.2 q.2.2) kvs xs∧
   ∃ o es ep,h.get? a=some o∧o.ExactDict∧o.data=.dict es ep∧es.toList=xs.map (entryOfKey (tupleKind (oP P w)))∧(xs.map (·.1)).Nodup
 | .set S n=>h.SetOf (intKind P w) a S n
 | .ins C dx fs=>H dx=some (.own a)∧fs.length ≤ 1000∧dx ≠ a∧h.get? a=some (PySem.W.instObj C dx)∧
   ∃ mA,h.Ns1 dx mA∧(∀ f,RelO (fs.lookup f) (mA f))∧PySem.Within mA (fs.map (·.1))
 | .own _=>∃ o,h.get? a=some o
 | .xd fs=>∃ mA,h.Ns1 a mA∧∀ f,RelO (fs.lookup f) (mA f)
 | .rng lo hi=>∃ t u v,h.get? a=some { cls:=.type "range",data:=.fields #[.int lo t,.int hi u,.int 1 v] }
 | .frz o u=>h.get? a=some o∧ObjOk H h a u
 | .tbl ps=>h.get? a=some { cls:=.none,data:=.fields ps }
 | .met f x=>h.get? a=some (PySem.W.methodObj (.ref f) (.ref x))
 | .ext φ=>φ h∧(∃ o,h.get? a=some o)∧∀ h1 h2:Heap,φ h1→(∀ o,h1.get? a=some o→h2.get? a=some o)→φ h2
def HOk (H:Hp) (h:Heap):Prop:=∀ a o,H a=some o→ObjOk P w H h a o
end
section
variable {P:Program} {w:World} {H H':Hp} {h h':Heap} {a:Addr} {o:HO}
theorem ObjOk.lt (x:ObjOk P w H h a o):a < h.objs.size:=by
 cases o with
 | lst xs=>obtain ⟨_,_,_,_,e⟩:=x; exact Heap.lt_size e
 | tup xs=>obtain ⟨_,_,_,p⟩:=x; exact p.lt
 | dK kvs=>obtain ⟨_,_,_,_,o,_,_,e,_⟩:=x; exact Heap.lt_size e
 | dT kvs=>obtain ⟨_,_,_,_,o,_,_,e,_⟩:=x; exact Heap.lt_size e
 | set S n=>obtain ⟨o,_,_,_,e,_⟩:=x; exact Heap.lt_size e
 | ins C dx fs=>obtain ⟨_,_,_,e,_⟩:=x; exact Heap.lt_size e
 | own y=>obtain ⟨_,e⟩:=x; exact Heap.lt_size e
 | xd fs=>obtain ⟨_,⟨_,_,_,e,_⟩,_⟩:=x; exact Heap.lt_size e
 | rng lo hi=>obtain ⟨_,_,_,e⟩:=x; exact Heap.lt_size e
 | frz ob u=>obtain ⟨e,_⟩:=x; exact Heap.lt_size e
 | tbl ps=>exact Heap.lt_size (show h.get? a=some _ from x)
 | met f y=>exact Heap.lt_size (show h.get? a=some _ from x)
 | ext φ=>obtain ⟨_,⟨_,e⟩,_⟩:=x; exact Heap.lt_size e
theorem Paired.mapP {α β:Type} {F G:α→β→Prop}:∀ {l₁:List α} {l₂:List β},Paired F l₁ l₂→(∀ a b,F a b→G a b)→Paired G l₁ l₂
 | _,_,.nil,_=>.nil
 | _,_,.cons r t,f=>.cons (f _ _ r) (Paired.mapP t f)
theorem ObjOk.stay (x:ObjOk P w H h a o) (k:∀ b u,(b=a∨H b=some (.own a))→h.get? b=some u→h'.get? b=some u)
  (ho:∀ b,H b=some (.own a)→H' b=some (.own a)) (ht:∀ b xs,H b=some (.tup xs)→H' b=some (.tup xs)):ObjOk P w H' h' a o:=by
 induction o with
 | lst xs=>obtain ⟨z,its,n,r,e⟩:=x; exact ⟨z,its,n,r,k _ _ (.inl rfl) e⟩
 | tup xs=>obtain ⟨z,its,r,ob,e,c⟩:=x; exact ⟨z,its,r,ob,k _ _ (.inl rfl) e,c⟩
 | dK kvs=>obtain ⟨z,y,vs,r,ob,es,ep,e,c⟩:=x; exact ⟨z,y,vs,r,ob,es,ep,k _ _ (.inl rfl) e,c⟩
 | dT kvs=>
  obtain ⟨z,y,xs,r,ob,es,ep,e,c⟩:=x
  exact ⟨z,y,xs,Paired.mapP r fun p q z=>⟨z.1,ht _ _ z.2.1,z.2.2⟩,ob,es,ep,k _ _ (.inl rfl) e,c⟩
 | set S n=>obtain ⟨ob,es,ep,t,e,c⟩:=x; exact ⟨ob,es,ep,t,k _ _ (.inl rfl) e,c⟩
 | ins C dx fs=>
  obtain ⟨d,z,ne,e,mA,⟨od,es,ep,e2,c⟩,r⟩:=x
  exact ⟨ho _ d,z,ne,k _ _ (.inl rfl) e,mA,⟨od,es,ep,k _ _ (.inr d) e2,c⟩,r⟩
 | own y=>obtain ⟨ob,e⟩:=x; exact ⟨ob,k _ _ (.inl rfl) e⟩
 | xd fs=>obtain ⟨mA,⟨od,es,ep,e,c⟩,r⟩:=x; exact ⟨mA,⟨od,es,ep,k _ _ (.inl rfl) e,c⟩,r⟩
 | rng lo hi=>obtain ⟨t,u,v,e⟩:=x; exact ⟨t,u,v,k _ _ (.inl rfl) e⟩
 | frz ob u ih=>obtain ⟨e,q⟩:=x; exact ⟨k _ _ (.inl rfl) e,ih q⟩
 | tbl ps=>
  have e:h.get? a=some { cls:=.none,data:=.fields ps }:=x
  show h'.get? a=some { cls:=.none,data:=.fields ps }
  exact k a _ (.inl rfl) e
 | met f y=>
  have e:h.get? a=some (PySem.W.methodObj (.ref f) (.ref y)):=x
  show h'.get? a=some (PySem.W.methodObj (.ref f) (.ref y))
  exact k a _ (.inl rfl) e
 | ext φ=>obtain ⟨p,⟨o,e⟩,st⟩:=x; exact ⟨st _ _ p fun o q=>k _ _ (.inl rfl) q,⟨o,k _ _ (.inl rfl) e⟩,st⟩
theorem HOk.lt (x:HOk P w H h) (e:H a=some o):a < h.objs.size:=(x a o e).lt
theorem HOk.fresh (x:HOk P w H h) (e:h.objs.size ≤ a):H a=none:=by
 cases q:H a with
 | none=>rfl
 | some u=>exact absurd (Nat.lt_of_lt_of_le (x.lt q) e) (Nat.lt_irrefl _)
theorem HOk.kept (x:HOk P w H h) (k:∀ b u,h.get? b=some u→h'.get? b=some u):HOk P w H h':=fun a o e=>
 (x a o e).stay (fun b u _ q=>k b u q) (fun _ q=>q) fun _ _ q=>q
theorem HOk.laid (x:HOk P w H h) (k:∀ b u,h.get? b=some u→h'.get? b=some u) (hp:h.objs.size ≤ a) (new:ObjOk P w (upd H a o) h' a o):HOk P w (upd H a o) h':=fun b u e=>by
 have hn:=x.fresh hp
 by_cases hb:b=a
 ·subst hb; rw [zA] at e; cases e; exact new
 ·rw [zx hb] at e
  exact (x b u e).stay (fun c v _ q=>k c v q) (fun c q=>by rw [zx (zT q hn)]; exact q) fun c xs q=>by rw [zx (zT q hn)]; exact q
end
def Rd (H:Hp) (a:Addr) (u:HO):Prop:=H a=some u∨∃ o,H a=some (.frz o u)
theorem Rd.of {H:Hp} {a:Addr} {u:HO} (h:H a=some u):Rd H a u:=.inl h
theorem Rd.ok {P:Program} {w:World} {H:Hp} {h:Heap} {a:Addr} {u:HO} (r:Rd H a u) (x:HOk P w H h):ObjOk P w H h a u:=by
 rcases r with r | ⟨o,r⟩
 ·exact x a u r
 ·obtain ⟨_,q⟩:=x a _ r
  exact q
def Mut:Option HO→Prop
 | some (.lst _)=>True
 | some (.dK _)=>True
 | some (.dT _)=>True
 | some (.set _ _)=>True
 | some (.ins _ _ _)=>True
 | some (.ext _)=>True
 | _=>False
section
variable {P:Program} {w:World} {H:Hp} {h h':Heap} {x e:Addr} {o':HO}
theorem HOk.write (ok:HOk P w H h) (mu:Mut (H x)) (he:e=x∨H e=some (.own x)) (k:∀ b u,b ≠ e→h.get? b=some u→h'.get? b=some u) (heo:∃ u,h'.get? e=some u)
  (new:ObjOk P w (upd H x o') h' x o'):HOk P w (upd H x o') h':=fun b u q=>by
 have nown:∀ c y,H c=some (.own y)→c ≠ x:=fun c y r z=>by subst z; rw [r] at mu; exact mu
 have ntup:∀ c xs,H c=some (.tup xs)→c ≠ x:=fun c xs r z=>by subst z; rw [r] at mu; exact mu
 by_cases hb:b=x
 ·subst hb; rw [zA] at q; cases q; exact new
 ·rw [zx hb] at q
  by_cases hbe:b=e
  ·have q':H b=some (.own x):=by
    rcases he with z | z
    ·exact absurd (hbe.trans z) hb
    ·rw [hbe]; exact z
   rw [q] at q'; cases q'
   obtain ⟨v,hv⟩:=heo
   exact ⟨v,by rw [hbe]; exact hv⟩
  ·refine (ok b u q).stay (fun c v hc r=>k c v ?_ r) (fun c r=>by rw [zx (nown c b r)]; exact r) fun c xs r=>by rw [zx (ntup c xs r)]; exact r
   rcases hc with rfl | hc
   ·exact hbe
   ·rintro rfl
    rcases he with z | z
    ·exact nown c b hc z
    ·rw [hc] at z; cases z; exact hb rfl
end
structure Un (fs ex:List Addr) (H H':Hp) (h h':Heap):Prop where
 keep:∀ b o,h.get? b=some o→H b=none→b ∉ fs→b ∉ ex→h'.get? b=some o
 slot:∀ b o,h.get? b=some o→H b=none→b ∈ fs→b ∉ ex→∃ sl,h'.get? b=some { o with slots:=sl }
 free:∀ b o,h.get? b=some o→H b=none→b ∉ ex→H' b=none
 there:∀ b o,h.get? b=some o→b ∉ ex→∃ o',h'.get? b=some o'
 tups:∀ b xs,H b=some (.tup xs)→H' b=some (.tup xs)
 frzs:∀ b o u,H b=some (.frz o u)→H' b=some (.frz o u)
 tbls:∀ b ps,H b=some (.tbl ps)→∃ more,H' b=some (.tbl (ps ++ more))
section
variable {fs fs' ex ex':List Addr} {H H1 H2:Hp} {h h1 h2 h':Heap} {a x e:Addr} {o:HO}
theorem Un.any (u:Un fs ex H H1 h h1) {b:Addr} {ob:Obj} (q:h.get? b=some ob) (n:H b=none) (hx:b ∉ ex):∃ sl,h1.get? b=some { ob with slots:=sl }:=by
 by_cases hb:b ∈ fs
 ·exact u.slot b ob q n hb hx
 ·exact ⟨ob.slots,u.keep b ob q n hb hx⟩
theorem Un.trans (a:Un fs ex H H1 h h1) (b:Un fs ex H1 H2 h1 h2):Un fs ex H H2 h h2 where
 keep:=fun c ob q n hc hx=>b.keep c ob (a.keep c ob q n hc hx) (a.free c ob q n hx) hc hx
 slot:=fun c ob q n hc hx=>by
  obtain ⟨sl,e1⟩:=a.slot c ob q n hc hx
  obtain ⟨sl',e2⟩:=b.slot c _ e1 (a.free c ob q n hx) hc hx
  exact ⟨sl',e2⟩
 free:=fun c ob q n hx=>by
  obtain ⟨o',e1⟩:=a.there c ob q hx
  exact b.free c o' e1 (a.free c ob q n hx) hx
 there:=fun c ob q hx=>by
  obtain ⟨o',e1⟩:=a.there c ob q hx
  exact b.there c o' e1 hx
 tups:=fun c xs q=>b.tups c xs (a.tups c xs q)
 frzs:=fun c ob xs q=>b.frzs c ob xs (a.frzs c ob xs q)
 tbls:=fun c ps q=>by
  obtain ⟨m1,e1⟩:=a.tbls c ps q
  obtain ⟨m2,e2⟩:=b.tbls c _ e1
  exact ⟨m1 ++ m2,by rw [e2,Array.append_assoc]⟩
theorem Un.kept (k:∀ b u,h.get? b=some u→h'.get? b=some u):Un fs ex H H h h':=
 ⟨fun b ob q _ _ _=>k b ob q,fun b ob q _ _ _=>⟨ob.slots,k b ob q⟩,fun _ _ _ n _=>n,fun b ob q _=>⟨ob,k b ob q⟩,fun _ _ q=>q,fun _ _ _ q=>q,fun _ ps q=>⟨#[],by rw [q]; simp⟩⟩
theorem Un.refl:Un fs ex H H h h:=Un.kept fun _ _ q=>q
theorem Un.laid (k:∀ b u,h.get? b=some u→h'.get? b=some u) (hp:h.objs.size ≤ a) (hn:H a=none):Un fs ex H (upd H a o) h h' where
 keep:=fun b u q _ _ _=>k b u q
 slot:=fun b u q _ _ _=>⟨u.slots,k b u q⟩
 free:=fun b u q n _=>by rw [zx (Nat.ne_of_lt (Nat.lt_of_lt_of_le (Heap.lt_size q) hp))]; exact n
 there:=fun b u q _=>⟨u,k b u q⟩
 tups:=fun b xs q=>by rw [zx (zT q hn)]; exact q
 frzs:=fun b u xs q=>by rw [zx (zT q hn)]; exact q
 tbls:=fun b ps q=>⟨#[],by rw [zx (zT q hn),q]; simp⟩
theorem Un.write (mu:Mut (H x)) (he:e=x∨H e=some (.own x)) (k:∀ b u,b ≠ e→h.get? b=some u→h'.get? b=some u) (heo:∃ u,h'.get? e=some u):Un fs ex H (upd H x o) h h':=by
 have hx:∀ b,H b=none→b ≠ x:=fun b n z=>by subst z; rw [n] at mu; exact mu
 have hb:∀ b,H b=none→b ≠ e:=fun b n z=>by
  subst z
  rcases he with r | r
  ·exact hx b n r
  ·rw [n] at r; cases r
 have hm:∀ b u,H b=some u→¬ Mut (some u)→b ≠ x:=fun b u q nm z=>by subst z; rw [q] at mu; exact nm mu
 refine ⟨fun b u q n _ _=>k b u (hb b n) q,fun b u q n _ _=>⟨u.slots,k b u (hb b n) q⟩,fun b u q n _=>by rw [zx (hx b n)]; exact n,fun b u q _=>?_,
  fun b xs q=>by rw [zx (hm b _ q fun z=>z)]; exact q,fun b u xs q=>by rw [zx (hm b _ q fun z=>z)]; exact q,fun b ps q=>⟨#[],by rw [zx (hm b _ q fun z=>z),q]; simp⟩⟩
 by_cases hbe:b=e
 ·subst hbe; exact heo
 ·exact ⟨u,k b u hbe q⟩
theorem Un.mono (u:Un fs ex H H1 h h1) (hs:∀ b ∈ fs,b ∈ fs') (hx:∀ b ∈ ex,b ∈ ex'):Un fs' ex' H H1 h h1:=
 ⟨fun b ob q n hb he=>u.keep b ob q n (fun z=>hb (hs b z)) fun z=>he (hx b z),fun _ _ q n _ he=>u.any q n fun z=>he (hx _ z),fun b ob q n he=>u.free b ob q n fun z=>he (hx b z),fun b ob q he=>u.there b ob q fun z=>he (hx b z),u.tups,u.frzs,u.tbls⟩
end
def trk (h:Heap) (H:Hp):List Addr:=(List.range h.objs.size).filter fun a=>(H a).isSome
def oU (h:Heap) (H:Hp):Heap:=PySem.W.hideAll h (trk h H)
theorem gx (h:Heap) (H:Hp):(oU h H).objs.size=h.objs.size:=PySem.W.hideAll_size _ _
theorem dB {h:Heap} {H:Hp} {b:Addr} {o:Obj} (e:h.get? b=some o) (n:H b=none):(oU h H).get? b=some o:=
 PySem.W.hideAll_get _ e fun hm=>by
  have q:(H b).isSome=true:=(List.mem_filter.mp hm).2
  rw [n] at q; simp at q
theorem br {h:Heap} {H:Hp} {b:Addr} {o:Obj} (e:(oU h H).get? b=some o):h.get? b=some o∧H b=none:=by
 have e':h.get? b=some o:=PySem.W.of_hideAll (trk h H) e
 refine ⟨e',?_⟩
 cases q:H b with
 | none=>rfl
 | some x=>
  have hm:b ∈ trk h H:=List.mem_filter.mpr ⟨List.mem_range.mpr (Heap.lt_size e'),by simp [q]⟩
  have z:(oU h H).get? b=none:=PySem.W.hideAll_none (trk h H) hm
  rw [z] at e; cases e
def Zd (g h:Heap) (L:Addr):List (Addr × Obj):=(List.range h.objs.size).filterMap fun a=>if a=L∨(g.get? a).isSome=true then none else (h.get? a).map fun o=>(a,o)
def yz (g h:Heap) (L d:Addr):List (Addr × Obj):=(Zd g h L).filter fun p=>decide (p.1 ≠ d)
end L2
namespace L2
open PySem PySem.Spec PyProof.Rows
structure Mod (K:PySem.W.Frag) (mg:Str→Option Value) (base:Heap):Prop where
 kin:K.In base
 glob:base.Ns mainGlobals mg
 blt:∃ mb,base.Ns builtinsNs mb∧∀ x:Str,x ≠ "__name__"→mb x=bootBuiltins x
 nolimit:base.NoLimit
structure Cx where
 prog:Program
 w:World
 K:PySem.W.Frag
 mg:Str→Option Value
 base:Heap
 A:Around
 N:List Str
 s₀:Shared
 H₀:Hp
 env:Env
 outer:List Env
 stack:List Env
 ex:List Addr
 fn:Str→Bool
 calm:Bool
 pn:List (Addr × Obj)
 xe:Value→Shared→Prop
def frs (l:List Env):List Addr:=l.filterMap (·.frame)
abbrev Cx.fs (X:Cx):List Addr:=frs X.outer
def Vis (sc:Scope) (x:Str):Prop:=sc.names.lookup x=some .local∨sc.names.lookup x=some .cell∨sc.names.lookup x=some .free
def Loc (sc:Scope) (x:Str):Prop:=sc.names.lookup x=some .local∨sc.names.lookup x=some .cell
def Oh (env:Env) (h:Heap) (m:Str→Option Value) (x:Str) (u:Value):Prop:=
 (env.kindOf x=some .local∧m x=some u)∨((env.kindOf x=some .cell∨env.kindOf x=some .free)∧∃ c,env.cells.lookup x=some c∧h.IsCell c (some u))
structure Cx.Ok (X:Cx):Prop where
 mod:Mod X.K X.mg X.base
 kind:X.env.scope.kind=.function
 glob:X.env.globals=mainGlobals
 blt:X.env.builtins=builtinsNs
 above:X.s₀.heap.objs.size ≤ X.env.locals
 inj:∀ x y c,X.env.cells.lookup x=some c→X.env.cells.lookup y=some c→x=y
 has:∀ x,(X.env.kindOf x=some .cell∨X.env.kindOf x=some .free)→∃ c,X.env.cells.lookup x=some c
 cab:∀ x c,X.fn x=true→X.env.cells.lookup x=some c→X.s₀.heap.objs.size ≤ c
 hd:X.calm=true→X.A.handled=none
 frames:X.A.frames=some X.stack
 stk:X.stack=X.outer∨(X.stack=X.env :: X.outer∧X.env.frame=some X.env.locals)
 exf:∀ b ∈ X.ex,b ≠ X.env.locals∧∀ x c,X.env.cells.lookup x=some c→c ≠ b
 bs:∀ b o,X.base.get? b=some o→X.s₀.heap.get? b=some o∧X.H₀ b=none
 bsz:X.base.objs.size ≤ X.s₀.heap.objs.size
 noex:∀ b o,X.base.get? b=some o→b ∉ X.ex
 exfs:∀ b ∈ X.ex,b ∉ X.fs
 funs:X.s₀.heap.FunFrames X.base X.outer
 frf:∀ b ∈ X.fs,X.H₀ b=none
structure Inv (X:Cx) (pins:List (Addr × Obj)) (σ:List (Option V)) (H:Hp) (s:Shared):Prop where
 ok:X.Ok
 os:s.os=X.s₀.os
 bare:AllBare s.gens
 base:Un X.fs X.ex X.H₀ H X.s₀.heap s.heap
 loc:∃ m,s.heap.Ns X.env.locals m∧∀ (i:Nat) (x:Str) (v:V),X.N[i]? = some x→σ[i]? = some (some v)→Vis X.env.scope x→∃ u,RelV v u∧Oh X.env s.heap m x u
 cell:∀ x c,X.env.cells.lookup x=some c→∃ v,s.heap.IsCell c v
 free:H X.env.locals=none
 freeC:∀ x c,X.env.cells.lookup x=some c→H c=none
 pin:∀ p ∈ X.pn ++ pins,s.heap.get? p.1=some p.2∧H p.1=none∧p.1 ≠ X.env.locals∧p.1 ∉ X.fs∧∀ v,p.2.data ≠ .cell v
 hok:HOk X.prog X.w H s.heap
 len:σ.length=X.N.length
section
variable {X:Cx} {pins:List (Addr × Obj)} {σ:List (Option V)} {H H':Hp} {s:Shared} {h':Heap}
theorem Cx.Ok.nofr (ok:X.Ok) {b:Addr} {o:Obj} (e:X.base.get? b=some o):b ∉ X.fs:=fun hb=>by
 have:=(ok.funs.mem hb).1
 rw [e] at this; cases this
theorem Inv.bs (I:Inv X pins σ H s):∀ b o,X.base.get? b=some o→s.heap.get? b=some o∧H b=none:=fun b o e=>
 ⟨I.base.keep b o (I.ok.bs b o e).1 (I.ok.bs b o e).2 (I.ok.nofr e) (I.ok.noex b o e),I.base.free b o (I.ok.bs b o e).1 (I.ok.bs b o e).2 (I.ok.noex b o e)⟩
theorem Inv.bk (I:Inv X pins σ H s):∀ b o,X.base.get? b=some o→s.heap.get? b=some o:=fun b o e=>(I.bs b o e).1
theorem Inv.mod (I:Inv X pins σ H s):Mod X.K X.mg X.base:=I.ok.mod
theorem Inv.kIn (I:Inv X pins σ H s):X.K.In s.heap:=I.ok.mod.kin.keeps I.bk
theorem Inv.nolimit (I:Inv X pins σ H s):s.heap.NoLimit:=I.ok.mod.nolimit.keeps I.bk
theorem Inv.fr (I:Inv X pins σ H s):∃ m,Fr X.base X.env.locals s.heap m:=
 let ⟨m,hn,_⟩:=I.loc
 ⟨m,hn,I.bk,Nat.le_trans I.ok.bsz I.ok.above⟩
theorem Inv.lt (I:Inv X pins σ H s):X.env.locals < s.heap.objs.size:=let ⟨_,hn,_⟩:=I.loc; hn.lt
theorem Inv.sz (I:Inv X pins σ H s):X.s₀.heap.objs.size ≤ s.heap.objs.size:=Nat.le_trans I.ok.above (Nat.le_of_lt I.lt)
theorem Inv.nofs (I:Inv X pins σ H s) {a:Addr} (h:s.heap.objs.size ≤ a):a ∉ X.fs:=fun hb=>by
 obtain ⟨_,o,ho,_⟩:=I.ok.funs.mem hb
 exact absurd (Nat.lt_of_lt_of_le (Heap.lt_size ho) (Nat.le_trans I.sz h)) (Nat.lt_irrefl _)
theorem Inv.cne (I:Inv X pins σ H s):∀ x c,X.env.cells.lookup x=some c→c ≠ X.env.locals:=fun x c e z=>by
 obtain ⟨v,o,ho,hd⟩:=I.cell x c e
 obtain ⟨m,⟨o',es,ep,ho',hd',_⟩,_⟩:=I.loc
 rw [z,ho'] at ho; cases ho; rw [hd'] at hd; cases hd
theorem Inv.funs (I:Inv X pins σ H s):s.heap.FunFrames X.base X.outer:=by
 have all:∀ (l:List Env),(∀ b ∈ frs l,b ∈ X.fs)→X.s₀.heap.FunFrames X.base l→s.heap.FunFrames X.base l:=by
  intro l
  induction l with
  | nil=>intro _ _; trivial
  | cons env r ih=>
   intro hs hl
   obtain ⟨hk,⟨L,o,hf,hn,ho,hd⟩,hr⟩:=hl
   have hL:L ∈ X.fs:=hs L (by unfold frs; rw [List.filterMap_cons,hf]; exact List.mem_cons_self)
   obtain ⟨sl,e⟩:=I.base.slot L o ho (I.ok.frf L hL) hL fun z=>I.ok.exfs L z hL
   exact ⟨hk,⟨L,_,hf,hn,e,hd⟩,ih (fun b hb=>hs b (by unfold frs; rw [List.filterMap_cons,hf]; exact List.mem_cons_of_mem _ hb)) hr⟩
 exact all X.outer (fun _ hb=>hb) I.ok.funs
theorem Inv.stack (I:Inv X pins σ H s):s.heap.FunFrames X.base X.stack:=by
 rcases I.ok.stk with e | ⟨e,hf⟩
 ·rw [e]; exact I.funs
 ·rw [e]
  obtain ⟨m,hn,_⟩:=I.loc
  refine .cons (by rw [I.ok.kind]; decide) hf hn ?_ I.funs
  exact Heap.get?_none_of_le (Nat.le_trans I.ok.bsz I.ok.above)
theorem Inv.stkSub (I:Inv X pins σ H s):∀ b ∈ frs X.stack,b ∈ X.env.locals :: X.fs:=fun b hb=>by
 rcases I.ok.stk with e | ⟨e,hf⟩
 ·rw [e] at hb; exact List.mem_cons_of_mem _ hb
 ·rw [e] at hb
  unfold frs at hb
  rw [List.filterMap_cons,hf] at hb
  exact hb
theorem Inv.stkFree (I:Inv X pins σ H s):∀ b ∈ frs X.stack,H b=none:=fun b hb=>by
 rcases List.mem_cons.mp (I.stkSub b hb) with e | hb
 ·rw [e]; exact I.free
 ·obtain ⟨_,o,ho,_⟩:=I.ok.funs.mem hb
  exact I.base.free b o ho (I.ok.frf b hb) fun z=>I.ok.exfs b z hb
theorem Inv.step {g':Array GenState} {t':Nat} {d':Drawn} {ch:List Addr} (I:Inv X pins σ H s)
  (hch:∀ b ∈ ch,(b ∈ X.ex∨X.s₀.heap.objs.size ≤ b)∧b ≠ X.env.locals∧(∀ x c,X.env.cells.lookup x=some c→c ≠ b)∧∀ p ∈ X.pn ++ pins,p.1 ≠ b)
  (keep:∀ b o,b ≠ X.env.locals→b ∉ X.fs→b ∉ ch→s.heap.get? b=some o→H b=none→h'.get? b=some o)
  (slot:∀ b o,b ≠ X.env.locals→b ∈ X.fs→b ∉ ch→s.heap.get? b=some o→H b=none→∃ sl,h'.get? b=some { o with slots:=sl }) (free:∀ b o,b ∉ ch→s.heap.get? b=some o→H b=none→H' b=none)
  (there:∀ b o,b ∉ ch→s.heap.get? b=some o→∃ o',h'.get? b=some o')
  (tups:∀ b xs,H b=some (.tup xs)→H' b=some (.tup xs)) (frzs:∀ b o u,H b=some (.frz o u)→H' b=some (.frz o u)) (tbls:∀ b ps,H b=some (.tbl ps)→∃ more,H' b=some (.tbl (ps ++ more)))
  (ns:∀ m,s.heap.Ns X.env.locals m→h'.Ns X.env.locals m) (hok:HOk X.prog X.w H' h') (hg:AllBare g'):
  Inv X pins σ H' { s with heap:=h',gens:=g',drawn:=d',toks:=t' }:=by
 have neL:∀ b o,X.s₀.heap.get? b=some o→b ≠ X.env.locals:=fun b o e=>Nat.ne_of_lt (Nat.lt_of_lt_of_le (Heap.lt_size e) I.ok.above)
 have neC:∀ b o,X.s₀.heap.get? b=some o→b ∉ X.ex→b ∉ ch:=fun b o e hx hb=>by
  rcases (hch b hb).1 with z | z
  ·exact hx z
  ·exact absurd (Nat.lt_of_lt_of_le (Heap.lt_size e) z) (Nat.lt_irrefl _)
 have cellK:∀ x c,X.env.cells.lookup x=some c→∀ v,s.heap.IsCell c v→h'.IsCell c v:=fun x c e v ⟨o,ho,hd⟩=>by
  have nch:c ∉ ch:=fun z=>(hch c z).2.2.1 x c e rfl
  by_cases hc:c ∈ X.fs
  ·obtain ⟨sl,q⟩:=slot c o (I.cne x c e) hc nch ho (I.freeC x c e)
   exact ⟨_,q,hd⟩
  ·exact ⟨o,keep c o (I.cne x c e) hc nch ho (I.freeC x c e),hd⟩
 refine ⟨I.ok,I.os,hg,⟨fun b o e n hb hx=>?_,fun b o e n hb hx=>?_,fun b o e n hx=>?_,fun b o e hx=>?_,fun b xs e=>tups b xs (I.base.tups b xs e),fun b o xs e=>frzs b o xs (I.base.frzs b o xs e),fun b ps e=>?_⟩,?_,fun x c e=>?_,?_,fun x c e=>?_,fun p hp=>?_,hok,I.len⟩
 ·exact keep b o (neL b o e) hb (neC b o e hx) (I.base.keep b o e n hb hx) (I.base.free b o e n hx)
 ·obtain ⟨sl,e1⟩:=I.base.slot b o e n hb hx
  obtain ⟨sl',e2⟩:=slot b _ (neL b o e) hb (neC b o e hx) e1 (I.base.free b o e n hx)
  exact ⟨sl',e2⟩
 ·obtain ⟨o',e1⟩:=I.base.there b o e hx
  exact free b o' (neC b o e hx) e1 (I.base.free b o e n hx)
 ·obtain ⟨o',e1⟩:=I.base.there b o e hx
  exact there b o' (neC b o e hx) e1
 ·obtain ⟨m1,e1⟩:=I.base.tbls b ps e
  obtain ⟨m2,e2⟩:=tbls b _ e1
  exact ⟨m1 ++ m2,by rw [e2,Array.append_assoc]⟩
 ·obtain ⟨m,hn,hl⟩:=I.loc
  refine ⟨m,ns m hn,fun i x v e1 e2 e3=>?_⟩
  obtain ⟨u,r,l⟩:=hl i x v e1 e2 e3
  refine ⟨u,r,?_⟩
  rcases l with l | ⟨k,c,e,z⟩
  ·exact .inl l
  ·exact .inr ⟨k,c,e,cellK x c e _ z⟩
 ·obtain ⟨v,z⟩:=I.cell x c e
  exact ⟨v,cellK x c e v z⟩
 ·obtain ⟨m,⟨o,_,_,ho,_⟩,_⟩:=I.loc
  exact free _ o (fun z=>(hch _ z).2.1 rfl) ho I.free
 ·obtain ⟨v,o,ho,hd⟩:=I.cell x c e
  exact free c o (fun z=>(hch c z).2.2.1 x c e rfl) ho (I.freeC x c e)
 ·obtain ⟨e,n,ne,nf,d⟩:=I.pin p hp
  have nch:p.1 ∉ ch:=fun z=>(hch p.1 z).2.2.2 p hp rfl
  exact ⟨keep p.1 p.2 ne nf nch e n,free p.1 p.2 nch e n,ne,nf,d⟩
theorem Inv.un {t':Nat} (I:Inv X pins σ H s) (u:Un X.fs [] H H' s.heap h') (hok:HOk X.prog X.w H' h'):Inv X pins σ H' { s with heap:=h',toks:=t' }:=by
 obtain ⟨m,⟨o,es,ep,ho,r⟩,_⟩:=id I.loc
 obtain ⟨sl,hL⟩:=u.any ho I.free (by simp)
 exact I.step (g':=s.gens) (d':=s.drawn) (ch:=[]) (fun _ z=>nomatch z) (fun b o _ hb _ e n=>u.keep b o e n hb (by simp)) (fun b o _ hb _ e n=>u.slot b o e n hb (by simp)) (fun b o _ e n=>u.free b o e n (by simp)) (fun b o _ e=>u.there b o e (by simp)) u.tups u.frzs u.tbls (fun m' hm=>by
  obtain ⟨o',es',ep',ho',r'⟩:=hm
  rw [ho] at ho'; cases ho'
  exact ⟨_,es',ep',hL,r'⟩) hok I.bare
theorem Inv.call {g':Array GenState} {t':Nat} {d':Drawn} {ch:List Addr} (I:Inv X pins σ H s) (u:Un (frs X.stack) ch H H' s.heap h') (hok:HOk X.prog X.w H' h') (hg:AllBare g')
  (hch:∀ b ∈ ch,(b ∈ X.ex∨X.s₀.heap.objs.size ≤ b)∧b ≠ X.env.locals∧(∀ x c,X.env.cells.lookup x=some c→c ≠ b)∧∀ p ∈ X.pn ++ pins,p.1 ≠ b):
  Inv X pins σ H' { s with heap:=h',gens:=g',drawn:=d',toks:=t' }:=by
 obtain ⟨m,⟨o,es,ep,ho,r⟩,_⟩:=id I.loc
 obtain ⟨sl,hL⟩:=u.any ho I.free fun z=>(hch _ z).2.1 rfl
 exact I.step (ch:=ch) hch (fun b o hL hb hc e n=>u.keep b o e n (fun z=>(List.mem_cons.mp (I.stkSub b z)).elim hL hb) hc) (fun b o _ _ hc e n=>u.any e n hc) (fun b o hc e n=>u.free b o e n hc) (fun b o hc e=>u.there b o e hc) u.tups u.frzs u.tbls (fun m' hm=>by
  obtain ⟨o',es',ep',ho',r'⟩:=hm
  rw [ho] at ho'; cases ho'
  exact ⟨_,es',ep',hL,r'⟩) hok hg
theorem Inv.turned {t':Nat} {it:Addr} (I:Inv X pins σ H s) (k:∀ b o,b ≠ it→s.heap.get? b=some o→h'.get? b=some o) (hn:H it=none) (hL:it ≠ X.env.locals)
  (h1:it ∈ X.ex∨X.s₀.heap.objs.size ≤ it) (h2:∀ x c,X.env.cells.lookup x=some c→c ≠ it) (h3:∀ p ∈ X.pn ++ pins,p.1 ≠ it):Inv X pins σ H { s with heap:=h',toks:=t' }:=by
 have nit:∀ b u,H b=some u→b ≠ it:=fun b u e z=>by rw [z,hn] at e; cases e
 refine I.step (g':=s.gens) (d':=s.drawn) (ch:=[it]) (fun b hb=>?_) (fun b o _ _ hc e _=>k b o (fun z=>hc (by simp [z])) e) (fun b o _ _ hc e _=>⟨o.slots,k b o (fun z=>hc (by simp [z])) e⟩) (fun _ _ _ _ n=>n)
  (fun b o hc e=>⟨o,k b o (fun z=>hc (by simp [z])) e⟩) (fun _ _ e=>e) (fun _ _ _ e=>e) (fun b ps e=>⟨#[],by rw [e]; simp⟩) (fun m hm=>?_) (fun b u e=>?_) I.bare
 ·have e:b=it:=by simpa using hb
  subst e
  exact ⟨h1,hL,h2,h3⟩
 ·obtain ⟨o,es,ep,ho,r⟩:=hm
  exact ⟨o,es,ep,k _ o (Ne.symm hL) ho,r⟩
 ·refine (I.hok b u e).stay (fun c v hc q=>k c v ?_ q) (fun _ q=>q) fun _ _ q=>q
  rcases hc with z | z
  ·rw [z]; exact nit b u e
  ·exact nit c _ z
theorem Inv.tok (I:Inv X pins σ H s) (t:Nat):Inv X pins σ H { s with toks:=t }:=I.un (h':=s.heap) (t':=t) Un.refl I.hok
theorem Inv.kept {t':Nat} (I:Inv X pins σ H s) (k:∀ b u,s.heap.get? b=some u→h'.get? b=some u):Inv X pins σ H { s with heap:=h',toks:=t' }:=I.un (Un.kept k) (I.hok.kept k)
theorem Inv.laid {a:Addr} {o:HO} {t':Nat} (I:Inv X pins σ H s) (k:∀ b u,s.heap.get? b=some u→h'.get? b=some u) (hp:s.heap.objs.size ≤ a) (new:ObjOk X.prog X.w (upd H a o) h' a o):
  Inv X pins σ (upd H a o) { s with heap:=h',toks:=t' }:=I.un (Un.laid k hp (I.hok.fresh hp)) (I.hok.laid k hp new)
theorem Inv.write {x e:Addr} {o:HO} {t':Nat} (I:Inv X pins σ H s) (mu:Mut (H x)) (he:e=x∨H e=some (.own x)) (k:∀ b u,b ≠ e→s.heap.get? b=some u→h'.get? b=some u) (heo:∃ u,h'.get? e=some u)
  (new:ObjOk X.prog X.w (upd H x o) h' x o):Inv X pins σ (upd H x o) { s with heap:=h',toks:=t' }:=I.un (Un.write mu he k heo) (I.hok.write mu he k heo new)
theorem Inv.weak {σ':List (Option V)} (I:Inv X pins σ H s) (hl:σ'.length=σ.length) (w:∀ (i:Nat) v,σ'[i]? = some (some v)→σ[i]? = some (some v)):Inv X pins σ' H s:=
 ⟨I.ok,I.os,I.bare,I.base,let ⟨m,hn,hl'⟩:=I.loc; ⟨m,hn,fun i x v e1 e2 e3=>hl' i x v e1 (w i v e2) e3⟩,I.cell,I.free,I.freeC,I.pin,I.hok,hl.trans I.len⟩
theorem Inv.pins_of {pins':List (Addr × Obj)} (I:Inv X pins σ H s) (h:∀ p ∈ pins',s.heap.get? p.1=some p.2∧H p.1=none∧p.1 ≠ X.env.locals∧p.1 ∉ X.fs∧∀ v,p.2.data ≠ .cell v):Inv X pins' σ H s:=
 ⟨I.ok,I.os,I.bare,I.base,I.loc,I.cell,I.free,I.freeC,fun p hp=>(List.mem_append.mp hp).elim (fun z=>I.pin p (List.mem_append_left _ z)) (h p),I.hok,I.len⟩
theorem rn {N:List Str} (hN:N.Nodup) {i j:Nat} {x:Str} (a:N[i]? = some x) (b:N[j]? = some x):i=j:=by
 obtain ⟨h1,e1⟩:=List.getElem?_eq_some_iff.mp a
 obtain ⟨h2,e2⟩:=List.getElem?_eq_some_iff.mp b
 exact (List.getElem_inj hN).mp (e1.trans e2.symm)
theorem ip {M:Model} {A:Around} {E:Value→Shared→Prop} {i:Nat} {x:Str} {v:V} {u:Value} {Q:Unit→Shared→Prop} (I:Inv X pins σ H s) (hN:X.N.Nodup) (hi:X.N[i]? = some x) (hx:Loc X.env.scope x) (r:RelV v u)
  (h:∀ s',Inv X pins (σ.set i (some v)) H s'→(∃ a,Heap.SameBut a s.heap s'.heap∧(a=X.env.locals∨X.env.cells.lookup x=some a))→Q () s') (hf:X.fn x=true∨X.env.scope.names.lookup x=some .local:=by first | exact .inl rfl | exact .inr rfl | assumption):wpAny M A (storeName X.env x u) Q E s:=by
 obtain ⟨m,hn,hl⟩:=id I.loc
 have hcls:(X.env.scope.kind == .class || (X.env.scope.kind == .module && X.env.locals != X.env.globals))=false:=by rw [I.ok.kind]; rfl
 have hiσ:i < σ.length:=by rw [I.len]; exact (List.getElem?_eq_some_iff.mp hi).1
 have cne:=I.cne
 have tracked:∀ {a:Addr} {h':Heap},(∃ o,s.heap.get? a=some o∧H a=none)→Heap.SameBut a s.heap h'→HOk X.prog X.w H h':=fun {a h'} ha hs b ob e=>by
  obtain ⟨_,_,hfree⟩:=ha
  refine (I.hok b ob e).stay (fun c w' hc q=>(hs.2 c ?_).trans q) (fun _ q=>q) fun _ _ q=>q
  rintro rfl
  rcases hc with rfl | hc
  ·rw [hfree] at e; cases e
  ·rw [hfree] at hc; cases hc
 rcases hx with hk | hk
 ·refine wpAny_storeName_local hk hn (fun h' hn' hs=>?_) hcls
  obtain ⟨oL,_,_,hoL,_⟩:=id hn
  refine h _ ⟨I.ok,I.os,I.bare,⟨fun b o e n hb hx=>?_,fun b o e n hb hx=>?_,I.base.free,fun b o e hx=>?_,I.base.tups,I.base.frzs,I.base.tbls⟩,⟨_,hn',fun j y v' e1 e2 e3=>?_⟩,fun y c e=>?_,I.free,I.freeC,fun p hp=>?_,tracked ⟨oL,hoL,I.free⟩ hs,by simpa using I.len⟩ ⟨_,hs,.inl rfl⟩
  ·exact (hs.2 b (Nat.ne_of_lt (Nat.lt_of_lt_of_le (Heap.lt_size e) I.ok.above))).trans (I.base.keep b o e n hb hx)
  ·obtain ⟨sl,e1⟩:=I.base.slot b o e n hb hx
   exact ⟨sl,(hs.2 b (Nat.ne_of_lt (Nat.lt_of_lt_of_le (Heap.lt_size e) I.ok.above))).trans e1⟩
  ·obtain ⟨o',e1⟩:=I.base.there b o e hx
   exact ⟨o',(hs.2 b (Nat.ne_of_lt (Nat.lt_of_lt_of_le (Heap.lt_size e) I.ok.above))).trans e1⟩
  ·by_cases hj:j=i
   ·subst hj
    rw [hi] at e1; cases e1
    rw [List.getElem?_set_self hiσ] at e2
    cases e2
    exact ⟨u,r,.inl ⟨hk,by simp⟩⟩
   ·rw [List.getElem?_set_ne (Ne.symm hj)] at e2
    obtain ⟨u',r',q⟩:=hl j y v' e1 e2 e3
    refine ⟨u',r',?_⟩
    rcases q with ⟨k,e⟩ | ⟨k,c,e,z⟩
    ·refine .inl ⟨k,?_⟩
     have:y ≠ x:=fun e=>hj (rn hN e1 (e ▸ hi))
     simp [this,e]
    ·exact .inr ⟨k,c,e,z.sameBut hs (cne y c e)⟩
  ·obtain ⟨w',z⟩:=I.cell y c e
   exact ⟨w',z.sameBut hs (cne y c e)⟩
  ·obtain ⟨e,n,ne,nf,d⟩:=I.pin p hp
   exact ⟨(hs.2 p.1 ne).trans e,n,ne,nf,d⟩
 ·have hfn:X.fn x=true:=by
   rcases hf with z | z
   ·exact z
   ·rw [z] at hk; cases hk
  obtain ⟨c,hc⟩:=I.ok.has x (.inl hk)
  obtain ⟨w',z⟩:=I.cell x c hc
  refine wpAny_storeName_cell I.ok.kind hk hc z (fun h' hc' hs=>?_)
  obtain ⟨oc,hoc,hocd⟩:=id z
  refine h { s with heap:=h' } ⟨I.ok,I.os,I.bare,⟨fun b o e n hb hx=>?_,fun b o e n hb hx=>?_,I.base.free,fun b o e hx=>?_,I.base.tups,I.base.frzs,I.base.tbls⟩,⟨m,hn.sameBut hs (Ne.symm (cne x c hc)),fun j y v' e1 e2 e3=>?_⟩,fun y c' e=>?_,I.free,I.freeC,fun p hp=>?_,tracked ⟨oc,hoc,I.freeC x c hc⟩ hs,by simpa using I.len⟩ ⟨c,hs,.inr hc⟩
  ·exact (hs.2 b (Nat.ne_of_lt (Nat.lt_of_lt_of_le (Heap.lt_size e) (I.ok.cab x c hfn hc)))).trans (I.base.keep b o e n hb hx)
  ·obtain ⟨sl,e1⟩:=I.base.slot b o e n hb hx
   exact ⟨sl,(hs.2 b (Nat.ne_of_lt (Nat.lt_of_lt_of_le (Heap.lt_size e) (I.ok.cab x c hfn hc)))).trans e1⟩
  ·obtain ⟨o',e1⟩:=I.base.there b o e hx
   exact ⟨o',(hs.2 b (Nat.ne_of_lt (Nat.lt_of_lt_of_le (Heap.lt_size e) (I.ok.cab x c hfn hc)))).trans e1⟩
  ·by_cases hj:j=i
   ·subst hj
    rw [hi] at e1; cases e1
    rw [List.getElem?_set_self hiσ] at e2
    cases e2
    exact ⟨u,r,.inr ⟨.inl hk,c,hc,hc'⟩⟩
   ·rw [List.getElem?_set_ne (Ne.symm hj)] at e2
    obtain ⟨u',r',q⟩:=hl j y v' e1 e2 e3
    refine ⟨u',r',?_⟩
    rcases q with q | ⟨k,c',e,z'⟩
    ·exact .inl q
    ·refine .inr ⟨k,c',e,z'.sameBut hs ?_⟩
     rintro rfl
     exact hj (rn hN e1 (I.ok.inj _ _ _ e hc ▸ hi))
  ·by_cases hcc:c'=c
   ·subst hcc; exact ⟨_,hc'⟩
   ·obtain ⟨w2,z2⟩:=I.cell y c' e
    exact ⟨w2,z2.sameBut hs hcc⟩
  ·obtain ⟨e,n,ne,nf,d⟩:=I.pin p hp
   refine ⟨(hs.2 p.1 ?_).trans e,n,ne,nf,d⟩
   intro q
   rw [q,hoc] at e
   have q':oc=p.2:=Option.some.inj e
   exact d w' (by rw [← q']; exact hocd)
theorem wl {M:Model} {A:Around} {E:Value→Shared→Prop} {i:Nat} {x:Str} {v:V} {u:Value} {Q:Unit→Shared→Prop} (I:Inv X pins σ H s) (hN:X.N.Nodup) (hi:X.N[i]? = some x) (hx:Loc X.env.scope x) (r:RelV v u)
  (h:∀ s',Inv X pins (σ.set i (some v)) H s'→Q () s') (hf:X.fn x=true∨X.env.scope.names.lookup x=some .local:=by first | exact .inl rfl | exact .inr rfl | assumption):wpAny M A (storeName X.env x u) Q E s:=
 ip I hN hi hx r (fun s' I' _=>h s' I') hf
theorem Inv.call' {s':Shared} {ch:List Addr} (I:Inv X pins σ H s) (ho:s'.os=s.os) (u:Un (frs X.stack) ch H H' s.heap s'.heap) (hok:HOk X.prog X.w H' s'.heap) (hg:AllBare s'.gens)
  (hch:∀ b ∈ ch,(b ∈ X.ex∨X.s₀.heap.objs.size ≤ b)∧b ≠ X.env.locals∧(∀ x c,X.env.cells.lookup x=some c→c ≠ b)∧∀ p ∈ X.pn ++ pins,p.1 ≠ b):Inv X pins σ H' s':=by
 obtain ⟨h',g',d',t',o'⟩:=s'
 have e:o'=s.os:=ho
 subst e
 exact I.call (g':=g') (t':=t') (d':=d') u hok hg hch
end
abbrev XK:=Value→Option Addr→Hp→Prop
abbrev St:=List (Option V)
abbrev VK:=V→Hp→Prop
abbrev TE:=St→Hp→VK→Prop
abbrev TT:=St→Hp→(Bool→Hp→Prop)→Prop
abbrev TA:=St→Hp→(List V→Hp→Prop)→Prop
structure Ends where
 nx:St→Hp→Prop
 rt:VK
 bk:St→Hp→Prop:=fun _ _=>False
 ct:St→Hp→Prop:=fun _ _=>False
abbrev TS:=Ends→St→Hp→Prop
def EP (X:Cx) (pins:List (Addr × Obj)) (σ:St) (Q:VK) (u:Value) (s':Shared):Prop:=∃ v H',Inv X pins σ H' s'∧RelV v u∧Q v H'
def TP (X:Cx) (pins:List (Addr × Obj)) (σ:St) (Q:Bool→Hp→Prop) (b:Bool) (s':Shared):Prop:=∃ H',Inv X pins σ H' s'∧Q b H'
def AP (X:Cx) (pins:List (Addr × Obj)) (σ:St) (Q:List V→Hp→Prop) (us:List Value) (s':Shared):Prop:=∃ vs H',Inv X pins σ H' s'∧Vals vs us∧Q vs H'
def SP (X:Cx) (pins:List (Addr × Obj)) (D:Ends) (f:Flow) (s':Shared):Prop:=
 match f with
 | .next=>∃ σ' H',Inv X pins σ' H' s'∧D.nx σ' H'
 | .brk=>∃ σ' H',Inv X pins σ' H' s'∧D.bk σ' H'
 | .cont=>∃ σ' H',Inv X pins σ' H' s'∧D.ct σ' H'
 | .ret u=>∃ v σ' H',Inv X pins σ' H' s'∧RelV v u∧D.rt v H'
def PE (X:Cx) (e:Expr) (t:TE):Prop:=
 ∀ (pins:List (Addr × Obj)) (s:Shared) (σ:St) (H:Hp) (Q:VK),Inv X pins σ H s→t σ H Q→wpAny (model X.prog X.w) X.A (eval e X.env) (EP X pins σ Q) X.xe s
def PT (X:Cx) (e:Expr) (t:TT):Prop:=
 ∀ (pins:List (Addr × Obj)) (s:Shared) (σ:St) (H:Hp) (Q:Bool→Hp→Prop),Inv X pins σ H s→t σ H Q→wpAny (model X.prog X.w) X.A (isTrue e X.env (eval e X.env)) (TP X pins σ Q) X.xe s
def PW (X:Cx) (e:Expr) (t:TT):Prop:=
 ∀ (yD:Sem Value) (pins:List (Addr × Obj)) (s:Shared) (σ:St) (H:Hp) (Q:Bool→Hp→Prop),Inv X pins σ H s→t σ H Q→wpAny (model X.prog X.w) X.A (isTrue e X.env yD) (TP X pins σ Q) X.xe s
theorem PW.pt {X:Cx} {e:Expr} {t:TT} (h:PW X e t):PT X e t:=h _
def PA (X:Cx) (es:List Expr) (t:TA):Prop:=
 ∀ (pos:Pos) (pins:List (Addr × Obj)) (s:Shared) (σ:St) (H:Hp) (Q:List V→Hp→Prop),Inv X pins σ H s→t σ H Q→wpAny (model X.prog X.w) X.A (spliced (backTo pos (starEach es X.env))) (AP X pins σ Q) X.xe s
def PS (X:Cx) (st:Stmt) (t:TS):Prop:=
 ∀ (pins:List (Addr × Obj)) (s:Shared) (σ:St) (H:Hp) (D:Ends),Inv X pins σ H s→t D σ H→wpAny (model X.prog X.w) X.A (exec st X.env) (SP X pins D) X.xe s
def PSs (X:Cx) (st:List Stmt) (t:TS):Prop:=
 ∀ (pins:List (Addr × Obj)) (s:Shared) (σ:St) (H:Hp) (D:Ends),Inv X pins σ H s→t D σ H→wpAny (model X.prog X.w) X.A (execs st X.env) (SP X pins D) X.xe s
theorem thn {α:Type} {t:Sem α} {Q Q':α→Shared→Prop} {M:Model} {A:Around} {E:Value→Shared→Prop} {s:Shared} (h:wpAny M A t Q E s) (hQ:∀ a s,Q a s→Q' a s):wpAny M A t Q' E s:=wpAny_mono h hQ fun _ _ x=>x
end L2
namespace L2
open PySem PySem.Spec PyProof.Rows
section
variable {X:Cx}
theorem bin {a b:Expr} {ta tb:TE} (ha:PE X a ta) (hb:PE X b tb) {pins:List (Addr × Obj)} {s:Shared} {σ:St} {H:Hp} {R:V→V→Hp→Prop} (I:Inv X pins σ H s) (h:ta σ H fun x H1=>tb σ H1 fun y H2=>R x y H2)
  {α:Type} {Q:α→Shared→Prop} {f:Value→Value→Sem α}
  (hf:∀ v u s2 x y H2,Inv X pins σ H2 s2→RelV x v→RelV y u→R x y H2→wpAny (model X.prog X.w) X.A (f v u) Q X.xe s2):
  wpAny (model X.prog X.w) X.A (eval a X.env) (fun v s₁=>wpAny (model X.prog X.w) X.A (eval b X.env) (fun u s₂=>wpAny (model X.prog X.w) X.A (f v u) Q X.xe s₂) X.xe s₁) X.xe s:=by
 refine thn (ha pins s σ H _ I h) fun v s1 ⟨x,H1,I1,r1,q1⟩=>?_
 refine thn (hb pins s1 σ H1 _ I1 q1) fun u s2 ⟨y,H2,I2,r2,q2⟩=>?_
 exact hf v u s2 x y H2 I2 r1 r2 q2
def cR (i:Nat):TE:=fun σ H Q=>∃ v,σ[i]? = some (some v)∧Q v H
def tC (v:V):TE:=fun _ H Q=>Q v H
theorem xh {i:Nat} {x:Str} {pos:Pos} (hN:X.N[i]? = some x) (hv:Vis X.env.scope x) (hd:(x == ("__debug__":Str))=false:=by decide) (hcd:(x == ("__classdict__":Str))=false:=by decide):PE X (.Name x pos) (cR i):=by
 intro pins s σ H Q I h
 obtain ⟨v,e,h⟩:=h
 obtain ⟨m,hn,hl⟩:=I.loc
 obtain ⟨u,r,l⟩:=hl i x v hN e hv
 have fin:EP X pins σ Q u s:=⟨v,H,I,r,h⟩
 rcases l with ⟨hk,hm⟩ | ⟨hk,c,hc,hcell⟩
 ·exact wpAny_Name (wpAny_loadName_local I.ok.kind hk hn hm fin) hd
 ·rcases hk with hk | hk
  ·exact wpAny_Name (wpAny_loadName_cell I.ok.kind hk hc hcell fin) hd
  ·exact wpAny_Name (wpAny_loadName_free I.ok.kind hk hc hcell fin hcd) hd
theorem Yk {i j pos}:PE X (.Constant (.int i) j pos) (tC (.int i)):=fun _ _ _ H _ I h=>wpAny_Constant_int ⟨.int i,H,I.tok _,⟨_,rfl⟩,h⟩
theorem WX {b j pos}:PE X (.Constant (.bool b) j pos) (tC (.bl b)):=fun _ _ _ H _ I h=>Constant_bool ⟨.bl b,H,I,rfl,h⟩
theorem Yj {j pos}:PE X (.Constant .none j pos) (tC .non):=fun _ _ _ H _ I h=>Constant_none ⟨.non,H,I,rfl,h⟩
theorem Yg {x j pos}:PE X (.Constant (.str x) j pos) (tC (.str x)):=fun _ _ _ H _ I h=>Calls.Constant_str ⟨.str x,H,I.tok _,⟨_,rfl⟩,h⟩
def Gl (X:Cx) (x:Str):Prop:=X.env.kindOf x=some .globalImplicit
theorem x6 {E:Value→Shared→Prop} {pins:List (Addr × Obj)} {s:Shared} {σ:St} {H:Hp} {x:Str} {u:Value} {pos:Pos} {Q:Value→Shared→Prop} (I:Inv X pins σ H s) (hg:Gl X x) (hm:X.mg x=some u) (h:Q u s)
  (hd:(x == ("__debug__":Str))=false:=by decide):wpAny (model X.prog X.w) X.A (eval (.Name x pos) X.env) Q E s:=
 Calls.Name_function_global I.ok.kind hg (Calls.loadGlobal_global (by rw [I.ok.glob]; exact I.mod.glob.keeps I.bk) hm h) hd
theorem xy {E:Value→Shared→Prop} {pins:List (Addr × Obj)} {s:Shared} {σ:St} {H:Hp} {x:Str} {u:Value} {pos:Pos} {Q:Value→Shared→Prop} (I:Inv X pins σ H s) (hg:Gl X x) (hm:X.mg x=none) (hv:bootBuiltins x=some u) (h:Q u s)
  (hn:x ≠ "__name__":=by decide) (hd:(x == ("__debug__":Str))=false:=by decide):wpAny (model X.prog X.w) X.A (eval (.Name x pos) X.env) Q E s:=by
 obtain ⟨mb,h1,h2⟩:=I.mod.blt
 exact Calls.Name_function_global I.ok.kind hg (Calls.loadGlobal_builtin (by rw [I.ok.glob]; exact I.mod.glob.keeps I.bk) hm (by rw [I.ok.blt]; exact h1.keeps I.bk) ((h2 x hn).trans hv) h) hd
theorem jA {x:Str} {v:V} {u:Value} {pos:Pos} (hg:Gl X x) (hm:X.mg x=some u) (r:RelV v u) (hd:(x == ("__debug__":Str))=false:=by decide):PE X (.Name x pos) (tC v):=
 fun _ _ _ H _ I h=>x6 I hg hm ⟨v,H,I,r,h⟩ hd
theorem bj {x:Str} {v:V} {u:Value} {pos:Pos} (hg:Gl X x) (hm:X.mg x=none) (hv:bootBuiltins x=some u) (r:RelV v u) (hn:x ≠ "__name__":=by decide) (hd:(x == ("__debug__":Str))=false:=by decide):PE X (.Name x pos) (tC v):=
 fun _ _ _ H _ I h=>xy I hg hm hv ⟨v,H,I,r,h⟩ hn hd
variable {a b:Expr} {ta tb:TE} {pos:Pos}
def PC (X:Cx) (op:CmpOp) (a b:Expr) (t:TE):Prop:=
 ∀ (pins:List (Addr × Obj)) (s:Shared) (σ:St) (H:Hp) (Q:VK),Inv X pins σ H s→t σ H Q→
  wpAny (model X.prog X.w) X.A (eval a X.env) (fun v s₁=>wpAny (model X.prog X.w) X.A (eval b X.env) (fun u s₂=>wpAny (model X.prog X.w) X.A (compareOp op v u) (EP X pins σ Q) X.xe s₂) X.xe s₁) X.xe s
theorem dj (b:Expr) {op:CmpOp} (h:op ≠ .In) (h2:op ≠ .NotIn):behindInMarks op b=false:=by
 have e1:(op == CmpOp.In)=false:=by cases op <;> first | rfl | exact absurd rfl h
 have e2:(op == CmpOp.NotIn)=false:=by cases op <;> first | rfl | exact absurd rfl h2
 cases b <;> simp [behindInMarks,e1,e2]
def WG (ta:TE):TE:=fun σ H Q=>ta σ H fun x H1=>Q (.bl (decide (x=.non))) H1
theorem RelV.none_iff {x:V} {v:Value} (r:RelV x v):(v == Value.none)=decide (x=.non):=by
 cases x with
 | non=>cases r; rfl
 | bl _=>cases r; rfl
 | int _=>obtain ⟨t,rfl⟩:=r; rfl
 | str _=>obtain ⟨t,rfl⟩:=r; rfl
 | byt _=>obtain ⟨t,rfl⟩:=r; rfl
 | flt _=>obtain ⟨t,rfl⟩:=r; rfl
 | ref _=>cases r; rfl
 | ty _=>cases r; rfl
theorem Yo {j pos'} (ha:PE X a ta):PC X .Is a (.Constant .none j pos') (WG ta):=by
 intro pins s σ H Q I h
 refine thn (ha pins s σ H _ I h) fun v s1 ⟨x,H1,I1,r1,q1⟩=>?_
 exact Constant_none (is_none_gen ⟨.bl _,H1,I1,by rw [r1.none_iff]; rfl,q1⟩)
def tB (t:TE):TT:=fun σ H Q=>t σ H fun x H1=>∃ c,x=.bl c∧Q c H1
theorem Z9 {op:CmpOp} {t:TE} (h:PC X op a b t) (h1:behindInMarks op b=false:=by first | exact dj _ (by decide) (by decide) | rfl):PT X (.Compare a [op] [b] pos) (tB t):=by
 intro pins s σ H Q I hw
 refine wpAny_isTrue_Compare1 (thn (h pins s σ H _ I hw) fun v s1 h1=>thn h1 fun u s2 h2=>thn h2 fun c s3 ⟨x,H1,I1,r1,q1⟩=>?_) h1
 obtain ⟨d,rfl,q⟩:=q1
 cases r1
 exact wpAny_truthy_bool ⟨H1,I1,q⟩
theorem Z7 {e:Expr} {t:TE} (h:PE X e t) (he:∀ yD,isTrue e X.env yD=(do let v ← yD; standAt e.pos; holding [v] (truthy v)):=by intro _; rfl):PT X e (tB t):=by
 intro pins s σ H Q I hw
 refine isTrue_plain (thn (h pins s σ H _ I hw) fun v s1 ⟨x,H1,I1,r1,q1⟩=>?_) (he _)
 obtain ⟨d,rfl,q⟩:=q1
 cases r1
 exact wpAny_truthy_bool ⟨H1,I1,q⟩
variable {tA tB':TT} {yz:List Expr}
def QA (t u:TT):TT:=fun σ H Q=>t σ H fun c H1=>if c=true then u σ H1 Q else Q false H1
def tOr (t u:TT):TT:=fun σ H Q=>t σ H fun c H1=>if c=true then Q true H1 else u σ H1 Q
def Qu (t:TT):TT:=fun σ H Q=>t σ H fun c H1=>Q (!c) H1
theorem c7 (ha:PT X a tA):PW X (.BoolOp .And [a] pos) tA:=by
 intro wh pins s σ H Q I h
 refine isTrue_and (thn (ha pins s σ H Q I h) fun c s1 e=>?_)
 cases c with
 | true=>exact isTrue_and_nil e
 | false=>exact e
theorem Z5 (ha:PT X a tA):PW X (.BoolOp .Or [a] pos) tA:=by
 intro wh pins s σ H Q I h
 refine isTrue_or (thn (ha pins s σ H Q I h) fun c s1 e=>?_)
 cases c with
 | false=>exact isTrue_or_nil e
 | true=>exact e
theorem Z6 (ha:PT X a tA) (hb:PW X (.BoolOp .And (b :: yz) pos) tB'):PW X (.BoolOp .And (a :: b :: yz) pos) (QA tA tB'):=by
 intro wh pins s σ H Q I h
 refine isTrue_and (thn (ha pins s σ H _ I h) fun c s1 ⟨H1,I1,q1⟩=>?_)
 cases c with
 | true=>exact hb wh pins s1 σ H1 Q I1 q1
 | false=>exact ⟨H1,I1,q1⟩
theorem WS (ha:PT X a tA) (hb:PW X (.BoolOp .Or (b :: yz) pos) tB'):PW X (.BoolOp .Or (a :: b :: yz) pos) (tOr tA tB'):=by
 intro wh pins s σ H Q I h
 refine isTrue_or (thn (ha pins s σ H _ I h) fun c s1 ⟨H1,I1,q1⟩=>?_)
 cases c with
 | true=>exact ⟨H1,I1,q1⟩
 | false=>exact hb wh pins s1 σ H1 Q I1 q1
theorem Z8 (ha:PT X a tA):PT X (.UnaryOp .Not a pos) (Qu tA):=by
 intro pins s σ H Q I h
 exact isTrue_not (ha pins s σ H (fun c H1=>Q (!c) H1) I h)
def WL (ta tb:TE):TE:=fun σ H Q=>ta σ H fun x H1=>∃ c,x=.bl c∧if c=true then tb σ H1 Q else Q (.bl false) H1
def Qt (ta tb:TE):TE:=fun σ H Q=>ta σ H fun x H1=>∃ c,x=.bl c∧if c=true then Q (.bl true) H1 else tb σ H1 Q
def WC (ta:TE):TE:=fun σ H Q=>ta σ H fun x H1=>∃ c,x=.bl c∧Q (.bl (!c)) H1
theorem Yh {op} {t:TE} (h:PE X a t):PE X (.BoolOp op [a] pos) t:=fun pins s σ H Q I hw=>BoolOp_one (h pins s σ H Q I hw)
theorem Ym (ha:PE X a ta) (hb:PE X (.BoolOp .And (b :: yz) pos) tb):PE X (.BoolOp .And (a :: b :: yz) pos) (WL ta tb):=by
 intro pins s σ H Q I h
 refine BoolOp_and (thn (ha pins s σ H _ I h) fun v s1 ⟨x,H1,I1,r1,q1⟩=>?_)
 obtain ⟨c,rfl,q1⟩:=q1
 cases r1
 refine wpAny_truthy_bool ?_
 cases c with
 | true=>exact hb pins s1 σ H1 Q I1 q1
 | false=>exact ⟨.bl false,H1,I1,rfl,q1⟩
theorem WV (ha:PE X a ta) (hb:PE X (.BoolOp .Or (b :: yz) pos) tb):PE X (.BoolOp .Or (a :: b :: yz) pos) (Qt ta tb):=by
 intro pins s σ H Q I h
 refine BoolOp_or (thn (ha pins s σ H _ I h) fun v s1 ⟨x,H1,I1,r1,q1⟩=>?_)
 obtain ⟨c,rfl,q1⟩:=q1
 cases r1
 refine wpAny_truthy_bool ?_
 cases c with
 | false=>exact hb pins s1 σ H1 Q I1 q1
 | true=>exact ⟨.bl true,H1,I1,rfl,q1⟩
theorem Yi (ha:PE X a ta):PE X (.UnaryOp .Not a pos) (WC ta):=by
 intro pins s σ H Q I h
 refine UnaryOp_ (thn (ha pins s σ H _ I h) fun v s1 ⟨x,H1,I1,r1,q1⟩=>?_)
 obtain ⟨c,rfl,q1⟩:=q1
 cases r1
 exact not_of (wpAny_truthy_bool ⟨.bl (!c),H1,I1,rfl,q1⟩)
end
end L2
namespace L2
open PySem PySem.Spec PyProof.Rows
def SqL (K:PySem.W.Frag) (H:Hp) (a:Addr) (xs:List V):Prop:=
 Rd H a (.lst xs)∨
  ∃ (o:Obj) (its:Array Value) (n:Nat),K.lookup a=some o∧o.cls=.type "list"∧o.dict=none∧o.data=.seq its n∧its.size ≤ sizeLine∧Vals xs its.toList
def SqT (K:PySem.W.Frag) (H:Hp) (a:Addr) (xs:List V):Prop:=
 Rd H a (.tup xs)∨
  ∃ (o:Obj) (its:Array Value) (n:Nat),K.lookup a=some o∧o.cls=.type "tuple"∧o.data=.seq its n∧its.size ≤ sizeLine∧Vals xs its.toList
def Oe:Value→Option V
 | .none=>some .non
 | .bool b=>some (.bl b)
 | .int i _=>some (.int i)
 | .str x _=>some (.str x)
 | .bytes b _=>some (.byt b)
 | .float b _=>some (.flt b)
 | .ref a=>some (.ref a)
 | .type n=>some (.ty n)
 | _=>none
theorem RelV.abs {x:V} {u:Value} (r:RelV x u):Oe u=some x:=by
 cases x with
 | non=>cases r; rfl
 | bl _=>cases r; rfl
 | int _=>obtain ⟨t,rfl⟩:=r; rfl
 | str _=>obtain ⟨t,rfl⟩:=r; rfl
 | byt _=>obtain ⟨t,rfl⟩:=r; rfl
 | flt _=>obtain ⟨t,rfl⟩:=r; rfl
 | ref _=>cases r; rfl
 | ty _=>cases r; rfl
theorem RelV.inj {x y:V} {u:Value} (r:RelV x u) (q:RelV y u):x=y:=Option.some.inj (r.abs.symm.trans q.abs)
theorem Vals.inj:∀ {xs ys:List V} {us:List Value},Vals xs us→Vals ys us→xs=ys
 | _,_,_,.nil,.nil=>rfl
 | _,_,_,.cons r t,.cons r' t'=>by rw [r.inj r',Vals.inj t t']
section
variable {X:Cx} {pins:List (Addr × Obj)} {σ:St} {H:Hp} {s:Shared} {a:Addr} {xs ys:List V}
theorem SqL.of {K:PySem.W.Frag} (h:H a=some (.lst xs)):SqL K H a xs:=.inl (.inl h)
theorem SqT.of {K:PySem.W.Frag} (h:H a=some (.tup xs)):SqT K H a xs:=.inl (.inl h)
theorem Inv.list (I:Inv X pins σ H s) (h:SqL X.K H a xs):∃ its:List Value,Vals xs its∧PlainL s.heap a its.toArray∧xs.length ≤ sizeLine:=by
 rcases h with h | ⟨o,its,n,hk,hc,hd,hs,hz,r⟩
 ·obtain ⟨z,its,n,r,e⟩:=h.ok I.hok
  exact ⟨its,r,⟨_,n,e,rfl,rfl,rfl⟩,z⟩
 ·refine ⟨its.toList,r,⟨o,n,I.kIn a o hk,hc,hd,by simpa using hs⟩,?_⟩
  have e:=r.length
  simp only [Array.length_toList] at e
  omega
theorem Inv.tuple (I:Inv X pins σ H s) (h:SqT X.K H a xs):∃ its:List Value,Vals xs its∧IsTup s.heap a its.toArray∧xs.length ≤ sizeLine:=by
 rcases h with h | ⟨o,its,n,hk,hc,hs,hz,r⟩
 ·obtain ⟨z,its,r,p⟩:=h.ok I.hok
  exact ⟨its,r,p,z⟩
 ·refine ⟨its.toList,r,⟨o,I.kIn a o hk,hc,n,by simpa using hs⟩,?_⟩
  have e:=r.length
  simp only [Array.length_toList] at e
  omega
theorem Inv.list_inj (I:Inv X pins σ H s) (h:SqL X.K H a xs) (h':SqL X.K H a ys):xs=ys:=by
 obtain ⟨its,r,⟨o,n,e,_,_,d⟩,_⟩:=I.list h
 obtain ⟨its',r',⟨o',n',e',_,_,d'⟩,_⟩:=I.list h'
 rw [e] at e'; cases e'
 rw [d] at d'
 injection d' with d1 _
 have:its=its':=by simpa using congrArg Array.toList d1
 subst this
 exact r.inj r'
end
abbrev Cx.wish (X:Cx) (E:Value→Shared→Prop):Cx:={ X with xe:=E }
abbrev Cx.nox (X:Cx):Cx:=X.wish fun _ _=>False
theorem Cx.Ok.wish {X:Cx} (ok:X.Ok) (E:Value→Shared→Prop):(X.wish E).Ok:=
 ⟨ok.mod,ok.kind,ok.glob,ok.blt,ok.above,ok.inj,ok.has,ok.cab,ok.hd,ok.frames,ok.stk,ok.exf,ok.bs,ok.bsz,ok.noex,ok.exfs,ok.funs,ok.frf⟩
theorem Cx.Ok.unwish {X:Cx} {E:Value→Shared→Prop} (ok:(X.wish E).Ok):X.Ok:=
 ⟨ok.mod,ok.kind,ok.glob,ok.blt,ok.above,ok.inj,ok.has,ok.cab,ok.hd,ok.frames,ok.stk,ok.exf,ok.bs,ok.bsz,ok.noex,ok.exfs,ok.funs,ok.frf⟩
section
variable {X:Cx} {pins:List (Addr × Obj)} {σ:St} {H:Hp} {s:Shared} {E:Value→Shared→Prop}
theorem Inv.wish (I:Inv X pins σ H s) (E:Value→Shared→Prop):Inv (X.wish E) pins σ H s:=⟨I.ok.wish E,I.os,I.bare,I.base,I.loc,I.cell,I.free,I.freeC,I.pin,I.hok,I.len⟩
theorem Inv.unwish (I:Inv (X.wish E) pins σ H s):Inv X pins σ H s:=⟨I.ok.unwish,I.os,I.bare,I.base,I.loc,I.cell,I.free,I.freeC,I.pin,I.hok,I.len⟩
theorem SP.unwish {D:Ends} {f:Flow} {s':Shared} (h:SP (X.wish E) pins D f s'):SP X pins D f s':=by
 cases f with
 | next=>obtain ⟨σ',H',I,q⟩:=h; exact ⟨σ',H',I.unwish,q⟩
 | brk=>obtain ⟨σ',H',I,q⟩:=h; exact ⟨σ',H',I.unwish,q⟩
 | cont=>obtain ⟨σ',H',I,q⟩:=h; exact ⟨σ',H',I.unwish,q⟩
 | ret u=>obtain ⟨v,σ',H',I,r,q⟩:=h; exact ⟨v,σ',H',I.unwish,r,q⟩
theorem PE.nox {e:Expr} {t:TE} (h:PE X.nox e t):PE X e t:=fun pins s σ H Q I hw=>
 wpAny_mono (h pins s σ H Q (I.wish _) hw) (fun _ _ ⟨v,H',I',r,q⟩=>⟨v,H',I'.unwish,r,q⟩) fun _ _ z=>False.elim z
theorem PT.nox {e:Expr} {t:TT} (h:PT X.nox e t):PT X e t:=fun pins s σ H Q I hw=>
 wpAny_mono (h pins s σ H Q (I.wish _) hw) (fun _ _ ⟨H',I',q⟩=>⟨H',I'.unwish,q⟩) fun _ _ z=>False.elim z
theorem PSs.nox {st:List Stmt} {t:TS} (h:PSs X.nox st t):PSs X st t:=fun pins s σ H D I hw=>
 wpAny_mono (h pins s σ H D (I.wish _) hw) (fun _ _ q=>q.unwish) fun _ _ z=>False.elim z
end
section
variable {X:Cx} {st:Stmt} {yz:List Stmt} {t u:TS} {e:Expr} {te:TE} {pos:Pos}
def WE:TS:=fun D σ H=>D.nx σ H
def Qr (t u:TS):TS:=fun D σ H=>t { D with nx:=u D } σ H
theorem c9:PSs X [] WE:=fun _ _ σ H _ I h=>wpAny_execs_nil ⟨σ,H,I,h⟩
theorem nD (h1:PS X st t) (h2:PSs X yz u):PSs X (st :: yz) (Qr t u):=by
 intro pins s σ H D I h
 refine wpAny_execs_cons (thn (h1 pins s σ H { D with nx:=u D } I h) fun f s1 q=>?_)
 cases f with
 | next=>
  obtain ⟨σ',H',I',q⟩:=q
  exact h2 pins s1 σ' H' D I' q
 | ret v=>exact q
 | brk=>exact q
 | cont=>exact q
theorem xY (h1:PS X st t):PSs X [st] t:=by
 intro pins s σ H D I h
 refine wpAny_execs_cons (thn (h1 pins s σ H D I h) fun f s1 q=>?_)
 cases f with
 | next=>exact wpAny_execs_nil q
 | ret v=>exact q
 | brk=>exact q
 | cont=>exact q
theorem Inv.quiet {pins:List (Addr × Obj)} {σ:St} {H:Hp} {s:Shared} (I:Inv X pins σ H s):interactive X.env=false:=by simp [interactive,I.ok.kind]
def WH (te:TE):TS:=fun D σ H=>te σ H fun _ H1=>D.nx σ H1
theorem sj (he:PE X e te) (hs:swapsWith e none pos.line X.env=pure false:=by rfl):PS X (.Expr e pos) (WH te):=by
 intro pins s σ H D I h
 exact wpAny_Expr_any (thn (he pins s σ H _ I h) fun v s1 ⟨x,H1,I1,r1,q1⟩=>⟨σ,H1,I1,q1⟩) I.quiet hs
def Qs (te:TE):TS:=fun D σ H=>te σ H D.rt
theorem oh (he:PE X e te):PS X (.Return (some e) pos) (Qs te):=by
 intro pins s σ H D I h
 exact wpAny_Return_some (thn (he pins s σ H _ I h) fun v s1 ⟨x,H1,I1,r1,q1⟩=>⟨x,σ,H1,I1,r1,q1⟩)
def Qw (c:TT) (t u:TS):TS:=fun D σ H=>c σ H fun b H1=>if b=true then t D σ H1 else u D σ H1
theorem WT {c:Expr} {a b:List Stmt} {tc:TT} (hc:PT X c tc) (ha:PSs X a t) (hb:PSs X b u):PS X (.If c a b pos) (Qw tc t u):=by
 intro pins s σ H D I h
 refine wpAny_If (thn (hc pins s σ H _ I h) fun d s1 ⟨H1,I1,q1⟩=>?_)
 cases d with
 | true=>exact ha pins s1 σ H1 D I1 q1
 | false=>exact hb pins s1 σ H1 D I1 q1
def Z0:TS:=fun _ _ _=>False
theorem fD:PS X st Z0:=fun _ _ _ _ _ _ h=>h.elim
end
abbrev TG:=V→St→Hp→(St→Hp→Prop)→Prop
abbrev TGs:=List V→St→Hp→(St→Hp→Prop)→Prop
def PG (X:Cx) (target:Expr) (t:TG):Prop:=
 ∀ (pins:List (Addr × Obj)) (s:Shared) (σ:St) (H:Hp) (v:V) (u:Value) (Q:St→Hp→Prop),Inv X pins σ H s→RelV v u→t v σ H Q→
  wpAny (model X.prog X.w) X.A (assign target X.env u) (fun _ s'=>∃ σ' H',Inv X pins σ' H' s'∧Q σ' H') X.xe s
def PGs (X:Cx) (ts:List Expr) (t:TGs):Prop:=
 ∀ (pins:List (Addr × Obj)) (s:Shared) (σ:St) (H:Hp) (vs:List V) (us:List Value) (Q:St→Hp→Prop),Inv X pins σ H s→Vals vs us→t vs σ H Q→
  wpAny (model X.prog X.w) X.A (assignInOrder ((assignEach ts X.env).map (·.2)) us) (fun _ s'=>∃ σ' H',Inv X pins σ' H' s'∧Q σ' H') X.xe s
abbrev Ws:=V→V→V→Hp→(Hp→Prop)→Prop
def Qo (X:Cx) (t:Ws):Prop:=
 ∀ (pins:List (Addr × Obj)) (s:Shared) (σ:St) (H:Hp) (o i v:V) (ov iv u:Value) (Q:Hp→Prop),Inv X pins σ H s→RelV o ov→RelV i iv→RelV v u→t o i v H Q→
  wpAny (model X.prog X.w) X.A (setItem ov iv u) (fun _ s'=>∃ H',Inv X pins σ H' s'∧Q H') X.xe s
section
variable {X:Cx} {pos:Pos}
def jH (i:Nat):TG:=fun v σ H Q=>Q (σ.set i (some v)) H
theorem zX {i:Nat} {x:Str} (hN:X.N.Nodup) (hi:X.N[i]? = some x) (hx:Loc X.env.scope x) (hf:X.fn x=true∨X.env.scope.names.lookup x=some .local:=by first | exact .inl rfl | exact .inr rfl | assumption):PG X (.Name x pos) (jH i):=by
 intro pins s σ H v u Q I r h
 exact wpAny_assign_Name (wl I hN hi hx r (fun s' I'=>⟨_,H,I',h⟩) hf)
def VM:TGs:=fun vs σ H Q=>vs=[]∧Q σ H
def dG (t:TG) (u:TGs):TGs:=fun vs σ H Q=>∃ v r,vs=v :: r∧t v σ H fun σ' H'=>u r σ' H' Q
theorem vN:PGs X [] VM:=by
 intro pins s σ H vs us Q I r h
 obtain ⟨e,h⟩:=h
 subst e
 cases r
 exact assignInOrder_nil ⟨σ,H,I,h⟩
theorem yl {e:Expr} {es:List Expr} {t:TG} {u:TGs} (h1:PG X e t) (h2:PGs X es u)
  (hs:(assignEach (e :: es) X.env).map (·.2)=assign e X.env :: (assignEach es X.env).map (·.2):=by rfl):PGs X (e :: es) (dG t u):=by
 intro pins s σ H vs us Q I r h
 obtain ⟨v,vr,e1,h⟩:=h
 subst e1
 cases r with
 | cons r rr=>
  rw [hs]
  refine assignInOrder_cons (thn (h1 pins s σ H _ _ _ I r h) fun _ s1 ⟨σ1,H1,I1,q1⟩=>?_)
  exact h2 pins s1 σ1 H1 _ _ Q I1 rr q1
def VL (K:PySem.W.Frag) (n:Nat) (t:TGs):TG:=fun v σ H Q=>∃ a xs,v=.ref a∧SqT K H a xs∧xs.length=n∧t xs σ H Q
theorem sS {es:List Expr} {k:Nat} {t:TGs} {n:Nat} (hc:X.calm=true) (h:PGs X es t)
  (hn:(assignEach es X.env).length=n:=by rfl) (hst:(assignEach es X.env).findIdx? (·.1)=none:=by rfl):PG X (.Tuple es k pos) (VL X.K n t):=by
 intro pins s σ H v u Q I r hw
 obtain ⟨a,xs,e1,hq,hl,hw⟩:=hw
 subst e1
 cases r
 obtain ⟨its,rv,ht,hz⟩:=I.tuple hq
 refine assign_Tuple_tuple (I.ok.hd hc) ht (by simp [hn,← hl,rv.length]) hst fun h' hx=>?_
 have I1:Inv X pins σ H { s with heap:=h' }:=I.kept (t':=s.toks) fun b o e=>hx b o (Nat.ne_of_lt (Heap.lt_size e)) e
 exact h pins _ σ H xs _ Q I1 (by simpa using rv) hw
def PV (to ti:TE) (t:Ws):TG:=fun v σ H Q=>to σ H fun o H1=>ti σ H1 fun i H2=>t o i v H2 fun H3=>Q σ H3
theorem Ye {o i:Expr} {to ti:TE} {t:Ws} (ho:PE X o to) (hi:PE X i ti) (hs:Qo X t)
  (ha:∀ v,assign (.Subscript o i pos) X.env v=(do
   let ov ← holding [v] (eval o X.env)
   let iv ← holding [v,ov] (eval i X.env)
   standAt pos
   holding [v,ov,iv] (setItem ov iv v)
   release [v,ov,iv] []):=by intro _; rfl):PG X (.Subscript o i pos) (PV to ti t):=by
 intro pins s σ H v u Q I r h
 rw [ha]
 refine wpAny_bind (wpAny_holding (thn (ho pins s σ H _ I h) fun ov s1 ⟨x,H1,I1,r1,q1⟩=>?_))
 refine wpAny_bind (wpAny_holding (thn (hi pins s1 σ H1 _ I1 q1) fun iv s2 ⟨y,H2,I2,r2,q2⟩=>?_))
 refine wpAny_bind (wpAny_standAt (wpAny_bind (wpAny_holding (thn (hs pins s2 σ H2 x y v ov iv u _ I2 r1 r2 r q2) fun _ s3 ⟨H3,I3,q3⟩=>?_))))
 exact wpAny_release ⟨σ,H3,I3,q3⟩
def WK (te:TE) (g:TG):TS:=fun D σ H=>te σ H fun x H1=>g x σ H1 D.nx
theorem lF {tg e:Expr} {te:TE} {g:TG} (he:PE X e te) (hg:PG X tg g) (hs:swapsWithSole [tg] e pos.line X.env=pure false:=by rfl) (hw:swappedStores [tg] e X.env=pure none:=by rfl)
  (h1:(assignEach [tg] X.env).map (·.2)=[assign tg X.env]:=by rfl):PS X (.Assign [tg] e pos) (WK te g):=by
 intro pins s σ H D I h
 refine wpAny_Assign_stores (thn (he pins s σ H _ I h) fun v s1 ⟨x,H1,I1,r1,q1⟩=>?_) hs hw
 rw [h1]
 exact thn (hg pins s1 σ H1 x v _ I1 r1 q1) fun _ s2 q=>q
theorem fB {i:Nat} {x:Str} {e:Expr} {te:TE} {pos':Pos} (hN:X.N.Nodup) (hi:X.N[i]? = some x) (hx:Loc X.env.scope x) (he:PE X e te) (hs:swapsWith e (some (.Name x pos')) pos.line X.env=pure false:=by rfl) (hf:X.fn x=true∨X.env.scope.names.lookup x=some .local:=by first | exact .inl rfl | exact .inr rfl | assumption):
  PS X (.Assign [.Name x pos'] e pos) (WK te (jH i)):=by
 intro pins s σ H D I h
 refine wpAny_Assign_Name (thn (he pins s σ H _ I h) fun v s1 ⟨y,H1,I1,r1,q1⟩=>?_) hs
 exact wl I1 hN hi hx r1 (fun s2 I2=>⟨_,H1,I2,q1⟩) hf
end
section
variable {X:Cx} {pos:Pos}
def ZZ (c:TT) (tb:TS):TS:=fun D σ H=>∃ W:Nat→St→Hp→Prop,(∃ m,W m σ H)∧∀ m σ H,W m σ H→
 c σ H fun b H1=>if b=true then ∃ N:St→Hp→Prop,(∀ σ' H',N σ' H'→∃ m',m' < m∧W m' σ' H')∧tb { D with nx:=N,ct:=N,bk:=D.nx } σ H1 else D.nx σ H1
theorem fA {c:Expr} {body:List Stmt} {tc:TT} {tb:TS} (hp:PassesOwn (model X.prog X.w) X.A X.env X.xe) (hc:PT X c tc) (hb:PSs X body tb):PS X (.While c body [] pos) (ZZ tc tb):=by
 intro pins s σ H D I h
 obtain ⟨W,⟨m0,w0⟩,turn⟩:=h
 refine wpAny_While (codeAny_whileLoop (fun n s'=>∃ σ' H',Inv X pins σ' H' s'∧W n σ' H') ?_ m0 ⟨σ,H,I,w0⟩)
 rintro n s1 ⟨σ1,H1,I1,w1⟩
 refine wpAny_passesOwn hp (thn (hc pins s1 σ1 H1 _ I1 (turn n σ1 H1 w1)) fun b s2 ⟨H2,I2,q2⟩=>?_)
 cases b with
 | true=>
  obtain ⟨N,hN,q2⟩:=q2
  rw [if_pos rfl]
  refine wpAny_passesOwn hp (thn (hb pins s2 σ1 H2 _ I2 q2) fun f s3 q3=>?_)
  cases f with
  | next=>
   obtain ⟨σ3,H3,I3,n3⟩:=q3
   obtain ⟨m',hm,w3⟩:=hN σ3 H3 n3
   exact ⟨m',hm,σ3,H3,I3,w3⟩
  | cont=>
   obtain ⟨σ3,H3,I3,n3⟩:=q3
   obtain ⟨m',hm,w3⟩:=hN σ3 H3 n3
   exact ⟨m',hm,σ3,H3,I3,w3⟩
  | brk=>exact q3
  | ret v=>exact q3
 | false=>
  rw [if_neg Bool.false_ne_true]
  exact wpAny_execs_nil ⟨σ1,H2,I2,q2⟩
end
structure It where
 go:Nat→Hp→Prop
 yld:Nat→Hp→V→Hp→Prop
 stop:Nat→Hp→Prop
def vJ (X:Cx) (pins:List (Addr × Obj)) (H:Hp) (b:Addr):Prop:=
 H b=none∧b ≠ X.env.locals∧b ∉ X.fs∧(b ∈ X.ex∨X.s₀.heap.objs.size ≤ b)∧(∀ x c,X.env.cells.lookup x=some c→c ≠ b)∧∀ p ∈ X.pn ++ pins,p.1 ≠ b
theorem Inv.fpOk {X:Cx} {pins:List (Addr × Obj)} {σ:St} {H H':Hp} {s:Shared} {b:Addr} (I:Inv X pins σ H s) (hb:s.heap.objs.size ≤ b) (hn:H' b=none):vJ X pins H' b:=by
 refine ⟨hn,Nat.ne_of_gt (Nat.lt_of_lt_of_le I.lt hb),I.nofs hb,.inr (Nat.le_trans I.sz hb),fun x c e z=>?_,fun p hp z=>?_⟩
 ·obtain ⟨v,q⟩:=I.cell x c e
  exact absurd (Nat.lt_of_lt_of_le q.lt (by rw [z]; exact hb)) (Nat.lt_irrefl _)
 ·exact absurd (Nat.lt_of_lt_of_le (Heap.lt_size (I.pin p hp).1) (by rw [z]; exact hb)) (Nat.lt_irrefl _)
structure o3 (P:Program) (w:World) (K:PySem.W.Frag) (tg:Expr) (J:It) (fp:List Addr) (it:Addr) (tn:Nat→Heap→Prop):Prop where
 mem:it ∈ fp
 obj:∀ i h,tn i h→∀ b ∈ fp,∃ o,h.get? b=some o∧∀ v,o.data ≠ .cell v
 keep:∀ i h h',tn i h→(∀ b ∈ fp,∀ o,h.get? b=some o→h'.get? b=some o)→tn i h'
 item:∀ (X:Cx),X.prog=P→X.w=w→X.K=K→X.calm=true→∀ (i:Nat) (pins:List (Addr × Obj)) (s:Shared) (σ:St) (H:Hp) (E:Value→Shared→Prop),Inv X pins σ H s→(∀ b ∈ fp,vJ X pins H b)→tn i s.heap→J.go i H→
  wpAny (model P w) X.A (pyNext (.ref it)) (fun r s1=>∃ u,r=some u∧
   wpAny (model P w) X.A (letOwnedTupleGo tg (.ref it) u) (fun _ s2=>∃ x H',Inv X pins σ H' s2∧RelV x u∧J.yld i H x H'∧tn (i + 1) s2.heap∧∀ b ∈ fp,H' b=none) E s1) E s
 done:∀ (X:Cx),X.prog=P→X.w=w→X.K=K→X.calm=true→∀ (i:Nat) (pins:List (Addr × Obj)) (s:Shared) (σ:St) (H:Hp) (E:Value→Shared→Prop),Inv X pins σ H s→(∀ b ∈ fp,vJ X pins H b)→tn i s.heap→J.stop i H→
  wpAny (model P w) X.A (pyNext (.ref it)) (fun r s1=>r=none∧Inv X pins σ H s1) E s
 self:∀ (A:Around) (i:Nat) (s:Shared) (Q:Value→Shared→Prop) (E:Value→Shared→Prop),tn i s.heap→Q (.ref it) s→wpAny (model P w) A (pyIter (.ref it)) Q E s
abbrev TI:=St→Hp→(It→Hp→Prop)→Prop
def PIE (X:Cx) (pins:List (Addr × Obj)) (σ:St) (tg:Expr) (R:It→Hp→Prop) (itv:Value) (s2:Shared):Prop:=
 ∃ (it:Addr) (fp:List Addr) (tn:Nat→Heap→Prop) (J:It) (H':Hp),itv=.ref it∧Inv X pins σ H' s2∧o3 X.prog X.w X.K tg J fp it tn∧tn 0 s2.heap∧(∀ b ∈ fp,vJ X pins H' b)∧R J H'
def PI (X:Cx) (tg iter:Expr) (wi:TI):Prop:=
 ∀ (pins:List (Addr × Obj)) (s:Shared) (σ:St) (H:Hp) (R:It→Hp→Prop),Inv X pins σ H s→wi σ H R→
  wpAny (model X.prog X.w) X.A (eval iter X.env) (fun v s1=>wpAny (model X.prog X.w) X.A (pyIter v) (PIE X pins σ tg R) X.xe s1) X.xe s
theorem jG {M:Model} {A:Around} {E:Value→Shared→Prop} {s:Shared} {tg:Expr} {it:Addr} {u:Value} {o:Obj} {n:String} {vs:Array Value} {Q:Unit→Shared→Prop} (ho:s.heap.get? it=some o) (hc:o.cls=.type n) (hd:o.data=.fields vs)
  (hn:["enumerate","zip","dict_itemiterator","dict_reverseitemiterator","odict_iterator","itertools.zip_longest","itertools.pairwise"].contains n=false) (hQ:Q () s):wpAny M A (letOwnedTupleGo tg (.ref it) u) Q E s:=by
 unfold letOwnedTupleGo
 cases tg <;> first
  | exact wpAny_pure hQ
  | (cases u <;> first
    | exact wpAny_pure hQ
    | (refine wpAny_bind (wpAny_load ho ?_)
       rw [hc,hd]
       show wpAny M A (if (["enumerate","zip","dict_itemiterator","dict_reverseitemiterator","odict_iterator","itertools.zip_longest","itertools.pairwise"].contains n && vs[0]? == some (rawInt _))=true then _ else _) Q E s
       rw [if_neg (by intro h; rw [hn,Bool.false_and] at h; cases h)]
       exact wpAny_pure hQ))
def Itl (K:PySem.W.Frag) (a:Addr):It:=
 ⟨fun i H=>∃ xs x,SqL K H a xs∧xs[i]? = some x,fun i H x H'=>H'=H∧∀ xs,SqL K H a xs→xs[i]? = some x,fun i H=>∃ xs,SqL K H a xs∧xs.length ≤ i⟩
def Itr (lo:Int) (n:Nat):It:=⟨fun i _=>i < n,fun i H x H'=>H'=H∧x=.int (lo + i),fun i _=>n ≤ i⟩
theorem ii {P:Program} {w:World} {K:PySem.W.Frag} {tg:Expr} (a it:Addr):o3 P w K tg (Itl K a) [it] it (fun i h=>h.IsListIter it a i) where
 mem:=by simp
 obj:=fun i h st b hb=>by
  have e:b=it:=by simpa using hb
  subst e
  obtain ⟨o,e,c,d⟩:=st
  exact ⟨o,e,fun v z=>by rw [d] at z; cases z⟩
 keep:=fun i h h' st k=>st.at fun o e=>k it (by simp) o e
 item:=by
  intro X hP hw hK hc i pins s σ H E I hf st hg
  subst hP hw hK
  obtain ⟨xs,x,hq,hx⟩:=hg
  obtain ⟨its,rv,p,hz⟩:=I.list hq
  obtain ⟨u,hu,ru⟩:=rv.get hx
  obtain ⟨f0,f1,f2,f3,f4,f5⟩:=hf it (by simp)
  refine wpAny_pyNext_list_item st p.isList (x:=u) (by simpa using hu) fun h' st' sb=>?_
  have I1:Inv X pins σ H { s with heap:=h' }:=I.turned (t':=s.toks) (fun b o hb e=>(sb.2 b hb).trans e) f0 f1 f3 f4 f5
  obtain ⟨o,e,c,d⟩:=id st'
  exact ⟨u,rfl,jG (s:={ s with heap:=h' }) e c d (by decide) ⟨x,H,I1,ru,⟨rfl,fun ys hy=>by rw [I.list_inj hy hq]; exact hx⟩,st',fun b hb=>(hf b hb).1⟩⟩
 done:=by
  intro X hP hw hK hc i pins s σ H E I hf st hg
  subst hP hw hK
  obtain ⟨xs,hq,hx⟩:=hg
  obtain ⟨its,rv,p,hz⟩:=I.list hq
  obtain ⟨f0,f1,f2,f3,f4,f5⟩:=hf it (by simp)
  have hl:=rv.length
  exact wpAny_pyNext_list_end (I.ok.hd hc) st p.isList (by simp; omega) fun h' eb=>⟨rfl,I.turned (t':=s.toks) (fun b o hb e=>eb b o hb e) f0 f1 f3 f4 f5⟩
 self:=fun _ _ _ _ _ st h=>wpAny_pyIter_listiter st h
theorem lj {P:Program} {w:World} {K:PySem.W.Frag} {tg:Expr} (it:Addr) (lo:Int) (n:Nat):o3 P w K tg (Itr lo n) [it] it (fun i h=>IsRangeIter h it (lo + (i:Nat) * 1) ((n:Int) - (i:Nat)) 1) where
 mem:=by simp
 obj:=fun i h st b hb=>by
  have e:b=it:=by simpa using hb
  subst e
  exact ⟨_,st,fun v z=>by
   have z':Data.fields _=Data.cell v:=z
   cases z'⟩
 keep:=fun i h h' st k=>k it (by simp) _ st
 item:=by
  intro X hP hw hK hc i pins s σ H E I hf st hg
  subst hP hw hK
  obtain ⟨f0,f1,f2,f3,f4,f5⟩:=hf it (by simp)
  have W:=Walks.range (prog:=X.prog) (w:=X.w) (I.ok.hd hc) it lo 1 n
  refine W.item i s _ _ hg st fun v h' tk hv st' kk=>?_
  obtain ⟨t,rfl⟩:=hv
  have I1:Inv X pins σ H { s with heap:=h',toks:=tk }:=I.turned (fun b o hb e=>kk b o (by simpa using hb) e) f0 f1 f3 f4 f5
  refine ⟨_,rfl,jG (s:={ s with heap:=h',toks:=tk }) (n:="range_iterator") st' rfl rfl (by decide) ⟨.int (lo + i),H,I1,⟨t,?_⟩,⟨rfl,rfl⟩,st',fun b hb=>(hf b hb).1⟩⟩
  rw [Int.mul_one]
 done:=by
  intro X hP hw hK hc i pins s σ H E I hf st hg
  subst hP hw hK
  obtain ⟨f0,f1,f2,f3,f4,f5⟩:=hf it (by simp)
  exact wpAny_pyNext_range_end (I.ok.hd hc) st (by have:n ≤ i:=hg; omega) fun h' eb=>⟨rfl,I.turned (t':=s.toks) (fun b o hb e=>eb b o hb e) f0 f1 f3 f4 f5⟩
 self:=fun _ _ _ _ _ st h=>wpAny_pyIter_rangeiter st h
end L2
namespace L2
open PySem PySem.Spec PyProof.Rows
section
variable {X:Cx} {tg:Expr}
def VH (K:PySem.W.Frag) (tl:TE):TI:=fun σ H R=>tl σ H fun x H1=>∃ a,x=.ref a∧(∃ xs,SqL K H1 a xs)∧R (Itl K a) H1
theorem jz {l:Expr} {tl:TE} (hl:PE X l tl):PI X tg l (VH X.K tl):=by
 intro pins s σ H R I h
 refine thn (hl pins s σ H _ I h) fun v s1 ⟨x,H1,I1,r1,q1⟩=>?_
 obtain ⟨a,e,⟨xs,hq⟩,q⟩:=q1
 subst e
 cases r1
 obtain ⟨its,rv,p,hz⟩:=I1.list hq
 refine wpAny_pyIter_list p.isList ?_
 refine ⟨s1.heap.objs.size,[s1.heap.objs.size],_,_,H1,rfl,I1.kept (t':=s1.toks) fun b o e=>Heap.get?_push_of_some _ e,ii a _,⟨_,Heap.get?_push_size _ rfl,rfl,rfl⟩,fun b hb=>?_,q⟩
 have e:b=s1.heap.objs.size:=by simpa using hb
 subst e
 exact I1.fpOk (Nat.le_refl _) (I1.hok.fresh (Nat.le_refl _))
theorem nB {pins:List (Addr × Obj)} {σ:St} {H:Hp} {s:Shared} {R:It→Hp→Prop} {E:Value→Shared→Prop} {lo hi:Int} {t u v:Tok} {tk:Nat} (I:Inv X pins σ H s) (h1:-(2 ^ 62) ≤ lo) (h2:lo < 2 ^ 62) (h3:-(2 ^ 62) ≤ hi) (h4:hi < 2 ^ 62)
  (q:R (Itr lo (hi - lo).toNat) H):wpAny (model X.prog X.w) X.A (pyIter (.ref s.heap.objs.size)) (PIE X pins σ tg R) E { s with heap:=s.heap.push { cls:=.type "range",data:=.fields #[.int lo t,.int hi u,.int 1 v] },toks:=tk }:=by
 refine wpAny_pyIter_range (IsRange.new ..) (small_one h1 h2 h3 h4) ?_
 have I1:Inv X pins σ H { s with heap:=s.heap.push { cls:=.type "range",data:=.fields #[.int lo t,.int hi u,.int 1 v] },toks:=tk }:=I.kept fun b o e=>Heap.get?_push_of_some _ e
 refine ⟨(s.heap.push { cls:=.type "range",data:=.fields #[.int lo t,.int hi u,.int 1 v] }).objs.size,[(s.heap.push { cls:=.type "range",data:=.fields #[.int lo t,.int hi u,.int 1 v] }).objs.size],_,_,H,rfl,
  I1.kept (t':=tk) fun b o e=>Heap.get?_push_of_some _ e,lj _ lo (hi - lo).toNat,?_,fun b hb=>?_,q⟩
 ·have e1:lo + ((0:Nat):Int) * 1=lo:=by simp
  have e2:(((hi - lo).toNat:Nat):Int) - ((0:Nat):Int)=Builtin.Range.rangeSize lo hi 1:=by rw [rangeSize_one]; split <;> omega
  show IsRangeIter _ _ (lo + ((0:Nat):Int) * 1) ((((hi - lo).toNat:Nat):Int) - ((0:Nat):Int)) 1
  rw [e1,e2]
  exact Heap.get?_push_size _ rfl
 ·have e:b=(s.heap.push { cls:=.type "range",data:=.fields #[.int lo t,.int hi u,.int 1 v] }).objs.size:=by simpa using hb
  subst e
  exact I1.fpOk (Nat.le_refl _) (I1.hok.fresh (Nat.le_refl _))
def VG (ta:TA):TI:=fun σ H R=>ta σ H fun vs H1=>∃ j:Int,vs=[.int j]∧-(2 ^ 62) ≤ j∧j < 2 ^ 62∧R (Itr 0 j.toNat) H1
def VF (ta:TA):TI:=fun σ H R=>ta σ H fun vs H1=>∃ i j:Int,vs=[.int i,.int j]∧(-(2 ^ 62) ≤ i∧i < 2 ^ 62∧-(2 ^ 62) ≤ j∧j < 2 ^ 62)∧R (Itr i (j - i).toNat) H1
theorem iC {a:Expr} {ta:TA} {p pos:Pos} (hg:Gl X "range") (hm:X.mg "range"=none) (ha:PA X [a] ta) (hs:starEach [a] X.env=[(false,eval a X.env)]:=by rfl):PI X tg (.Call (.Name "range" p) [a] [] pos) (VG ta):=by
 intro pins s σ H R I h
 refine Call_ (xy I hg hm boot_range (PyProof.Rows.callWith_type1 (thn (ha pos pins s σ H _ I h) fun us s1 ⟨vs,H1,I1,r1,q1⟩=>?_) hs rfl))
 obtain ⟨j,e,q1,q2,q⟩:=q1
 subst e
 cases r1 with
 | cons r rr=>
  cases rr
  obtain ⟨t,rfl⟩:=r
  exact call_range_1 (nB I1 (by omega) (by omega) q1 q2 (by simpa using q))
theorem iB {a b:Expr} {ta:TA} {p pos:Pos} (hg:Gl X "range") (hm:X.mg "range"=none) (ha:PA X [a,b] ta) (hs:starEach [a,b] X.env=[(false,eval a X.env),(false,eval b X.env)]:=by rfl) (hs2:starEach [b] X.env=[(false,eval b X.env)]:=by rfl):
  PI X tg (.Call (.Name "range" p) [a,b] [] pos) (VF ta):=by
 intro pins s σ H R I h
 refine Call_ (xy I hg hm boot_range (PyProof.Rows.callWith_type1 (thn (ha pos pins s σ H _ I h) fun us s1 ⟨vs,H1,I1,r1,q1⟩=>?_) (by rw [hs,hs2]) (by rw [hs2]; rfl)))
 obtain ⟨i,j,e,⟨q1,q2,q3,q4⟩,q⟩:=q1
 subst e
 cases r1 with
 | cons r rr=>
  cases rr with
  | cons r' rr=>
   cases rr
   obtain ⟨t,rfl⟩:=r
   obtain ⟨t',rfl⟩:=r'
   exact call_range_2 (nB I1 q1 q2 q3 q4 q)
def Qx (wi:TI) (g:TG) (tb:TS):TS:=fun D σ H=>wi σ H fun J H1=>∃ W:Nat→Nat→St→Hp→Prop,(∃ m,W 0 m σ H1)∧∀ i m σ H,W i m σ H→
 (J.stop i H∧D.nx σ H)∨(J.go i H∧∃ N:St→Hp→Prop,(∀ σ' H',N σ' H'→∃ m',m' < m∧W (i + 1) m' σ' H')∧∀ x H',J.yld i H x H'→g x σ H' fun σ2 H2=>tb { D with nx:=N,ct:=N,bk:=D.nx } σ2 H2)
def xv (fp:List Addr) (h:Heap):List (Addr × Obj):=fp.filterMap fun b=>(h.get? b).map fun o=>(b,o)
theorem vA {fp:List Addr} {h:Heap} {b:Addr} {o:Obj} (hb:b ∈ fp) (e:h.get? b=some o):(b,o) ∈ xv fp h:=List.mem_filterMap.mpr ⟨b,hb,by rw [e]; rfl⟩
theorem iG {fp:List Addr} {h:Heap} {p:Addr × Obj} (hp:p ∈ xv fp h):p.1 ∈ fp∧h.get? p.1=some p.2:=by
 obtain ⟨b,hb,e⟩:=List.mem_filterMap.mp hp
 cases q:h.get? b with
 | none=>rw [q] at e; cases e
 | some o=>
  rw [q] at e
  have e':(b,o)=p:=Option.some.inj e
  subst e'
  exact ⟨hb,q⟩
theorem Inv.pinned {pins:List (Addr × Obj)} {σ:St} {H:Hp} {s:Shared} {fp:List Addr} (I:Inv X pins σ H s) (hf:∀ b ∈ fp,vJ X pins H b) (ho:∀ b ∈ fp,∃ o,s.heap.get? b=some o∧∀ v,o.data ≠ .cell v):Inv X (pins ++ xv fp s.heap) σ H s:=
 I.pins_of fun p hp=>(List.mem_append.mp hp).elim (fun z=>I.pin p (List.mem_append_right _ z)) fun z=>by
  obtain ⟨hb,e⟩:=iG z
  obtain ⟨f0,f1,f2,_⟩:=hf p.1 hb
  obtain ⟨o,e',d⟩:=ho p.1 hb
  rw [e] at e'; cases e'
  exact ⟨e,f0,f1,f2,d⟩
theorem Inv.unpinned {pins pl:List (Addr × Obj)} {σ:St} {H:Hp} {s:Shared} (I:Inv X (pins ++ pl) σ H s):Inv X pins σ H s:=I.pins_of fun p hp=>I.pin p (List.mem_append_right _ (List.mem_append_left _ hp))
theorem vh {iter:Expr} {body:List Stmt} {wi:TI} {g:TG} {tb:TS} {pos:Pos} (hp:PassesOwn (model X.prog X.w) X.A X.env X.xe) (hc:X.calm=true) (hi:PI X tg iter wi) (hg:PG X tg g) (hb:PSs X body tb)
  (hs:∀ x,foldedSetIterable iter X.env x=pure x:=by intro _; rfl):PS X (.For tg iter body [] pos) (Qx wi g tb):=by
 intro pins s σ H D I h
 refine wpAny_For (thn (hi pins s σ H _ I h) fun v s1 h1=>thn h1 fun itv s2 h2=>?_) hs
 obtain ⟨it,fp,tn,J,H2,e,I2,T,st2,f2,W,⟨m0,w0⟩,turn⟩:=h2
 subst e
 have stat:∀ {H':Hp},(∀ b ∈ fp,H' b=none)→∀ b ∈ fp,vJ X pins H' b:=fun hn b hb=>⟨hn b hb,(f2 b hb).2⟩
 refine codeAny_forLoop_any (fun n s'=>∃ i σ' H',Inv X pins σ' H' s'∧tn i s'.heap∧(∀ b ∈ fp,H' b=none)∧W i n σ' H') ?_ m0 ⟨0,σ,H2,I2,st2,fun b hb=>(f2 b hb).1,w0⟩
 rintro n s3 ⟨i,σ3,H3,I3,st3,fr3,w3⟩
 rcases turn i n σ3 H3 w3 with ⟨stop,qn⟩ | ⟨go,N,hN,step⟩
 ·refine wpAny_passesOwn hp (thn (T.done X rfl rfl rfl hc i pins s3 σ3 H3 X.xe I3 (stat fr3) st3 stop) fun r s4 ⟨hr,I4⟩=>?_)
  subst hr
  exact wpAny_execs_nil ⟨σ3,H3,I4,qn⟩
 ·refine wpAny_passesOwn hp (thn (T.item X rfl rfl rfl hc i pins s3 σ3 H3 X.xe I3 (stat fr3) st3 go) fun r s4 ⟨u,hr,h4⟩=>?_)
  subst hr
  refine wpAny_passesOwn hp (thn h4 fun _ s5 ⟨x,H5,I5,r5,y5,st5,fr5⟩=>?_)
  have I5':=I5.pinned (stat fr5) (T.obj _ _ st5)
  refine wpAny_passesOwn hp (thn (hg _ s5 σ3 H5 x u _ I5' r5 (step x H5 y5)) fun _ s6 ⟨σ6,H6,I6,q6⟩=>?_)
  refine wpAny_passesOwn hp (thn (hb _ s6 σ6 H6 _ I6 q6) fun f s7 q7=>?_)
  have again:∀ {σ7:St} {H7:Hp},Inv X (pins ++ xv fp s5.heap) σ7 H7 s7→N σ7 H7→∃ m,m < n∧∃ i σ' H',Inv X pins σ' H' s7∧tn i s7.heap∧(∀ b ∈ fp,H' b=none)∧W i m σ' H':=fun {σ7 H7} I7 n7=>by
   obtain ⟨m',hm,w7⟩:=hN σ7 H7 n7
   refine ⟨m',hm,i + 1,σ7,H7,I7.unpinned,T.keep _ _ _ st5 fun b hb o e=>(I7.pin (b,o) (List.mem_append_right _ (List.mem_append_right _ (vA hb e)))).1,fun b hb=>?_,w7⟩
   obtain ⟨o,e,d⟩:=T.obj _ _ st5 b hb
   exact (I7.pin (b,o) (List.mem_append_right _ (List.mem_append_right _ (vA hb e)))).2.1
  cases f with
  | next=>obtain ⟨σ7,H7,I7,n7⟩:=q7; exact again I7 n7
  | cont=>obtain ⟨σ7,H7,I7,n7⟩:=q7; exact again I7 n7
  | brk=>obtain ⟨σ7,H7,I7,q7⟩:=q7; exact ⟨σ7,H7,I7.unpinned,q7⟩
  | ret v=>obtain ⟨x7,σ7,H7,I7,r7,q7⟩:=q7; exact ⟨x7,σ7,H7,I7.unpinned,r7,q7⟩
end
theorem dH {K:PySem.W.Frag} {a:Addr} {xs:List V} {g:TG} {tb:TS} {D:Ends} {σ:St} {H:Hp} (Pv:Nat→St→Hp→Prop) (h0:Pv 0 σ H) (hl:∀ i σ H,i ≤ xs.length→Pv i σ H→SqL K H a xs)
  (hs:∀ i x σ H,xs[i]? = some x→Pv i σ H→g x σ H fun σ2 H2=>tb { D with nx:=Pv (i + 1),ct:=Pv (i + 1),bk:=D.nx } σ2 H2) (hd:∀ σ H,Pv xs.length σ H→D.nx σ H):
  ∃ W:Nat→Nat→St→Hp→Prop,(∃ m,W 0 m σ H)∧∀ i m σ H,W i m σ H→
   ((Itl K a).stop i H∧D.nx σ H)∨((Itl K a).go i H∧∃ N:St→Hp→Prop,(∀ σ' H',N σ' H'→∃ m',m' < m∧W (i + 1) m' σ' H')∧∀ x H',(Itl K a).yld i H x H'→g x σ H' fun σ2 H2=>tb { D with nx:=N,ct:=N,bk:=D.nx } σ2 H2):=by
 refine ⟨fun i m σ H=>m=xs.length - i∧i ≤ xs.length∧Pv i σ H,⟨xs.length,by simp,Nat.zero_le _,h0⟩,?_⟩
 rintro i m σ H ⟨rfl,hi,p⟩
 have q:=hl i σ H hi p
 by_cases hlt:i < xs.length
 ·refine .inr ⟨⟨xs,xs[i],q,by simp [hlt]⟩,Pv (i + 1),fun σ' H' p'=>⟨xs.length - (i + 1),by omega,rfl,hlt,p'⟩,fun x H' y=>?_⟩
  obtain ⟨e,y⟩:=y
  subst e
  exact hs i x σ _ (y xs q) p
 ·have e:i=xs.length:=by omega
  subst e
  exact .inl ⟨⟨xs,q,Nat.le_refl _⟩,hd σ H p⟩
theorem pD {lo:Int} {n:Nat} {g:TG} {tb:TS} {D:Ends} {σ:St} {H:Hp} (Pv:Nat→St→Hp→Prop) (h0:Pv 0 σ H)
  (hs:∀ i σ H,i < n→Pv i σ H→g (.int (lo + i)) σ H fun σ2 H2=>tb { D with nx:=Pv (i + 1),ct:=Pv (i + 1),bk:=D.nx } σ2 H2) (hd:∀ σ H,Pv n σ H→D.nx σ H):
  ∃ W:Nat→Nat→St→Hp→Prop,(∃ m,W 0 m σ H)∧∀ i m σ H,W i m σ H→
   ((Itr lo n).stop i H∧D.nx σ H)∨((Itr lo n).go i H∧∃ N:St→Hp→Prop,(∀ σ' H',N σ' H'→∃ m',m' < m∧W (i + 1) m' σ' H')∧∀ x H',(Itr lo n).yld i H x H'→g x σ H' fun σ2 H2=>tb { D with nx:=N,ct:=N,bk:=D.nx } σ2 H2):=by
 refine ⟨fun i m σ H=>m=n - i∧i ≤ n∧Pv i σ H,⟨n,by simp,Nat.zero_le _,h0⟩,?_⟩
 rintro i m σ H ⟨rfl,hi,p⟩
 by_cases hlt:i < n
 ·refine .inr ⟨hlt,Pv (i + 1),fun σ' H' p'=>⟨n - (i + 1),by omega,rfl,hlt,p'⟩,fun x H' y=>?_⟩
  obtain ⟨e,y⟩:=y
  subst e y
  exact hs i σ _ hlt p
 ·have e:i=n:=by omega
  subst e
  exact .inl ⟨Nat.le_refl _,hd σ H p⟩
end L2
namespace L2
open PySem PySem.Spec PyProof.Rows
abbrev R2:=V→V→Hp→VK→Prop
def OpR (X:Cx) (f:Value→Value→Sem Value) (r:R2):Prop:=
 ∀ (pins:List (Addr × Obj)) (s:Shared) (σ:St) (H:Hp) (x y:V) (v u:Value) (Q:VK),Inv X pins σ H s→RelV x v→RelV y u→r x y H Q→
  wpAny (model X.prog X.w) X.A (f v u) (EP X pins σ Q) X.xe s
def UnR (X:Cx) (f:Value→Sem Value) (r:V→Hp→VK→Prop):Prop:=
 ∀ (pins:List (Addr × Obj)) (s:Shared) (σ:St) (H:Hp) (x:V) (v:Value) (Q:VK),Inv X pins σ H s→RelV x v→r x H Q→
  wpAny (model X.prog X.w) X.A (f v) (EP X pins σ Q) X.xe s
def CallR (X:Cx) (f:Value) (r:List V→Hp→VK→Prop):Prop:=
 ∀ (pins:List (Addr × Obj)) (s:Shared) (σ:St) (H:Hp) (xs:List V) (us:List Value) (Q:VK),Inv X pins σ H s→Vals xs us→r xs H Q→
  wpAny (model X.prog X.w) X.A (call f us) (EP X pins σ Q) X.xe s
def Of (X:Cx) (r:V→Hp→(Bool→Hp→Prop)→Prop):Prop:=
 ∀ (pins:List (Addr × Obj)) (s:Shared) (σ:St) (H:Hp) (x:V) (v:Value) (Q:Bool→Hp→Prop),Inv X pins σ H s→RelV x v→r x H Q→
  wpAny (model X.prog X.w) X.A (truthy v) (TP X pins σ Q) X.xe s
def tOp (r:R2) (ta tb:TE):TE:=fun σ H Q=>ta σ H fun x H1=>tb σ H1 fun y H2=>r x y H2 Q
def tUn (r:V→Hp→VK→Prop) (ta:TE):TE:=fun σ H Q=>ta σ H fun x H1=>r x H1 Q
def rI (C:Int→Int→Prop) (g:Int→Int→V):R2:=fun x y H Q=>∃ i j,x=.int i∧y=.int j∧C i j∧Q (g i j) H
def rI0 (g:Int→Int→V):R2:=fun x y H Q=>∃ i j,x=.int i∧y=.int j∧Q (g i j) H
def rU (g:Int→V):V→Hp→VK→Prop:=fun x H Q=>∃ i,x=.int i∧Q (g i) H
section
variable {X:Cx} {a b c:Expr} {ta tb tc:TE} {pos:Pos}
theorem Wm (ha:PE X a ta) (hb:PE X b tb) {pins:List (Addr × Obj)} {s:Shared} {σ:St} {H:Hp} {R:V→V→Hp→Prop} (I:Inv X pins σ H s)
  (h:ta σ H fun x H1=>tb σ H1 fun y H2=>R x y H2) {Q:Value→Shared→Prop} {f:Value→Value→Sem Value}
  (hf:∀ v u s2 x y H2,Inv X pins σ H2 s2→RelV x v→RelV y u→R x y H2→wpAny (model X.prog X.w) X.A (f v u) Q X.xe s2):
  wpAny (model X.prog X.w) X.A (eval a X.env) (fun v s₁=>wpAny (model X.prog X.w) X.A (eval b X.env) (fun u s₂=>wpAny (model X.prog X.w) X.A (f v u) Q X.xe s₂) X.xe s₁) X.xe s:=by
 refine thn (ha pins s σ H _ I h) fun v s1 ⟨x,H1,I1,r1,q1⟩=>?_
 refine thn (hb pins s1 σ H1 _ I1 q1) fun u s2 ⟨y,H2,I2,r2,q2⟩=>?_
 exact hf v u s2 x y H2 I2 r1 r2 q2
theorem Zs {op:Operator} {r:R2} (ho:OpR X (binaryOp op) r) (ha:PE X a ta) (hb:PE X b tb):PE X (.BinOp a op b pos) (tOp r ta tb):=by
 intro pins s σ H Q I h
 exact wpAny_BinOp (Wm ha hb I h fun v u s2 x y H2 I2 rx ry q=>ho pins s2 σ H2 x y v u Q I2 rx ry q)
theorem WU {op:UnaryOp} {r:V→Hp→VK→Prop} (ho:UnR X (unaryOp op) r) (ha:PE X a ta):PE X (.UnaryOp op a pos) (tUn r ta):=by
 intro pins s σ H Q I h
 exact UnaryOp_ (thn (ha pins s σ H _ I h) fun v s1 ⟨x,H1,I1,r1,q1⟩=>ho pins s1 σ H1 x v Q I1 r1 q1)
theorem opI {f:Value→Value→Sem Value} {C:Int→Int→Prop} {g:Int→Int→Int}
  (rule:∀ (i j:Int) (t u:Tok) (s:Shared) (Q:Value→Shared→Prop) (E:Value→Shared→Prop),C i j→Q (.int (g i j) s.toks) { s with toks:=s.toks + 1 }→wpAny (model X.prog X.w) X.A (f (.int i t) (.int j u)) Q E s):
  OpR X f (rI C fun i j=>.int (g i j)):=by
 intro pins s σ H x y v u Q I rx ry h
 obtain ⟨i,j,rfl,rfl,hc,q⟩:=h
 obtain ⟨t,rfl⟩:=rx
 obtain ⟨t',rfl⟩:=ry
 exact rule i j t t' s _ _ hc ⟨.int (g i j),H,I.tok _,⟨_,rfl⟩,q⟩
theorem W9 {f:Value→Value→Sem Value} {g:Int→Int→Int}
  (rule:∀ (i j:Int) (t u:Tok) (s:Shared) (Q:Value→Shared→Prop) (E:Value→Shared→Prop),Q (.int (g i j) s.toks) { s with toks:=s.toks + 1 }→wpAny (model X.prog X.w) X.A (f (.int i t) (.int j u)) Q E s):
  OpR X f (rI0 fun i j=>.int (g i j)):=by
 intro pins s σ H x y v u Q I rx ry h
 obtain ⟨i,j,rfl,rfl,q⟩:=h
 obtain ⟨t,rfl⟩:=rx
 obtain ⟨t',rfl⟩:=ry
 exact rule i j t t' s _ _ ⟨.int (g i j),H,I.tok _,⟨_,rfl⟩,q⟩
theorem bq {f:Value→Value→Sem Value} {g:Int→Int→Bool}
  (rule:∀ (i j:Int) (t u:Tok) (s:Shared) (Q:Value→Shared→Prop) (E:Value→Shared→Prop),Q (.bool (g i j)) s→wpAny (model X.prog X.w) X.A (f (.int i t) (.int j u)) Q E s):
  OpR X f (rI0 fun i j=>.bl (g i j)):=by
 intro pins s σ H x y v u Q I rx ry h
 obtain ⟨i,j,rfl,rfl,q⟩:=h
 obtain ⟨t,rfl⟩:=rx
 obtain ⟨t',rfl⟩:=ry
 exact rule i j t t' s _ _ ⟨.bl (g i j),H,I,rfl,q⟩
def ic (i j:Int):Prop:=j ≠ 0∧j.natAbs < 1073741824
def Wv (i j:Int):Prop:=0 ≤ j∧j ≤ 1000000∧i.natAbs < 2 ^ 64
def CMul (i j:Int):Prop:=(-(2 ^ 64) < i∧i < 2 ^ 64)∨(-(2 ^ 64) < j∧j < 2 ^ 64)
theorem CMul.ok {i j:Int} (h:CMul i j):IntMulOk i j:=by
 rcases h with ⟨h1,h2⟩ | ⟨h1,h2⟩
 ·exact .of_left (intBits_le_64 h1 h2)
 ·exact .of_right (intBits_le_64 h1 h2)
theorem Yt:OpR X (binaryOp .Add) (rI0 fun i j=>.int (i + j)):=W9 fun _ _ _ _ _ _ _ q=>add_int q
theorem Yp:OpR X (binaryOp .Sub) (rI0 fun i j=>.int (i - j)):=W9 fun _ _ _ _ _ _ _ q=>sub_int q
theorem fK:OpR X (binaryOp .FloorDiv) (rI ic fun i j=>.int (i.fdiv j)):=opI fun _ _ _ _ _ _ _ hc q=>floordiv_int hc.1 q (.inl (PyProof.noPylong_small hc.2))
theorem bp:OpR X (binaryOp .Mod) (rI (fun _ j=>j ≠ 0) fun i j=>.int (i.fmod j)):=opI fun _ _ _ _ _ _ _ hc q=>mod_int' hc q
theorem Yr:OpR X (binaryOp .Pow) (rI Wv fun i j=>.int (i ^ j.toNat)):=opI fun _ _ _ _ _ _ _ hc q=>pow_int_small hc.1 hc.2.1 hc.2.2 q
theorem unI {f:Value→Sem Value} {g:Int→Int}
  (rule:∀ (i:Int) (t:Tok) (s:Shared) (Q:Value→Shared→Prop) (E:Value→Shared→Prop),Q (.int (g i) s.toks) { s with toks:=s.toks + 1 }→wpAny (model X.prog X.w) X.A (f (.int i t)) Q E s):
  UnR X f (rU fun i=>.int (g i)):=by
 intro pins s σ H x v Q I rx h
 obtain ⟨i,rfl,q⟩:=h
 obtain ⟨t,rfl⟩:=rx
 exact rule i t s _ _ ⟨.int (g i),H,I.tok _,⟨_,rfl⟩,q⟩
theorem ZV:UnR X (unaryOp .USub) (rU fun i=>.int (-i)):=unI fun _ _ _ _ _ q=>neg_int q
end
def WM:V→V→Bool
 | .non,.non=>true | .non,.int _=>true | .int _,.non=>true | .non,.bl _=>true | .bl _,.non=>true | .non,.str _=>true | .str _,.non=>true
 | .int _,.int _=>true | .bl _,.bl _=>true | .str _,.str _=>true | .byt _,.byt _=>true
 | .int _,.str _=>true | .str _,.int _=>true | .bl _,.str _=>true | .str _,.bl _=>true
 | _,_=>false
def rEq:R2:=fun x y H Q=>WM x y=true∧Q (.bl (decide (x=y))) H
def rNe:R2:=fun x y H Q=>WM x y=true∧Q (.bl (!decide (x=y))) H
theorem jT {i j:Int}:decide (V.int i=V.int j)=(i == j):=by
 rw [Bool.eq_iff_iff]
 simp
theorem d6 {i j:Bool}:decide (V.bl i=V.bl j)=(i == j):=by
 rw [Bool.eq_iff_iff]
 simp
theorem jS {i j:Str}:decide (V.str i=V.str j)=(i == j):=by
 rw [Bool.eq_iff_iff]
 simp
theorem jU {i j:Array UInt8}:decide (V.byt i=V.byt j)=(i.toList == j.toList):=by
 rw [Bool.eq_iff_iff]
 cases i
 cases j
 simp
section
variable {X:Cx} {a b c:Expr} {ta tb tc:TE} {pos:Pos}
theorem zF {pins:List (Addr × Obj)} {σ:St} {H:Hp} {s:Shared} {Q:VK} {k k':Bool} (I:Inv X pins σ H s) (q:Q (.bl k) H) (e:k=k'):EP X pins σ Q (.bool k') s:=by
 subst e
 exact ⟨.bl k,H,I,rfl,q⟩
theorem W8:OpR X (compareOp .Eq) rEq:=by
 intro pins s σ H x y v u Q I rx ry h
 obtain ⟨hs,q⟩:=h
 cases x with
 | non=>
  cases rx
  cases y with
  | non=>cases ry; exact PySem.EqNone.eq_none_none (zF I q (by simp))
  | bl j=>cases ry; exact PySem.EqNone.eq_none_bool (zF I q (by simp))
  | int j=>obtain ⟨t',rfl⟩:=ry; exact PySem.EqNone.eq_none_int (zF I q (by simp))
  | str j=>obtain ⟨t',rfl⟩:=ry; exact PySem.EqNone.eq_none_str (zF I q (by simp))
  | _=>exact absurd (show false=true from hs) Bool.false_ne_true
 | bl i=>
  cases rx
  cases y with
  | non=>cases ry; exact PySem.EqNone.eq_bool_none (zF I q (by simp))
  | bl j=>cases ry; exact eq_bool (zF I q d6)
  | str j=>obtain ⟨t',rfl⟩:=ry; exact PySem.EqMixed.eq_bool_str (zF I q (by simp))
  | _=>exact absurd (show false=true from hs) Bool.false_ne_true
 | int i=>
  obtain ⟨t,rfl⟩:=rx
  cases y with
  | non=>cases ry; exact PySem.EqNone.eq_int_none (zF I q (by simp))
  | int j=>obtain ⟨t',rfl⟩:=ry; exact eq_int (zF I q jT)
  | str j=>obtain ⟨t',rfl⟩:=ry; exact PySem.EqMixed.eq_int_str (zF I q (by simp))
  | _=>exact absurd (show false=true from hs) Bool.false_ne_true
 | str i=>
  obtain ⟨t,rfl⟩:=rx
  cases y with
  | non=>cases ry; exact PySem.EqNone.eq_str_none (zF I q (by simp))
  | bl j=>cases ry; exact PySem.EqMixed.eq_str_bool (zF I q (by simp))
  | int j=>obtain ⟨t',rfl⟩:=ry; exact PySem.EqMixed.eq_str_int (zF I q (by simp))
  | str j=>obtain ⟨t',rfl⟩:=ry; exact eq_str (zF I q jS)
  | _=>exact absurd (show false=true from hs) Bool.false_ne_true
 | byt i=>
  obtain ⟨t,rfl⟩:=rx
  cases y with
  | byt j=>obtain ⟨t',rfl⟩:=ry; exact PySem.W.eq_bytes (zF I q jU)
  | _=>exact absurd (show false=true from hs) Bool.false_ne_true
 | _=>cases y <;> exact absurd (show false=true from hs) Bool.false_ne_true
theorem WY:OpR X (compareOp .NotEq) rNe:=by
 intro pins s σ H x y v u Q I rx ry h
 obtain ⟨hs,q⟩:=h
 cases x with
 | non=>
  cases rx
  cases y with
  | non=>cases ry; exact PySem.EqNone.ne_none_none (zF I q (by simp))
  | bl j=>cases ry; exact PySem.EqNone.ne_none_bool (zF I q (by simp))
  | int j=>obtain ⟨t',rfl⟩:=ry; exact PySem.EqNone.ne_none_int (zF I q (by simp))
  | str j=>obtain ⟨t',rfl⟩:=ry; exact PySem.EqNone.ne_none_str (zF I q (by simp))
  | _=>exact absurd (show false=true from hs) Bool.false_ne_true
 | bl i=>
  cases rx
  cases y with
  | non=>cases ry; exact PySem.EqNone.ne_bool_none (zF I q (by simp))
  | bl j=>cases ry; exact ne_bool (zF I q (congrArg not d6))
  | str j=>obtain ⟨t',rfl⟩:=ry; exact PySem.EqMixed.ne_bool_str (zF I q (by simp))
  | _=>exact absurd (show false=true from hs) Bool.false_ne_true
 | int i=>
  obtain ⟨t,rfl⟩:=rx
  cases y with
  | non=>cases ry; exact PySem.EqNone.ne_int_none (zF I q (by simp))
  | int j=>obtain ⟨t',rfl⟩:=ry; exact ne_int (zF I q (congrArg not jT))
  | str j=>obtain ⟨t',rfl⟩:=ry; exact PySem.EqMixed.ne_int_str (zF I q (by simp))
  | _=>exact absurd (show false=true from hs) Bool.false_ne_true
 | str i=>
  obtain ⟨t,rfl⟩:=rx
  cases y with
  | non=>cases ry; exact PySem.EqNone.ne_str_none (zF I q (by simp))
  | bl j=>cases ry; exact PySem.EqMixed.ne_str_bool (zF I q (by simp))
  | int j=>obtain ⟨t',rfl⟩:=ry; exact PySem.EqMixed.ne_str_int (zF I q (by simp))
  | str j=>obtain ⟨t',rfl⟩:=ry; exact ne_str (zF I q (congrArg not jS))
  | _=>exact absurd (show false=true from hs) Bool.false_ne_true
 | byt i=>
  obtain ⟨t,rfl⟩:=rx
  cases y with
  | byt j=>obtain ⟨t',rfl⟩:=ry; exact PySem.W.ne_bytes (zF I q (congrArg not jU))
  | _=>exact absurd (show false=true from hs) Bool.false_ne_true
 | _=>cases y <;> exact absurd (show false=true from hs) Bool.false_ne_true
theorem WZ:OpR X (compareOp .Lt) (rI0 fun i j=>.bl (decide (i < j))):=bq fun _ _ _ _ _ _ _ q=>lt_int q
theorem W5:OpR X (compareOp .LtE) (rI0 fun i j=>.bl (decide (i ≤ j))):=bq fun _ _ _ _ _ _ _ q=>le_int q
theorem W6:OpR X (compareOp .Gt) (rI0 fun i j=>.bl (decide (j < i))):=bq fun _ _ _ _ _ _ _ q=>gt_int q
theorem W7:OpR X (compareOp .GtE) (rI0 fun i j=>.bl (decide (j ≤ i))):=bq fun _ _ _ _ _ _ _ q=>ge_int q
theorem OpR.or {f:Value→Value→Sem Value} {r r':R2} (h:OpR X f r) (h':OpR X f r'):OpR X f (fun x y H Q=>r x y H Q∨r' x y H Q):=by
 intro pins s σ H x y v u Q I rx ry q
 rcases q with q | q
 ·exact h pins s σ H x y v u Q I rx ry q
 ·exact h' pins s σ H x y v u Q I rx ry q
theorem zu (b:Expr) {op:CmpOp} (h:op ≠ .In:=by decide) (h2:op ≠ .NotIn:=by decide):behindInMarks op b=false:=by
 have e1:(op == CmpOp.In)=false:=by cases op <;> first | rfl | exact absurd rfl h
 have e2:(op == CmpOp.NotIn)=false:=by cases op <;> first | rfl | exact absurd rfl h2
 cases b <;> simp [behindInMarks,e1,e2]
theorem bh {op:CmpOp} {r:R2} (ho:OpR X (compareOp op) r) (ha:PE X a ta) (hb:PE X b tb) (hm:behindInMarks op b=false):PE X (.Compare a [op] [b] pos) (tOp r ta tb):=by
 intro pins s σ H Q I h
 exact wpAny_Compare1 (Wm ha hb I h fun v u s2 x y H2 I2 rx ry q=>ho pins s2 σ H2 x y v u Q I2 rx ry q) hm
def g7 (t:TE):TT:=fun σ H Q=>t σ H fun x H'=>∃ k,x=.bl k∧Q k H'
theorem c8 {op:CmpOp} {r:R2} (ho:OpR X (compareOp op) r) (ha:PE X a ta) (hb:PE X b tb) (hm:behindInMarks op b=false):PT X (.Compare a [op] [b] pos) (g7 (tOp r ta tb)):=by
 intro pins s σ H Q I h
 refine wpAny_isTrue_Compare1 (thn (ha pins s σ H _ I h) fun v s1 ⟨x,H1,I1,r1,q1⟩=>thn (hb pins s1 σ H1 _ I1 q1) fun u s2 ⟨y,H2,I2,r2,q2⟩=>
  thn (ho pins s2 σ H2 x y v u _ I2 r1 r2 q2) fun c s3 ⟨z,H3,I3,r3,k,e,q3⟩=>?_) hm
 subst e
 cases r3
 exact wpAny_truthy_bool ⟨H3,I3,q3⟩
def fb (r r':R2) (ta tb tc:TE):TE:=fun σ H Q=>ta σ H fun x H1=>tb σ H1 fun y H2=>r x y H2 fun z H3=>∃ k,z=.bl k∧
 (if k=true then tc σ H3 fun w' H4=>r' y w' H4 Q else Q (.bl false) H3)
theorem fw {op op':CmpOp} {r r':R2} (ho:OpR X (compareOp op) r) (ho':OpR X (compareOp op') r') (ha:PE X a ta) (hb:PE X b tb) (hc:PE X c tc)
  (hm:lastMarks [op,op'] [b,c]=false:=by with_unfolding_all rfl):PT X (.Compare a [op,op'] [b,c] pos) (g7 (fb r r' ta tb tc)):=by
 intro pins s σ H Q I h
 refine isTrue_chain (thn (ha pins s σ H _ I h) fun v s1 ⟨x,H1,I1,r1,q1⟩=>test_link (thn (hb pins s1 σ H1 _ I1 q1) fun u s2 ⟨y,H2,I2,r2,q2⟩=>
  thn (ho pins s2 σ H2 x y v u _ I2 r1 r2 q2) fun d s3 ⟨z,H3,I3,r3,k,e,q3⟩=>?_)) hm
 subst e
 cases r3
 refine wpAny_truthy_bool ?_
 cases k with
 | false=>
  obtain ⟨k',e',q'⟩:=q3
  cases e'
  exact ite_ff ⟨H3,I3,q'⟩
 | true=>
  refine ite_tt (test_last (thn (hc pins s3 σ H3 _ I3 q3) fun w' s4 ⟨z',H4,I4,r4,q4⟩=>thn (ho' pins s4 σ H4 y z' u w' _ I4 r2 r4 q4) fun d' s5 ⟨z2,H5,I5,r5,k2,e2,q5⟩=>?_))
  subst e2
  cases r5
  exact wpAny_truthy_bool ⟨H5,I5,q5⟩
def Qj (K:PySem.W.Frag) (x:V) (H:Hp) (k:Bool):Prop:=
 match x with
 | .non=>k=false
 | .bl b=>k=b
 | .int i=>k=(i != 0)
 | .str y=>y.length ≤ sizeLine∧k=((y.length:Int) != 0)
 | .byt y=>y.size ≤ sizeLine∧k=((y.size:Int) != 0)
 | .ref p=>(∃ xs,SqL K H p xs∧k=!xs.isEmpty)∨(∃ xs,SqT K H p xs∧k=!xs.isEmpty)∨∃ kvs,H p=some (.dK kvs)∧k=!kvs.isEmpty
 | _=>False
theorem kD {κ:Type} {kvs:List (κ × V)} {vs:List (κ × Value)} (r:KV kvs vs):(!vs.isEmpty)=!kvs.isEmpty:=by
 cases r <;> rfl
theorem rC {xs:List V} {its:List Value} (r:Vals xs its):(!its.toArray.isEmpty)=!xs.isEmpty:=by
 cases r <;> simp
theorem uY:(sizeLine:Nat) < 2 ^ 63:=by rw [sizeLine_eq]; decide
theorem ZW:Of X (fun x H Q=>∃ k,Qj X.K x H k∧Q k H):=by
 intro pins s σ H x v Q I rx h
 obtain ⟨k,e,q⟩:=h
 have hl:=uY
 have hs:sizeLine=16777216:=sizeLine_eq
 cases x with
 | non=>
  cases rx
  have e':k=false:=e
  subst e'
  exact truthy_none ⟨H,I,q⟩
 | bl b=>
  cases rx
  have e':k=b:=e
  subst e'
  exact wpAny_truthy_bool ⟨H,I,q⟩
 | int i=>
  obtain ⟨t,rfl⟩:=rx
  have e':k=(i != 0):=e
  subst e'
  exact PySem.P.truthy_int ⟨H,I,q⟩
 | str y=>
  obtain ⟨t,rfl⟩:=rx
  obtain ⟨hy,e'⟩:y.length ≤ sizeLine∧k=((y.length:Int) != 0):=e
  subst e'
  exact PySem.P.truthy_str (by omega) ⟨H,I.tok _,q⟩
 | byt y=>
  obtain ⟨t,rfl⟩:=rx
  obtain ⟨hy,e'⟩:y.size ≤ sizeLine∧k=((y.size:Int) != 0):=e
  subst e'
  exact PySem.W.truthy_bytes (by omega) ⟨H,I.tok _,q⟩
 | ref p=>
  cases rx
  have e':(∃ xs,SqL X.K H p xs∧k=!xs.isEmpty)∨(∃ xs,SqT X.K H p xs∧k=!xs.isEmpty)∨∃ kvs,H p=some (.dK kvs)∧k=!kvs.isEmpty:=e
  rcases e' with ⟨xs,hx,e'⟩ | ⟨xs,hx,e'⟩ | ⟨kvs,hx,e'⟩
  ·subst e'
   obtain ⟨its,r,pl,hz⟩:=I.list hx
   have hlen:=r.length
   exact wpAny_truthy_list pl.isList (by simp only [List.size_toArray]; omega) ⟨H,I.tok _,by rw [rC r]; exact q⟩
  ·subst e'
   obtain ⟨its,r,pl,hz⟩:=I.tuple hx
   have hlen:=r.length
   exact truthy_tuple pl (by simp only [List.size_toArray]; omega) ⟨H,I.tok _,by rw [rC r]; exact q⟩
  ·subst e'
   obtain ⟨hz,hS,vs,r,m⟩:kvs.length ≤ sizeLine∧(p == sysModules)=false∧∃ vs,KV kvs vs∧s.heap.DictOf (oP X.prog X.w) p vs:=I.hok p _ hx
   have hlen:kvs.length=vs.length:=Paired.length r
   exact wpAny_truthy_dict hS m (by omega) ⟨H,I.tok _,by rw [kD r]; exact q⟩
 | _=>exact (show False from e).elim
theorem nC (ha:PE X a ta) (he:∀ yD,isTrue a X.env yD=(do let v ← yD; standAt a.pos; holding [v] (truthy v))):
  PT X a (fun σ H Q=>ta σ H fun x H'=>∃ k,Qj X.K x H' k∧Q k H'):=by
 intro pins s σ H Q I h
 exact isTrue_plain (thn (ha pins s σ H _ I h) fun v s1 ⟨x,H1,I1,r1,q1⟩=>ZW pins s1 σ H1 x v Q I1 r1 q1) (he _)
theorem Zm {x:V} {us:List Value} (r:Vals [x] us):∃ u,us=[u]∧RelV x u:=by
 cases r with
 | cons r1 r2=>cases r2; exact ⟨_,rfl,r1⟩
end
end L2
namespace L2
open PySem PySem.Spec PyProof.Rows
structure ObjM (h:Heap) (x dx C:Addr) (mA:Str→Option Value):Prop where
 obj:h.get? x=some (PySem.W.instObj C dx)
 ns:h.Ns1 dx mA
 ne:dx ≠ x
theorem gp {h:Heap} {dx:Addr} {mA:Str→Option Value} (n:h.Ns1 dx mA):∃ od,h.get? dx=some od∧∀ name,PySem.W.lookIn name od=some (mA name):=by
 obtain ⟨o,es,ep,ho,hd,hk,_,hm⟩:=n
 refine ⟨o,ho,fun name=>?_⟩
 have e:=hm name
 unfold nsFind findBy at e
 rw [← Array.find?_toList] at e
 unfold PySem.W.lookIn
 rw [hd]
 dsimp only
 split
 ·rename_i y q
  rw [q] at e
  exact congrArg some e
 ·rename_i q
  rw [q] at e
  have a:es.toList.any (·.refKey)=false:=by
   rw [List.any_eq_false]
   intro y hy
   obtain ⟨z,t,hkey⟩:=hk y (Array.mem_toList_iff.mp hy)
   simp [DictEntry.refKey,hkey]
  have a':¬ es.toList.any (·.refKey)=true:=by rw [a]; exact Bool.false_ne_true
  rw [if_neg a']
  exact congrArg some e
theorem ObjM.look {h:Heap} {x dx C:Addr} {mA:Str→Option Value} (I:ObjM h x dx C mA):∃ od,PySem.W.InstAt h x (PySem.W.instObj C dx) C (some od)∧∀ name,PySem.W.lookIn name od=some (mA name):=
 let ⟨od,ho,hl⟩:=gp I.ns
 ⟨od,⟨I.obj,rfl,rfl,ho⟩,hl⟩
section
variable {prog:Program} {w:World} {A:Around} {E:Value→Shared→Prop} {s:Shared} {K:PySem.W.Frag} {x dx C f:Addr} {mA:Str→Option Value} {name:Str} {v:Value}
theorem aD {expr:Bool} {Q:Value→Shared→Prop} (X:K.In s.heap) (I:ObjM s.heap x dx C mA) (hg:PySem.W.plainGet K C name=true) (hh:PySem.W.hasDictIn K C=true)
  (ha:PySem.W.findIn K (.ref C) name=some none) (hv:mA name=some v) (hv':PySem.W.handedIn v=true) (h:Q v { s with toks:=s.toks + 1 }):
  wpAny (model prog w) A (getAttr (.ref x) name expr) Q E s:=by
 obtain ⟨od,J,hl⟩:=I.look
 exact PySem.W.get_value X J (PySem.W.plainGet_of hg).1 (PySem.W.findObj_own hh ha rfl (by rw [hl,hv])) hv' h
theorem dE {pl:Sem Bool} {Q:Value × List Value→Shared→Prop} (X:K.In s.heap) (I:ObjM s.heap x dx C mA) (hg:PySem.W.plainGet K C name=true)
  (hf:PySem.W.findIn K (.ref C) name=some (some (.ref f))) (ht:PySem.W.isFn K (.ref f)=true) (hv:mA name=none) (h:Q (.ref f,[.ref x]) s):
  wpAny (model prog w) A (getMethod (.ref x) name pl) Q E s:=by
 obtain ⟨od,J,hl⟩:=I.look
 exact PySem.W.method_fn X J (PySem.W.plainGet_of hg).1 (PySem.W.plainGet_of hg).2 hf (beq_iff_eq.mp ht) (by show (PySem.W.lookIn name od).map (·.isSome)=some false; rw [hl,hv]; rfl) h
theorem cV {ns:List Str} {Q:Unit→Shared→Prop} (X:K.In s.heap) (I:ObjM s.heap x dx C mA)
  (hs:PySem.W.findIn K (.ref C) "__setattr__"=some (some (.builtin "object.__setattr__"))) (hp:PySem.W.plainOver K C=true) (ht:PySem.W.takerIn K C name=some none) (hh:PySem.W.hasDictIn K C=true)
  (hw:PySem.Within mA ns) (hsz:ns.length ≤ sizeLine)
  (h:∀ h',ObjM h' x dx C (fun y=>if y=name then some v else mA y)→Heap.SameBut dx s.heap h'→Q () { s with heap:=h',toks:=s.toks + 2 }):
  wpAny (model prog w) A (setAttr (.ref x) name v) Q E s:=by
 obtain ⟨od,J,hl⟩:=I.look
 refine PySem.W.set_plain X J hs (PySem.W.osa_open (s:={ s with toks:=s.toks + 1 }) (r:=none) X J hp ht fun b=>?_)
 obtain ⟨cd,hc,hd'⟩:=PySem.W.any_some hh
 have hx:s.heap.get? x=some ⟨.ref C,some dx,.plain,#[]⟩:=I.obj
 refine wpAny_bind (wpAny_pure (wpAny_bind (wpAny_bind (wpAny_loadPart hx (wpAny_bind (PySem.W.Looks.here (s:={ s with toks:=s.toks + 1 }) (PySem.W.looks_clsIn X hc) ?_))))))
 rw [hd']
 refine wpAny_pure (a:=some dx) (wpAny_bind (wpAny_pure (wpAny_bind ?_)))
 refine wpAny_nsSet1 (s:={ s with toks:=s.toks + 1 }) I.ns fun h' hn2 hs2=>?_
 obtain ⟨oD,esD,epD,hoD,hdD,hcD⟩:=hn2.count (PySem.Within.cons name v hw)
 refine wpAny_bind (wpAny_lookBehind hoD (by rw [hdD]; exact pastItsLine_dict (Nat.le_trans hcD (by rw [List.length_cons]; omega))) ?_)
 exact wpAny_pure (h _ ⟨(hs2.2 _ (Ne.symm I.ne)).trans I.obj,hn2,I.ne⟩ hs2)
theorem dm {R:Result→Shared→Prop} {vs:List Value} {kw:List (Str × Value)} (X:K.In s.heap) (hm:PySem.W.makesIn K C=true)
  (hi:PySem.W.findIn K (.ref C) "__init__"=some (some (.ref f))) (hf:PySem.W.typeIn K (.ref f)=some (.type "function"))
  (h:codeAny (model prog w) (A.under (.builtin "type.__call__" ⟨.ref C :: vs,kw⟩)) (.call (.ref f) ⟨.ref (s.heap.objs.size + 1) :: vs,kw⟩) (PySem.W.InitBack (s.heap.objs.size + 1) R)
   { s with heap:=(s.heap.push PySem.W.emptyDict).push (PySem.W.instObj C s.heap.objs.size) }):
  codeAny (model prog w) A (.call (.ref C) ⟨vs,kw⟩) R s:=by
 obtain ⟨hh,g,d,t,os⟩:=s
 exact PySem.W.make_core (PySem.W.makes_of X hm) (PySem.W.looks_findIn X hi) (fun self=>PySem.W.bind_fn X self hf) (.inl rfl) h
end
def w6 (f:Str) (v:V):List (Str × V)→List (Str × V)
 | []=>[(f,v)]
 | (g,x) :: r=>if g=f then (g,v) :: r else (g,x) :: w6 f v r
theorem tx (f g:Str) (v:V):∀ fs:List (Str × V),(w6 f v fs).lookup g=if g=f then some v else fs.lookup g
 | []=>by
  show List.lookup g [(f,v)]=_
  by_cases h:g=f
  ·have hb:(g == f)=true:=beq_iff_eq.mpr h
   simp only [List.lookup,hb,if_pos h]
  ·have hb:(g == f)=false:=beq_eq_false_iff_ne.mpr h
   simp only [List.lookup,hb,if_neg h]
 | (k,x) :: r=>by
  have ih:=tx f g v r
  rw [show w6 f v ((k,x) :: r)=(if k=f then (k,v) :: r else (k,x) :: w6 f v r) from rfl]
  by_cases hk:k=f
  ·rw [if_pos hk]
   by_cases h:g=k
   ·have hb:(g == k)=true:=beq_iff_eq.mpr h
    simp only [List.lookup,hb,if_pos (h.trans hk)]
   ·have hb:(g == k)=false:=beq_eq_false_iff_ne.mpr h
    simp only [List.lookup,hb,if_neg (fun e:g=f=>h (e.trans hk.symm))]
  ·rw [if_neg hk]
   by_cases h:g=k
   ·have hb:(g == k)=true:=beq_iff_eq.mpr h
    simp only [List.lookup,hb,if_neg (fun e:g=f=>hk (h.symm.trans e))]
   ·have hb:(g == k)=false:=beq_eq_false_iff_ne.mpr h
    simp only [List.lookup,hb]
    exact ih
theorem u0 (f:Str) (v:V):∀ fs:List (Str × V),f ∈ (w6 f v fs).map (·.1)∧∀ g,g ∈ fs.map (·.1)→g ∈ (w6 f v fs).map (·.1)
 | []=>⟨by simp [w6],fun g h=>by simp at h⟩
 | (k,x) :: r=>by
  obtain ⟨i1,i2⟩:=u0 f v r
  rw [show w6 f v ((k,x) :: r)=(if k=f then (k,v) :: r else (k,x) :: w6 f v r) from rfl]
  by_cases hk:k=f
  ·rw [if_pos hk]
   subst hk
   exact ⟨by simp,fun g h=>by simpa using h⟩
  ·rw [if_neg hk]
   refine ⟨?_,fun g h=>?_⟩
   ·rw [List.map_cons]
    exact List.mem_cons_of_mem _ i1
   ·rw [List.map_cons] at h ⊢
    rcases List.mem_cons.mp h with e | e
    ·exact List.mem_cons.mpr (.inl e)
    ·exact List.mem_cons_of_mem _ (i2 g e)
theorem tz (f:Str) (v:V):∀ fs:List (Str × V),(w6 f v fs).length ≤ fs.length + 1
 | []=>by simp [w6]
 | (k,x) :: r=>by
  have ih:=tz f v r
  rw [show w6 f v ((k,x) :: r)=(if k=f then (k,v) :: r else (k,x) :: w6 f v r) from rfl]
  by_cases hk:k=f
  ·rw [if_pos hk,List.length_cons,List.length_cons]; omega
  ·rw [if_neg hk,List.length_cons,List.length_cons]; omega
theorem RelO.some_of {v:V} {o:Option Value} (r:RelO (some v) o):∃ u,o=some u∧RelV v u:=by
 cases o with
 | none=>exact (show False from r).elim
 | some u=>exact ⟨u,rfl,r⟩
theorem RelO.none_of {o:Option Value} (r:RelO none o):o=none:=by
 cases o with
 | none=>rfl
 | some u=>exact (show False from r).elim
theorem gz {v:V} {u:Value} (r:RelV v u):PySem.W.handedIn u=true:=by
 cases v with
 | non=>cases (show u=Value.none from r); rfl
 | bl b=>cases (show u=Value.bool b from r); rfl
 | int i=>obtain ⟨t,e⟩:=(show ∃ t,u=Value.int i t from r); cases e; rfl
 | str x=>obtain ⟨t,e⟩:=(show ∃ t,u=Value.str x t from r); cases e; rfl
 | byt b=>obtain ⟨t,e⟩:=(show ∃ t,u=Value.bytes b t from r); cases e; rfl
 | flt b=>obtain ⟨t,e⟩:=(show ∃ t,u=Value.float b t from r); cases e; rfl
 | ref a=>cases (show u=Value.ref a from r); rfl
 | ty n=>cases (show u=Value.type n from r); rfl
section
variable {P:Program} {w:World} {H H':Hp} {h h':Heap} {a C dx:Addr} {fs fs':List (Str × V)}
theorem sr (hok:HOk P w H h) (e:H a=some (.ins C dx fs)):∃ mA,ObjM h a dx C mA∧(∀ f,RelO (fs.lookup f) (mA f))∧PySem.Within mA (fs.map (·.1))∧fs.length ≤ 1000∧H dx=some (.own a):=by
 obtain ⟨d,z,ne,ob,mA,n,r,q⟩:=(show ObjOk P w H h a (.ins C dx fs) from hok a _ e)
 exact ⟨mA,⟨ob,n,ne⟩,r,q,z,d⟩
end
structure Cls (K:PySem.W.Frag) (C:Addr):Prop where
 pg:PySem.W.plainGet K C Str.empty=true
 hd:PySem.W.hasDictIn K C=true
 po:PySem.W.plainOver K C=true
 sa:PySem.W.findIn K (.ref C) "__setattr__"=some (some (.builtin "object.__setattr__"))
theorem Cls.get {K:PySem.W.Frag} {C:Addr} (c:Cls K C) (f:Str):PySem.W.plainGet K C f=true:=c.pg
def NoAttr (K:PySem.W.Frag) (C:Addr) (f:Str):Prop:=PySem.W.findIn K (.ref C) f=some none
theorem NoAttr.taker {K:PySem.W.Frag} {C:Addr} {f:Str} (n:NoAttr K C f):PySem.W.takerIn K C f=some none:=by
 unfold PySem.W.takerIn
 rw [show PySem.W.findIn K (.ref C) f=some none from n]
 rfl
structure Zh (K:PySem.W.Frag) (C:Addr) (m:Str) (f:Addr):Prop where
 at_:PySem.W.findIn K (.ref C) m=some (some (.ref f))
 fn:PySem.W.isFn K (.ref f)=true
 kp:PySem.W.keepIn K (.ref f)=true
section
variable {X:Cx} {pins:List (Addr × Obj)} {σ:St} {H:Hp} {s:Shared} {a C dx:Addr} {fs:List (Str × V)} {f:Str} {v:V} {A:Around} {E:Value→Shared→Prop}
theorem jb {b:Bool} {Q:Value→Shared→Prop} (I:Inv X pins σ H s) (e:H a=some (.ins C dx fs)) (c:Cls X.K C) (n:NoAttr X.K C f) (l:fs.lookup f=some v)
  (h:∀ u s',Inv X pins σ H s'→RelV v u→Q u s'):wpAny (model X.prog X.w) A (getAttr (.ref a) f b) Q E s:=by
 obtain ⟨mA,O,r,_,_,_⟩:=sr I.hok e
 obtain ⟨u,hu,ru⟩:=RelO.some_of (v:=v) (o:=mA f) (by rw [← l]; exact r f)
 exact aD I.kIn O (c.get f) c.hd n hu (gz ru) (h u _ (I.tok _) ru)
theorem rF {m:Str} {g:Addr} {pl:Sem Bool} {Q:Value × List Value→Shared→Prop} (I:Inv X pins σ H s) (e:H a=some (.ins C dx fs)) (c:Cls X.K C) (k:Zh X.K C m g) (l:fs.lookup m=none)
  (h:Q (.ref g,[.ref a]) s):wpAny (model X.prog X.w) A (getMethod (.ref a) m pl) Q E s:=by
 obtain ⟨mA,O,r,_,_,_⟩:=sr I.hok e
 have hn:mA m=none:=RelO.none_of (by rw [← l]; exact r m)
 exact dE I.kIn O (c.get m) k.at_ k.fn hn h
theorem lq {y:V} {u:Value} {Q:Unit→Shared→Prop} (I:Inv X pins σ H s) (e:H a=some (.ins C dx fs)) (c:Cls X.K C) (n:NoAttr X.K C f) (hl:fs.length < 1000) (ry:RelV y u)
  (h:∀ s',Inv X pins σ (upd H a (.ins C dx (w6 f y fs))) s'→Q () s'):wpAny (model X.prog X.w) A (setAttr (.ref a) f u) Q E s:=by
 obtain ⟨mA,O,r,wi,_,ho⟩:=sr I.hok e
 have hz:(fs.map (·.1)).length ≤ sizeLine:=by rw [List.length_map,sizeLine_eq]; omega
 refine cV I.kIn O c.sa c.po n.taker c.hd wi hz fun h' O' sb=>h _ ?_
 have hd:∃ o,h'.get? dx=some o:=let ⟨o,_,_,e',_⟩:=O'.ns; ⟨o,e'⟩
 refine I.write (x:=a) (e:=dx) (by rw [e]; exact True.intro) (.inr ho) (fun b q hb z=>(sb.2 b hb).trans z) hd ?_
 refine ⟨by rw [zx O.ne]; exact ho,?_,O.ne,O'.obj,_,O'.ns,fun g=>?_,fun g hg=>?_⟩
 ·have:=tz f y fs; omega
 ·show RelO ((w6 f y fs).lookup g) (if g=f then some u else mA g)
  rw [tx]
  by_cases q:g=f
  ·rw [if_pos q,if_pos q]; exact ry
  ·rw [if_neg q,if_neg q]; exact r g
 ·by_cases q:g=f
  ·rw [q]; exact (u0 f y fs).1
  ·refine (u0 f y fs).2 g (wi g fun z=>hg ?_)
   show (if g=f then some u else mA g)=none
   rw [if_neg q]; exact z
theorem Inv.made (I:Inv X pins σ H s):Inv X pins σ (upd (upd H s.heap.objs.size (.own (s.heap.objs.size + 1))) (s.heap.objs.size + 1) (.ins C s.heap.objs.size []))
  { s with heap:=(s.heap.push PySem.W.emptyDict).push (PySem.W.instObj C s.heap.objs.size) }:=by
 have e1:(s.heap.push PySem.W.emptyDict).get? s.heap.objs.size=some PySem.W.emptyDict:=Heap.get?_push_size s.heap rfl
 have e2:((s.heap.push PySem.W.emptyDict).push (PySem.W.instObj C s.heap.objs.size)).get? (s.heap.objs.size + 1)=some (PySem.W.instObj C s.heap.objs.size):=by
  have:=Heap.get?_push_size (s.heap.push PySem.W.emptyDict) (o:=PySem.W.instObj C s.heap.objs.size) rfl
  rwa [Heap.size_push] at this
 have e3:(s.heap.push PySem.W.emptyDict).Ns s.heap.objs.size (fun _=>none):=⟨PySem.W.emptyDict,#[],_,e1,rfl,(fun e he=>absurd he (by simp)),fun _=>rfl⟩
 have I1:=I.laid (a:=s.heap.objs.size) (o:=.own (s.heap.objs.size + 1)) (h':=s.heap.push PySem.W.emptyDict) (t':=s.toks) (fun b u q=>Heap.get?_push_of_some _ q) (Nat.le_refl _) ⟨_,e1⟩
 refine I1.laid (a:=s.heap.objs.size + 1) (o:=.ins C s.heap.objs.size []) (t':=s.toks) (fun b u q=>Heap.get?_push_of_some _ q) (Nat.le_of_eq (Heap.size_push _ _)) ?_
 have ne:s.heap.objs.size ≠ s.heap.objs.size + 1:=Nat.ne_of_lt (Nat.lt_succ_self _)
 refine ⟨by rw [zx ne,zA],Nat.zero_le _,ne,e2,fun _=>none,(Heap.Ns1.of_empty e3).at fun o q=>Heap.get?_push_of_some _ q,fun _=>True.intro,fun y hy=>absurd rfl hy⟩
theorem Zc {prog:Program} {w:World} {env:Env} {e:Expr} {f:Str} {pos:Pos} {s:Shared} {Q:Value→Shared→Prop} (hb:attributeBase e f env (eval e env)=eval e env)
  (h:wpAny (model prog w) A (eval e env) (fun o s₁=>wpAny (model prog w) A (getAttr o f true) Q E s₁) E s):wpAny (model prog w) A (eval (.Attribute e f pos) env) Q E s:=
 Attribute_any_ h (by rw [arm_eval_Attribute,hb])
end
def Qy (K:PySem.W.Frag) (ta:TE) (f:Str):TE:=fun σ H Q=>ta σ H fun x H1=>∃ a C dx fs v,x=.ref a∧H1 a=some (.ins C dx fs)∧Cls K C∧NoAttr K C f∧fs.lookup f=some v∧Q v H1
def WN (K:PySem.W.Frag) (ta tv:TE) (f:Str):TS:=fun D σ H=>tv σ H fun y H1=>ta σ H1 fun x H2=>∃ a C dx fs,x=.ref a∧H2 a=some (.ins C dx fs)∧Cls K C∧NoAttr K C f∧fs.length < 1000∧
 D.nx σ (upd H2 a (.ins C dx (w6 f y fs)))
section
variable {X:Cx} {o e value:Expr} {f:Str} {pos pos' tpos:Pos} {ta tv:TE}
theorem Yl (he:PE X e ta) (hb:attributeBase e f X.env (eval e X.env)=eval e X.env):PE X (.Attribute e f pos) (Qy X.K ta f):=by
 intro pins s σ H Q I h
 refine Zc hb (thn (he pins s σ H _ I h) fun u s1 ⟨x,H1,I1,rx,a,C,dx,fs,v,ex,ea,c,n,l,q⟩=>?_)
 subst ex
 obtain rfl:u=Value.ref a:=rx
 exact jb I1 ea c n l fun u' s2 I2 ru=>⟨v,H1,I2,ru,q⟩
theorem uK (ha:PE X o ta) (hv:PE X value tv) (hs:swapsWith value (some (.Attribute o f pos')) pos.line X.env=pure false):PS X (.Assign [.Attribute o f pos'] value pos) (WN X.K ta tv f):=by
 intro pins s σ H D I h
 refine plainObj_wpAny_Assign_Attribute (thn (hv pins s σ H _ I h) fun u s1 ⟨y,H1,I1,ry,q⟩=>thn (ha pins s1 σ H1 _ I1 q) fun ov s2 ⟨x,H2,I2,rx,a,C,dx,fs,ex,ea,c,n,l,q2⟩=>?_) hs
 subst ex
 obtain rfl:ov=Value.ref a:=rx
 exact lq I2 ea c n l ry fun s3 I3=>⟨σ,_,I3,q2⟩
end
section
variable {X:Cx} {pins:List (Addr × Obj)} {σ:St} {H:Hp} {s:Shared} {A:Around} {E:Value→Shared→Prop} {Q:Value→Shared→Prop} {c:Value} {b:Bool}
inductive vH (K:PySem.W.Frag) (H:Hp):V→Value→Prop where
 | non:vH K H .non (.type "NoneType")
 | bl (x:Bool):vH K H (.bl x) (.type "bool")
 | int (i:Int):vH K H (.int i) (.type "int")
 | str (x:Str):vH K H (.str x) (.type "str")
 | flt (x:UInt64):vH K H (.flt x) (.type "float")
 | lst {a:Addr} {xs:List V} (e:H a=some (.lst xs)):vH K H (.ref a) (.type "list")
 | frz {a:Addr} {o:Obj} {xs:List V} (e:H a=some (.frz o (.lst xs))):vH K H (.ref a) (.type "list")
 | tup {a:Addr} {xs:List V} (e:H a=some (.tup xs)):vH K H (.ref a) (.type "tuple")
 | dK {a:Addr} {kvs:List (Key × V)} (e:H a=some (.dK kvs)):vH K H (.ref a) (.type "dict")
 | dT {a:Addr} {kvs:List (List Key × V)} (e:H a=some (.dT kvs)):vH K H (.ref a) (.type "dict")
 | ins {a C dx:Addr} {fs:List (Str × V)} (e:H a=some (.ins C dx fs)) (cl:Cls K C) (ha:PySem.W.findIn K (.ref C) "__class__"=some (some (.builtin "object.__class__")))
   (hn:PySem.W.specialIn K (.builtin "object.__class__") "__get__"=some (some (.builtin "getset_descriptor.__get__"))) (htk:PySem.W.takesIn K (.builtin "object.__class__")=some true)
   (hm:PySem.W.mroIn K C (.type "object")=some true):vH K H (.ref a) (.ref C)
theorem pC {x:V} {u t:Value} (I:Inv X pins σ H s) (rx:RelV x u) (ty:vH X.K H x t) (e:PySem.W.kitOne X.K t c=some b) (h:∀ tk,Q (.bool b) { s with toks:=tk }):
  wpAny (model X.prog X.w) A (call (.builtin "isinstance") [u,c]) Q E s:=by
 cases ty with
 | non=>cases (show u=Value.none from rx); exact PySem.W.kia_one PySem.W.kitx_none I.kIn True.intro e (fun z=>nomatch z) h
 | bl y=>cases (show u=Value.bool y from rx); exact PySem.W.kia_one PySem.W.kitx_bool I.kIn True.intro e (fun z=>nomatch z) h
 | int i=>obtain ⟨t,q⟩:=(show ∃ t,u=Value.int i t from rx); cases q; exact PySem.W.kia_one PySem.W.kitx_int I.kIn True.intro e (fun z=>nomatch z) h
 | str y=>obtain ⟨t,q⟩:=(show ∃ t,u=Value.str y t from rx); cases q; exact PySem.W.kia_one PySem.W.kitx_str I.kIn True.intro e (fun z=>nomatch z) h
 | flt y=>obtain ⟨t,q⟩:=(show ∃ t,u=Value.float y t from rx); cases q; exact PySem.W.kia_one PySem.W.kitx_float I.kIn True.intro e (fun z=>nomatch z) h
 | @lst a xs ea=>
  cases (show u=Value.ref a from rx)
  obtain ⟨_,_,n,_,h1⟩:=(show ObjOk X.prog X.w H s.heap a (.lst xs) from I.hok a _ ea)
  exact PySem.W.kia_one PySem.W.kitx_list I.kIn ⟨_,h1,rfl⟩ e (fun z=>nomatch z) h
 | @frz a ob xs ea=>
  cases (show u=Value.ref a from rx)
  obtain ⟨_,_,_,n,_,h1⟩:=(show ObjOk X.prog X.w H s.heap a (.frz ob (.lst xs)) from I.hok a _ ea)
  exact PySem.W.kia_one PySem.W.kitx_list I.kIn ⟨_,h1,rfl⟩ e (fun z=>nomatch z) h
 | @tup a xs ea=>
  cases (show u=Value.ref a from rx)
  obtain ⟨_,_,_,p⟩:=(show ObjOk X.prog X.w H s.heap a (.tup xs) from I.hok a _ ea)
  obtain ⟨o,h1,h2,_⟩:=p
  exact PySem.W.kia_one PySem.W.kitx_tuple I.kIn ⟨o,h1,h2⟩ e (fun z=>nomatch z) h
 | @dK a kvs ea=>
  cases (show u=Value.ref a from rx)
  obtain ⟨_,_,vs,_,p⟩:=(show ObjOk X.prog X.w H s.heap a (.dK kvs) from I.hok a _ ea)
  obtain ⟨o,es,ep,h1,h2,_⟩:=p
  exact PySem.W.kia_one PySem.W.kitx_dict I.kIn ⟨o,h1,h2.1⟩ e (fun z=>nomatch z) h
 | @dT a kvs ea=>
  cases (show u=Value.ref a from rx)
  obtain ⟨_,_,xs,_,o,es,ep,h1,h2,_⟩:=(show ObjOk X.prog X.w H s.heap a (.dT kvs) from I.hok a _ ea)
  exact PySem.W.kia_one PySem.W.kitx_dict I.kIn ⟨o,h1,h2.1⟩ e (fun z=>nomatch z) h
 | @ins a C dx fs ea cl ha hn htk hm=>
  cases (show u=Value.ref a from rx)
  obtain ⟨mA,O,_⟩:=sr I.hok ea
  obtain ⟨od,J,_⟩:=O.look
  exact PySem.W.kia_one (PySem.W.kitx_own (cl.get _) cl.hd ha hn htk hm) I.kIn J e (fun z=>nomatch z) h
end
end L2
namespace L2
open PySem PySem.Spec PyProof.Rows
structure Room (k:Nat) (A:Around):Prop where
 hd:A.handled=none
 dp:A.depth + 3 * k + 5 < recursionLimit
 un:A.units + 16 * k + 200 < cLine
theorem Room.mono {j k:Nat} {A:Around} (r:Room k A) (h:j ≤ k):Room j A:=⟨r.hd,by have:=r.dp; omega,by have:=r.un; omega⟩
theorem Room.deeper {k:Nat} {A:Around} (r:Room (k + 1) A) (env:Env):Room k (A.deeper env):=
 ⟨r.hd,by have:=r.dp; show A.depth + 1 + 3 * k + 5 < _; omega,by have:=r.un; show A.units + 3 + 16 * k + 200 < _; omega⟩
theorem Room.in1 {k:Nat} {A:Around} (r:Room (k + 1) A):Room k A.in1:=
 ⟨r.hd,by have:=r.dp; show A.depth + 3 * k + 5 < _; omega,by have:=r.un; show A.units + 1 + 16 * k + 200 < _; omega⟩
theorem kC {A:Around} {C:Addr} {us:List Value} {kw:List (Str × Value)}:(A.under (.builtin "type.__call__" ⟨.ref C :: us,kw⟩)).depth=A.depth + 1:=by
 first | rfl | simp [Around.under,Code.weight,Code.isCreation,Code.isGuard,Code.isCaller,Code.frames,Code.isFrame,guardIds]
theorem kB {A:Around} {C:Addr} {us:List Value} {kw:List (Str × Value)}:(A.under (.builtin "type.__call__" ⟨.ref C :: us,kw⟩)).units=A.units + 1:=by
 first | rfl | simp [Around.under,Code.cUnits,Code.frames,Code.isFrame]
theorem Room.make {k:Nat} {A:Around} (r:Room (k + 1) A) (C:Addr) (us:List Value) (kw:List (Str × Value)):Room k (A.under (.builtin "type.__call__" ⟨.ref C :: us,kw⟩)):=
 ⟨r.hd,by have:=r.dp; rw [kC]; omega,by have:=r.un; rw [kB]; omega⟩
theorem Room.depth {k:Nat} {A:Around} (r:Room k A):A.depth < recursionLimit:=by have:=r.dp; omega
theorem Room.units {k:Nat} {A:Around} (r:Room k A):A.units + 64 < cLine:=by have:=r.un; omega
def WD:TA:=fun _ H Q=>Q [] H
def WI (ta:TE) (tr:TA):TA:=fun σ H Q=>ta σ H fun x H1=>tr σ H1 fun xs H2=>Q (x :: xs) H2
section
variable {X:Cx} {e:Expr} {es:List Expr} {te:TE} {t:TA} {pos:Pos}
theorem yM:PA X [] WD:=fun _ _ _ _ H Q I h=>Calls.spliced_nil ⟨[],H,I,.nil,h⟩
theorem zQ (ha:PE X e te) (hr:PA X es t) (hs:starEach (e :: es) X.env=(false,eval e X.env) :: starEach es X.env:=by rfl):PA X (e :: es) (WI te t):=by
 intro pos pins s σ H Q I h
 rw [hs]
 show wpAny _ _ (spliced ((false,eval e X.env) :: backTo pos (starEach es X.env))) _ _ s
 refine Calls.spliced_cons (thn (ha pins s σ H _ I h) fun u s1 ⟨x,H1,I1,r1,q1⟩=>?_)
 exact thn (hr pos pins s1 σ H1 _ I1 q1) fun us s2 ⟨xs,H2,I2,r2,q2⟩=>⟨x :: xs,H2,I2,.cons r1 r2,q2⟩
def Qq (t:TA):TE:=fun σ H Q=>t σ H fun xs H1=>xs.length ≤ sizeLine∧∀ p,H1 p=none→Q (.ref p) (upd H1 p (.tup xs))
def Qv (t:TA):TE:=fun σ H Q=>t σ H fun xs H1=>xs.length ≤ sizeLine∧∀ p,H1 p=none→Q (.ref p) (upd H1 p (.lst xs))
theorem fF {x1} (h:PA X es t):PE X (.Tuple es x1 pos) (Qq t):=by
 intro pins s σ H Q I hq
 refine wpAny_Tuple_spliced (thn (h pos pins s σ H _ I hq) fun us s1 ⟨xs,H1,I1,r,z,q⟩=>⟨by rw [← r.length]; exact z,?_⟩)
 have hf:H1 s1.heap.objs.size=none:=I1.hok.fresh (Nat.le_refl _)
 refine ⟨.ref s1.heap.objs.size,upd H1 s1.heap.objs.size (.tup xs),I1.laid (t':=s1.toks) (fun b u e=>Heap.get?_push_of_some _ e) (Nat.le_refl _) ?_,rfl,q _ hf⟩
 exact ⟨z,us,r,⟨_,Heap.get?_push_size _ rfl,rfl,_,rfl⟩⟩
theorem fH (h:PA X es t):PE X (.List es pos) (Qv t):=by
 intro pins s σ H Q I hq
 refine wpAny_List_spliced (thn (h pos pins s σ H _ I hq) fun us s1 ⟨xs,H1,I1,r,z,q⟩=>⟨by rw [← r.length]; exact z,?_⟩)
 have hf:H1 s1.heap.objs.size=none:=I1.hok.fresh (Nat.le_refl _)
 refine ⟨.ref s1.heap.objs.size,upd H1 s1.heap.objs.size (.lst xs),I1.laid (t':=s1.toks) (fun b u e=>Heap.get?_push_of_some _ e) (Nat.le_refl _) ?_,rfl,q _ hf⟩
 exact ⟨z,us,0,r,Heap.get?_push_size _ rfl⟩
end
abbrev Sp:=List V→Hp→VK→XK→Prop
abbrev CXT:=List Env→Hp→Shared→XK→Value→Shared→Prop
structure Env0 (P:Program) (w:World) (K:PySem.W.Frag) (mg:Str→Option Value) (base:Heap) (A:Around) (outer:List Env) (s:Shared) (H:Hp):Prop where
 frames:A.frames=some outer
 mod:Mod K mg base
 bs:∀ b o,base.get? b=some o→s.heap.get? b=some o∧H b=none
 bsz:base.objs.size ≤ s.heap.objs.size
 funs:s.heap.FunFrames base outer
 frf:∀ b ∈ frs outer,H b=none
 hok:HOk P w H s.heap
 bare:AllBare s.gens
def CE (outer:List Env) (P:Program) (w:World) (H:Hp) (s:Shared) (Q:VK) (u:Value) (s':Shared):Prop:=
 ∃ v H',s'.os=s.os∧AllBare s'.gens∧Un (frs outer) [] H H' s.heap s'.heap∧HOk P w H' s'.heap∧RelV v u∧Q v H'
def CR (CX:CXT) (outer:List Env) (P:Program) (w:World) (H:Hp) (s:Shared) (Q:VK) (E:XK) (r:Result) (s':Shared):Prop:=
 match r with
 | .ok (.ret u)=>CE outer P w H s Q u s'
 | .ok _=>False
 | .error e=>CX outer H s E e s'
structure FnOk (P:Program) (w:World) (K:PySem.W.Frag) (mg:Str→Option Value) (base:Heap) (CX:CXT) (k:Nat) (f:Addr) (fd:FuncData) (ps:List Str) (sp:Sp):Prop where
 len:∀ vs H Q E,sp vs H Q E→vs.length=ps.length
 run:∀ (A:Around) (outer:List Env) (s:Shared) (H:Hp) (args:Args) (us:List Value) (vs:List V) (Q:VK) (E:XK),Room k A→Env0 P w K mg base A outer s H→BindsTo s fd args (ps.zip us)→Vals vs us→sp vs H Q E→
  codeAny (model P w) A (.call (.ref f) args) (CR CX outer P w H s Q E) s
theorem FnOk.mono {P:Program} {w:World} {K:PySem.W.Frag} {mg:Str→Option Value} {base:Heap} {CX:CXT} {j k:Nat} {f:Addr} {fd:FuncData} {ps:List Str} {sp:Sp} (F:FnOk P w K mg base CX j f fd ps sp) (h:j ≤ k):
  FnOk P w K mg base CX k f fd ps sp:=⟨F.len,fun A outer s H args us vs Q E hr=>F.run A outer s H args us vs Q E (hr.mono h)⟩
theorem FnOk.imp {P:Program} {w:World} {K:PySem.W.Frag} {mg:Str→Option Value} {base:Heap} {CX:CXT} {k:Nat} {f:Addr} {fd:FuncData} {ps:List Str} {sp sp':Sp} (F:FnOk P w K mg base CX k f fd ps sp)
  (h:∀ vs H Q E,sp' vs H Q E→sp vs H Q E):FnOk P w K mg base CX k f fd ps sp':=
 ⟨fun vs H Q E q=>F.len vs H Q E (h _ _ _ _ q),fun A outer s H args us vs Q E hr he hb hv hs=>F.run A outer s H args us vs Q E hr he hb hv (h _ _ _ _ hs)⟩
theorem Env0.make {P:Program} {w:World} {K:PySem.W.Frag} {mg:Str→Option Value} {base:Heap} {A:Around} {outer:List Env} {s:Shared} {H:Hp} (e:Env0 P w K mg base A outer s H) (C:Addr) (us:List Value) (kw:List (Str × Value)):
  Env0 P w K mg base (A.under (.builtin "type.__call__" ⟨.ref C :: us,kw⟩)) outer s H:=⟨by first | exact e.frames | (simpa [Around.under,Code.envs,Code.isFrame,pushEnvs] using e.frames),e.mod,e.bs,e.bsz,e.funs,e.frf,e.hok,e.bare⟩
theorem Env0.in1 {P:Program} {w:World} {K:PySem.W.Frag} {mg:Str→Option Value} {base:Heap} {A:Around} {outer:List Env} {s:Shared} {H:Hp} (e:Env0 P w K mg base A outer s H):
  Env0 P w K mg base A.in1 outer s H:=⟨e.frames,e.mod,e.bs,e.bsz,e.funs,e.frf,e.hok,e.bare⟩
section
variable {X:Cx} {pins:List (Addr × Obj)} {σ:St} {H:Hp} {s s':Shared}
theorem Inv.env0 (I:Inv X pins σ H s):Env0 X.prog X.w X.K X.mg X.base X.A X.stack s H:=
 ⟨I.ok.frames,I.ok.mod,I.bs,Nat.le_trans I.ok.bsz I.sz,I.stack,I.stkFree,I.hok,I.bare⟩
theorem Inv.after {Q:VK} {u:Value} (I:Inv X pins σ H s) (h:CE X.stack X.prog X.w H s Q u s'):EP X pins σ Q u s':=by
 obtain ⟨v,H',os,bare,un,hok,r,q⟩:=h
 obtain ⟨hh,g,d,t,os'⟩:=s'
 obtain rfl:os'=s.os:=os
 exact ⟨v,H',I.call (h':=hh) (g':=g) (d':=d) (t':=t) (ch:=[]) un hok bare (fun b z=>absurd z (by simp)),r,q⟩
end
def WJ (sp:Sp) (dvs:List V) (E:XK) (t:TA):TE:=fun σ H Q=>t σ H fun vs H1=>sp (vs ++ dvs) H1 Q E
def WF (C:Addr) (sp:Sp) (dvs:List V) (E:XK) (t:TA):TE:=fun σ H Q=>t σ H fun vs H1=>∀ x dx,H1 x=none→H1 dx=none→dx ≠ x→
 sp (.ref x :: (vs ++ dvs)) (upd (upd H1 dx (.own x)) x (.ins C dx [])) (fun v H2=>v=.non∧Q (.ref x) H2) E
def Binds (K:PySem.W.Frag) (fd:FuncData) (ps:List Str) (ds:List Value):Prop:=
 ∀ (s:Shared) (us:List Value),K.In s.heap→(us ++ ds).length=ps.length→BindsTo s fd ⟨us,[]⟩ (ps.zip (us ++ ds))
theorem Binds.all {K:PySem.W.Frag} {fd:FuncData} {ps:List Str} (h:∀ us:List Value,us.length=ps.length→bindArgs fd ⟨us,[]⟩=pure (ps.zip us)):Binds K fd ps []:=fun s us _ hl=>by
 rw [List.append_nil] at hl ⊢
 exact .of_eq (h us hl)
def tu (CX:CXT) (X:Cx) (E:XK):Prop:=∀ (pins:List (Addr × Obj)) (σ:St) (H:Hp) (s:Shared) (e:Value) (s':Shared),Inv X pins σ H s→CX X.stack H s E e s'→X.xe e s'
section
variable {X:Cx} {CX:CXT} {k:Nat} {f C:Addr} {fd:FuncData} {ps:List Str} {sp:Sp} {dvs:List V} {ds:List Value} {E:XK} {x m:Str} {p pos apos:Pos} {e o:Expr} {es:List Expr} {ta:TE} {t:TA}
theorem lD {pins:List (Addr × Obj)} {σ:St} {H:Hp} {s:Shared} {Q:VK} {us:List Value} {vs:List V} (F:FnOk X.prog X.w X.K X.mg X.base CX k f fd ps sp) (hr:Room k X.A) (hb:Binds X.K fd ps ds) (hd:Vals dvs ds) (hx:tu CX X E)
  (I:Inv X pins σ H s) (r:Vals vs us) (h:sp (vs ++ dvs) H Q E):wpAny (model X.prog X.w) X.A (call (.ref f) us) (EP X pins σ Q) X.xe s:=by
 have r2:Vals (vs ++ dvs) (us ++ ds):=r.append hd
 have hl:(us ++ ds).length=ps.length:=by rw [← r2.length]; exact F.len _ _ _ _ h
 refine wpAny_call (codeAny_mono (F.run X.A X.stack s H ⟨us,[]⟩ (us ++ ds) (vs ++ dvs) Q E hr I.env0 (hb s us I.kIn hl) r2 h) fun r s' hq=>?_)
 cases r with
 | error e=>exact hx pins σ H s e s' I hq
 | ok fl=>
  cases fl with
  | ret u=>exact I.after hq
  | next=>exact False.elim hq
  | brk=>exact False.elim hq
  | cont=>exact False.elim hq
theorem vO (F:FnOk X.prog X.w X.K X.mg X.base CX k f fd ps sp) (hr:Room k X.A) (hg:Gl X x) (hm:X.mg x=some (.ref f)) (hk:PySem.W.keepIn X.K (.ref f)=true) (hb:Binds X.K fd ps ds) (hd:Vals dvs ds) (hx:tu CX X E)
  (ha:PA X (e :: es) t) (hdb:(x == ("__debug__":Str))=false:=by decide) (he:starEach (e :: es) X.env=(false,eval e X.env) :: starEach es X.env:=by rfl) (hpl:(backTo pos (starEach es X.env)).any (·.1)=false:=by rfl):
  PE X (.Call (.Name x p) (e :: es) [] pos) (WJ sp dvs E t):=by
 intro pins s σ H Q I h
 refine wpAny_Call_Name_kw (x6 I hg hm ?_ hdb)
 refine PySem.W.callWith_K (h₀:=X.base) I.ok.mod.kin hk (thn (ha pos pins s σ H _ I h) fun us s1 ⟨vs,H1,I1,r,q⟩=>⟨I1.kIn,?_⟩) he hpl
 exact lD F hr hb hd hx I1 r q
structure Mk (K:PySem.W.Frag) (C f:Addr):Prop where
 makes:PySem.W.makesIn K C=true
 init:PySem.W.findIn K (.ref C) "__init__"=some (some (.ref f))
 fn:PySem.W.isFn K (.ref f)=true
 kp:PySem.W.keepIn K (.ref C)=true
theorem fk {pins:List (Addr × Obj)} {σ:St} {H:Hp} {s:Shared} {Q:VK} {us:List Value} {vs:List V} (M:Mk X.K C f) (F:FnOk X.prog X.w X.K X.mg X.base CX k f fd ps sp) (hr:Room (k + 1) X.A) (hb:Binds X.K fd ps ds) (hd:Vals dvs ds)
  (hx:tu CX X E) (I:Inv X pins σ H s) (r:Vals vs us)
  (h:∀ x dx,H x=none→H dx=none→dx ≠ x→sp (.ref x :: (vs ++ dvs)) (upd (upd H dx (.own x)) x (.ins C dx [])) (fun v H2=>v=.non∧Q (.ref x) H2) E):
  wpAny (model X.prog X.w) X.A (call (.ref C) us) (EP X pins σ Q) X.xe s:=by
 have hq:=h (s.heap.objs.size + 1) s.heap.objs.size (I.hok.fresh (Nat.le_succ _)) (I.hok.fresh (Nat.le_refl _)) (Nat.ne_of_lt (Nat.lt_succ_self _))
 have I2:=Inv.made (C:=C) I
 have r2:Vals (V.ref (s.heap.objs.size + 1) :: (vs ++ dvs)) (Value.ref (s.heap.objs.size + 1) :: (us ++ ds)):=.cons rfl (r.append hd)
 have hl:(Value.ref (s.heap.objs.size + 1) :: us ++ ds).length=ps.length:=by
  have e:=r2.length
  rw [F.len _ _ _ _ hq] at e
  exact e.symm
 refine wpAny_call (dm (f:=f) I.kIn M.makes M.init (beq_iff_eq.mp M.fn) (codeAny_mono (F.run _ X.stack _ _ ⟨Value.ref (s.heap.objs.size + 1) :: us,[]⟩ (Value.ref (s.heap.objs.size + 1) :: (us ++ ds)) _ _ E (hr.make C us [])
  (I2.env0.make C us []) (hb _ (Value.ref (s.heap.objs.size + 1) :: us) I2.kIn hl) r2 hq) fun r s' hq'=>?_))
 cases r with
 | error e=>exact hx pins σ _ _ e s' I2 hq'
 | ok fl=>
  cases fl with
  | ret u=>
   obtain ⟨v,H',I3,rv,ev,q3⟩:=I2.after hq'
   subst ev
   exact ⟨rv,⟨V.ref (s.heap.objs.size + 1),H',I3,rfl,q3⟩⟩
  | next=>exact False.elim hq'
  | brk=>exact False.elim hq'
  | cont=>exact False.elim hq'
theorem bg (M:Mk X.K C f) (F:FnOk X.prog X.w X.K X.mg X.base CX k f fd ps sp) (hr:Room (k + 1) X.A) (hg:Gl X x) (hm:X.mg x=some (.ref C)) (hb:Binds X.K fd ps ds) (hd:Vals dvs ds) (hx:tu CX X E)
  (ha:PA X (e :: es) t) (hdb:(x == ("__debug__":Str))=false:=by decide) (he:starEach (e :: es) X.env=(false,eval e X.env) :: starEach es X.env:=by rfl) (hpl:(backTo pos (starEach es X.env)).any (·.1)=false:=by rfl):
  PE X (.Call (.Name x p) (e :: es) [] pos) (WF C sp dvs E t):=by
 intro pins s σ H Q I h
 refine wpAny_Call_Name_kw (x6 I hg hm ?_ hdb)
 refine PySem.W.callWith_K (h₀:=X.base) I.ok.mod.kin M.kp (thn (ha pos pins s σ H _ I h) fun us s1 ⟨vs,H1,I1,r,q⟩=>⟨I1.kIn,?_⟩) he hpl
 exact fk M F hr hb hd hx I1 r q
end
section
variable {X:Cx} {CX:CXT} {k:Nat} {f C:Addr} {fd:FuncData} {ps ks:List Str} {sp:Sp} {E:XK} {x m:Str} {p pos apos kpos:Pos} {e o:Expr} {es:List Expr} {kws:List Keyword} {te ta:TE} {t tk:TA} {nm:Option Str}
variable {g:List Value→List Value→List Value} {gV:List V→List V→List V}
end
structure zi (N P:List Str) (sc:Scope):Prop where
 kind:sc.kind=.function
 co:sc.isCoroutine=false
 gen:sc.isGenerator=false
 nd:N.Nodup
 pre:N.take P.length=P
 par:∀ x ∈ P,sc.names.lookup x=some .local∨sc.names.lookup x=some .cell
 nofree:∀ y ∈ sc.names,y.2 ≠ .free
theorem pO {kindOf:Str→Option NameKind} {x:Str}:∀ {binds:List (Str × Value)} {m:Str→Option Value},(∀ v,(x,v) ∉ binds)→bindL kindOf binds m x=m x
 | [],_,_=>rfl
 | (n,v) :: r,m,h=>by
  unfold bindL
  rw [pO fun w hw=>h w (List.mem_cons_of_mem _ hw)]
  split
  ·have:x ≠ n:=by rintro rfl; exact h v List.mem_cons_self
   simp [this]
  ·rfl
theorem pQ {kindOf:Str→Option NameKind} {x:Str}:∀ {binds:List (Str × Value)} {m:Str→Option Value},(∀ v,(x,v) ∉ binds)→bindC kindOf binds m x=m x
 | [],_,_=>rfl
 | (n,v) :: r,m,h=>by
  unfold bindC
  rw [pQ fun w hw=>h w (List.mem_cons_of_mem _ hw)]
  split
  ·rfl
  ·have:x ≠ n:=by rintro rfl; exact h v List.mem_cons_self
   simp [this]
theorem pP {kindOf:Str→Option NameKind} {x:Str} {v:Value}:∀ {P:List Str} {vs:List Value} {i:Nat} {m:Str→Option Value},P.Nodup→P[i]? = some x→vs[i]? = some v→kindOf x=some .local→
  bindL kindOf (P.zip vs) m x=some v
 | [],_,_,_,_,h,_,_=>by simp at h
 | _ :: _,[],_,_,_,_,h,_=>by simp at h
 | p :: P,w :: vs,0,m,nd,h1,h2,hk=>by
  simp at h1 h2; subst h1; subst h2
  show bindL kindOf ((p,w) :: P.zip vs) m p=_
  unfold bindL
  rw [pO fun v hv=>(List.nodup_cons.mp nd).1 (List.of_mem_zip hv).1,if_pos hk]
  simp
 | p :: P,w :: vs,i + 1,m,nd,h1,h2,hk=>by
  show bindL kindOf ((p,w) :: P.zip vs) m x=_
  unfold bindL
  exact pP (i:=i) (List.nodup_cons.mp nd).2 (by simpa using h1) (by simpa using h2) hk
theorem pR {kindOf:Str→Option NameKind} {x:Str} {v:Value}:∀ {P:List Str} {vs:List Value} {i:Nat} {m:Str→Option Value},P.Nodup→P[i]? = some x→vs[i]? = some v→kindOf x ≠ some .local→
  bindC kindOf (P.zip vs) m x=some v
 | [],_,_,_,_,h,_,_=>by simp at h
 | _ :: _,[],_,_,_,_,h,_=>by simp at h
 | p :: P,w :: vs,0,m,nd,h1,h2,hk=>by
  simp at h1 h2; subst h1; subst h2
  show bindC kindOf ((p,w) :: P.zip vs) m p=_
  unfold bindC
  rw [pQ fun v hv=>(List.nodup_cons.mp nd).1 (List.of_mem_zip hv).1,if_neg hk]
  simp
 | p :: P,w :: vs,i + 1,m,nd,h1,h2,hk=>by
  show bindC kindOf ((p,w) :: P.zip vs) m x=_
  unfold bindC
  exact pR (i:=i) (List.nodup_cons.mp nd).2 (by simpa using h1) (by simpa using h2) hk
def start (N:List Str) (vs:List V):St:=vs.map some ++ List.replicate (N.length - vs.length) none
def yC (CX:CXT) (P:Program) (w:World) (K:PySem.W.Frag) (mg:Str→Option Value) (base:Heap) (N:List Str) (qual:Str) (scope:Scope) (f:Addr) (cd:Value) (A:Around) (outer:List Env) (s:Shared) (H:Hp) (E:XK):Cx where
 prog:=P
 w:=w
 K:=K
 mg:=mg
 base:=base
 A:=A.deeper (envOfC qual scope s.heap.objs.size f cd)
 N:=N
 s₀:=s
 H₀:=H
 env:=envOfC qual scope s.heap.objs.size f cd
 outer:=outer
 stack:=envOfC qual scope s.heap.objs.size f cd :: outer
 ex:=[]
 calm:=true
 fn:=fun _=>true
 pn:=[]
 xe:=fun e s'=>wpAny (model P w) (A.deeper (envOfC qual scope s.heap.objs.size f cd)) (leaving (envOfC qual scope s.heap.objs.size f cd) e) (fun _ s''=>CX outer H s E e s'') (fun e' s''=>CX outer H s E e' s'') s'
theorem rQ {sc:Scope} {n:Nat} {x:Str} (h:sc.names.lookup x=some .cell):∃ c,(cellsFrom n sc.names []).lookup x=some c:=by
 have q:=PySem.W.cellsFrom_some sc.names n [] (.inl h)
 exact Option.isSome_iff_exists.mp q
theorem gu {CX:CXT} {P:Program} {w:World} {K:PySem.W.Frag} {mg:Str→Option Value} {base:Heap} {N ps:List Str} {qual:Str} {scope:Scope} {f:Addr} {cd:Value} {A:Around} {outer:List Env} {s s1:Shared} {H:Hp} {E:XK} {us:List Value} {vs:List V}
  (S:zi N ps scope) (hd:A.handled=none) (e0:Env0 P w K mg base A outer s H) (hl:vs.length=ps.length) (r:Vals vs us)
  (x:InCallC s s.heap.objs.size (bindL (envOfC qual scope s.heap.objs.size f cd).kindOf (ps.zip us) fun _=>none) (cellsFrom (s.heap.objs.size + 1) scope.names []) (bindC (envOfC qual scope s.heap.objs.size f cd).kindOf (ps.zip us) fun _=>none) s1):
  Inv (yC CX P w K mg base N qual scope f cd A outer s H E) [] (start N vs) H s1:=by
 have hpl:ps.length ≤ N.length:=by have:=congrArg List.length S.pre; rw [List.length_take] at this; omega
 obtain ⟨h1,tk,rfl,hk⟩:=x.done
 have noA:∀ b:Addr,b ∉ (yC CX P w K mg base N qual scope f cd A outer s H E).ex:=fun b z=>absurd (show b ∈ ([]:List Addr) from z) (by simp)
 refine ⟨⟨e0.mod,S.kind,rfl,rfl,Nat.le_refl _,fun y z c h1 h2=>?_,fun y hy=>?_,fun y c _ h=>?_,fun _=>hd,Around.frames_deeper e0.frames,.inr ⟨rfl,rfl⟩,fun b z=>absurd z (noA b),e0.bs,e0.bsz,fun b _ _=>noA b,fun b z=>absurd z (noA b),e0.funs,e0.frf⟩,
  rfl,e0.bare,Un.kept hk,⟨_,x.toInCall.ns,fun i y v h1 h2 h3=>?_⟩,fun y c h=>⟨_,x.cell y c h⟩,e0.hok.fresh (Nat.le_refl _),fun y c h=>?_,fun p hp=>absurd (show p ∈ ([]:List (Addr × Obj)) from hp) (by simp),e0.hok.kept hk,?_⟩
 ·exact name_of_addr x.apart (PySem.mem_of_lookup h1) (PySem.mem_of_lookup h2)
 ·have hy:scope.names.lookup y=some .cell∨scope.names.lookup y=some .free:=hy
  rcases hy with hy | hy
  ·exact rQ hy
  ·exact absurd rfl (S.nofree _ (PySem.mem_of_lookup hy))
 ·exact Nat.le_of_lt (x.above y c (PySem.mem_of_lookup h))
 ·have hi:i < vs.length:=by
   unfold start at h2
   by_cases hi:i < vs.length
   ·exact hi
   ·rw [List.getElem?_append_right (by simpa using hi)] at h2
    rw [List.getElem?_replicate] at h2
    split at h2 <;> cases h2
  have ha:vs[i]? = some v:=by
   unfold start at h2
   rw [List.getElem?_append_left (by simpa using hi),List.getElem?_map] at h2
   cases e:vs[i]? with
   | none=>rw [e] at h2; cases h2
   | some a=>rw [e] at h2; cases h2; rfl
  obtain ⟨u,hu,rv⟩:=r.get ha
  have hp:ps[i]? = some y:=by
   rw [← S.pre,List.getElem?_take_of_lt (by omega)]; exact h1
  have ndP:ps.Nodup:=by rw [← S.pre]; exact S.nd.sublist (List.take_sublist _ _)
  refine ⟨u,rv,?_⟩
  rcases S.par y (List.mem_of_getElem? hp) with k | k
  ·exact .inl ⟨k,pP ndP hp hu k⟩
  ·obtain ⟨c,e⟩:=rQ (n:=s.heap.objs.size + 1) k
   refine .inr ⟨.inl k,c,e,?_⟩
   have q:=x.cell y c e
   rw [pR ndP hp hu (by show scope.names.lookup y ≠ _; rw [k]; decide)] at q
   exact q
 ·exact e0.hok.fresh (Nat.le_of_lt (x.above y c (PySem.mem_of_lookup h)))
 ·unfold start
  show _=N.length
  rw [List.length_append,List.length_map,List.length_replicate]
  omega
theorem ZC {CX:CXT} {P:Program} {w:World} {K:PySem.W.Frag} {mg:Str→Option Value} {base:Heap} {k:Nat} {f:Addr} {name qual:Str} {params:Arguments} {body:List Stmt} {scope:Scope} {dV kV doc pm cdv ct oc:Value} {an od:Option Addr}
  {osl:Array (Option Value)} {N ps:List Str} {sp:Sp} (lk:K.lookup f=some ⟨oc,od,.func (PySem.W.fnOf name qual params body scope dV kV doc pm an cdv ct),osl⟩) (hcd:PySem.W.codeIn K cdv qual=true) (S:zi N ps scope)
  (len:∀ vs H Q E,sp vs H Q E→vs.length=ps.length)
  (hbody:∀ (A:Around) (outer:List Env) (s:Shared) (H:Hp) (vs:List V) (Q:VK) (E:XK),Room k (A.deeper (envOfC qual scope s.heap.objs.size f cdv))→sp vs H Q E→
   ∃ t,PSs (yC CX P w K mg base N qual scope f cdv A outer s H E) body t∧t { nx:=fun _ H'=>Q .non H',rt:=Q } (start N vs) H):
  FnOk P w K mg base CX (k + 1) f (PySem.W.fnOf name qual params body scope dV kV doc pm an cdv ct) ps sp:=by
 refine ⟨len,fun A outer s H args us vs Q E hr e0 hb r hsp=>?_⟩
 have hl:=len _ _ _ _ hsp
 have KX:K.In s.heap:=e0.mod.kin.keeps fun b o e=>(e0.bs b o e).1
 have lim:s.heap.NoLimit:=e0.mod.nolimit.keeps fun b o e=>(e0.bs b o e).1
 have hkind:∀ y ∈ ps.zip us,scope.names.lookup y.1=some .local∨(scope.names.lookup y.1=some .cell∧((cellsFrom (s.heap.objs.size + 1) scope.names []).lookup y.1).isSome=true):=fun ⟨n,v⟩ hy=>by
  rcases S.par n (List.of_mem_zip hy).1 with q | q
  ·exact .inl q
  ·exact .inr ⟨q,PySem.W.cellsFrom_some _ _ _ (.inl q)⟩
 refine codeAny_call_function hr.depth (KX _ _ lk) rfl S.co S.gen rfl (PySem.W.codeRec_of KX hcd) (hb _ _ _ _ ?_)
 refine wpAny_newFunctionEnv_cells S.kind hkind fun env he s1 x=>?_
 subst he
 refine ⟨lim.keeps x.toInCall.keep,codeAny_func ?_⟩
 obtain ⟨t,ht,hq⟩:=hbody A outer s H vs Q E (hr.deeper _) hsp
 have I:Inv (yC CX P w K mg base N qual scope f cdv A outer s H E) [] (start N vs) H s1:=gu S hr.hd e0 hl r x
 refine wpAny_mono (ht [] s1 (start N vs) H _ I hq) (fun fl s' hs=>?_) fun e s' hs=>hs
 have fin:∀ {σ':St} {H':Hp} {v:V} {u:Value},Inv (yC CX P w K mg base N qual scope f cdv A outer s H E) [] σ' H' s'→RelV v u→Q v H'→CE outer P w H s Q u s':=
  fun {σ' H' v u} J rv q=>⟨v,H',J.os,J.bare,J.base,J.hok,rv,q⟩
 cases fl with
 | ret u=>
  obtain ⟨v,σ',H',J,rv,q⟩:=hs
  exact fin J rv q
 | next=>
  obtain ⟨σ',H',J,q⟩:=hs
  exact fin (v:=V.non) (u:=Value.none) J rfl q
 | brk=>
  obtain ⟨_,_,_,q⟩:=hs
  exact False.elim q
 | cont=>
  obtain ⟨_,_,_,q⟩:=hs
  exact False.elim q
end L2
namespace L2
open PySem PySem.Spec PyProof.Rows
section
variable {X:Cx} {x:Str} {p pos:Pos} {e:Expr} {es:List Expr} {t:TA} {id T:String} {r:List V→Hp→VK→Prop}
def tCB (r:List V→Hp→VK→Prop) (t:TA):TE:=fun σ H Q=>t σ H fun vs H1=>r vs H1 Q
theorem xB (hc:CallR X (.builtin id) r) (hg:Gl X x) (hm:X.mg x=none) (hv:bootBuiltins x=some (.builtin id)) (ha:PA X (e :: es) t) (hn:x ≠ "__name__":=by decide) (hdb:(x == ("__debug__":Str))=false:=by decide)
  (he:starEach (e :: es) X.env=(false,eval e X.env) :: starEach es X.env:=by rfl) (hpl:(backTo pos (starEach es X.env)).any (·.1)=false:=by rfl):PE X (.Call (.Name x p) (e :: es) [] pos) (tCB r t):=by
 intro pins s σ H Q I h
 refine wpAny_Call_Name_kw (xy I hg hm hv ?_ hn hdb)
 exact PyProof.Rows.callWith_builtin1 (thn (ha pos pins s σ H _ I h) fun us s1 ⟨vs,H1,I1,r1,q1⟩=>hc pins s1 σ H1 vs us Q I1 r1 q1) he hpl
theorem iE (hc:CallR X (.type T) r) (hg:Gl X x) (hm:X.mg x=none) (hv:bootBuiltins x=some (.type T)) (ha:PA X (e :: es) t) (hn:x ≠ "__name__":=by decide) (hdb:(x == ("__debug__":Str))=false:=by decide)
  (he:starEach (e :: es) X.env=(false,eval e X.env) :: starEach es X.env:=by rfl) (hpl:(backTo pos (starEach es X.env)).any (·.1)=false:=by rfl):PE X (.Call (.Name x p) (e :: es) [] pos) (tCB r t):=by
 intro pins s σ H Q I h
 refine wpAny_Call_Name_kw (xy I hg hm hv ?_ hn hdb)
 exact PyProof.Rows.callWith_type1 (thn (ha pos pins s σ H _ I h) fun us s1 ⟨vs,H1,I1,r1,q1⟩=>hc pins s1 σ H1 vs us Q I1 r1 q1) he hpl
end
end L2
namespace HT
open PySem PyProof.Rows
section
open PySem.SeqAt
open PySem.AutoSeq1 (wpAny_loadPart')
open PySem.MeetsSeq PySem.MeetsSeq2 PySem.MeetsSeq3
end
section
variable {prog:Program} {w:World} {A:Around} {E:Value→Shared→Prop} {s:Shared}
def sIx (n d:Nat):Option Int→Nat
 | none=>d
 | some v=>if v < 0 then (v + (n:Int)).toNat else min v.toNat n
theorem sIx_none (n d:Nat):sIx n d none=d:=rfl
theorem sIx_nat (n d k:Nat):sIx n d (some (k:Int))=min k n:=by
 show (if (k:Int) < 0 then ((k:Int) + (n:Int)).toNat else min (k:Int).toNat n)=min k n
 rw [if_neg (by omega),Int.toNat_natCast]
end
end HT
namespace L2
open PySem PySem.Spec PyProof.Rows
abbrev TO:=St→Hp→(Option Int→Hp→Prop)→Prop
def PO (X:Cx) (e:Option Expr) (t:TO):Prop:=
 ∀ (pins:List (Addr × Obj)) (s:Shared) (σ:St) (H:Hp) (Q:Option Int→Hp→Prop),Inv X pins σ H s→t σ H Q→
  wpAny (model X.prog X.w) X.A (evalPart e X.env) (fun u s'=>∃ o H',Inv X pins σ H' s'∧IsPart u o∧Q o H') X.xe s
def cS:TO:=fun _ H Q=>Q none H
def WB (t:TE):TO:=fun σ H Q=>t σ H fun x H1=>∃ i,x=.int i∧Q (some i) H1
section
variable {X:Cx} {e:Expr} {te:TE} {lo hi:Option Expr} {tl th:TO} {pos p2:Pos}
theorem bb:PO X none cS:=by
 intro pins s σ H Q I h
 rw [evalPart_none]
 exact wpAny_pure ⟨none,H,I,.none,h⟩
theorem ba (h:PE X e te):PO X (some e) (WB te):=by
 intro pins s σ H Q I hw
 rw [evalPart_some]
 refine thn (h pins s σ H _ I hw) fun u s1 ⟨x,H1,I1,r1,q1⟩=>?_
 obtain ⟨i,rfl,q⟩:=q1
 obtain ⟨t,rfl⟩:=r1
 exact ⟨some i,H1,I1,.int i t,q⟩
def SlR (X:Cx) (r:V→Option Int→Option Int→Hp→VK→Prop):Prop:=
 ∀ (pins:List (Addr × Obj)) (s:Shared) (σ:St) (H:Hp) (x:V) (v vl vu:Value) (lo hi:Option Int) (sl:Addr) (Q:VK),Inv X pins σ H s→RelV x v→s.heap.IsSliceOf sl vl vu .none→IsPart vl lo→IsPart vu hi→r x lo hi H Q→
  ∃ T id,typeLookup (.type T) "__getitem__"=pure (some (.builtin id))∧s.TypeIs v T∧wpAny (model X.prog X.w) X.A (getItem v (.ref sl)) (EP X pins σ Q) X.xe s
theorem SlR.or {r r':V→Option Int→Option Int→Hp→VK→Prop} (h:SlR X r) (h':SlR X r'):SlR X (fun x lo hi H Q=>r x lo hi H Q∨r' x lo hi H Q):=by
 intro pins s σ H x v vl vu lo hi sl Q I rx hs pl pu q
 rcases q with q | q
 ·exact h pins s σ H x v vl vu lo hi sl Q I rx hs pl pu q
 ·exact h' pins s σ H x v vl vu lo hi sl Q I rx hs pl pu q
def tSl (r:V→Option Int→Option Int→Hp→VK→Prop) (te:TE) (tl th:TO):TE:=fun σ H Q=>te σ H fun x H1=>tl σ H1 fun l H2=>th σ H2 fun u H3=>r x l u H3 Q
theorem fG {r:V→Option Int→Option Int→Hp→VK→Prop} (hr:SlR X r) (he:PE X e te) (hl:PO X lo tl) (hu:PO X hi th):PE X (.Subscript e (.Slice lo hi none p2) pos) (tSl r te tl th):=by
 intro pins s σ H Q I h
 refine Subscript_ (thn (he pins s σ H _ I h) fun v s1 ⟨x,H1,I1,r1,q1⟩=>?_)
 refine wpAny_Slice (thn (hl pins s1 σ H1 _ I1 q1) fun vl s2 ⟨l,H2,I2,pl,q2⟩=>thn (hu pins s2 σ H2 _ I2 q2) fun vu s3 ⟨u,H3,I3,pu,q3⟩=>?_)
 rw [evalPart_none]
 refine wpAny_pure ?_
 have I4:Inv X pins σ H3 { s3 with heap:=s3.heap.push { cls:=.type "slice",data:=.fields #[vl,vu,.none] } }:=I3.kept (t':=s3.toks) fun b ob q=>Heap.get?_push_of_some _ q
 obtain ⟨T,id,hT,ht,hg⟩:=hr pins { s3 with heap:=s3.heap.push { cls:=.type "slice",data:=.fields #[vl,vu,.none] } } σ H3 x v vl vu l u s3.heap.objs.size Q I4 r1 (Heap.IsSliceOf.new ..) pl pu q3
 show wpAny (model X.prog X.w) X.A (subscriptTail e (.Slice lo hi none p2) v (.ref s3.heap.objs.size)) (EP X pins σ Q) X.xe { s3 with heap:=s3.heap.push { cls:=.type "slice",data:=.fields #[vl,vu,.none] } }
 exact tail_any (ops:=[.ref s3.heap.objs.size,v]) ht hT hg (by with_unfolding_all rfl)
def jn (xs:List V) (lo hi:Option Int):List V:=(xs.drop (HT.sIx xs.length 0 lo)).take (HT.sIx xs.length xs.length hi - HT.sIx xs.length 0 lo)
theorem mS (xs:List V) (lo hi:Option Int):(jn xs lo hi).length ≤ xs.length:=by
 unfold jn
 rw [List.length_take,List.length_drop]
 omega
end
end L2
namespace L2
open PySem PySem.Spec PyProof.Rows
def ixN (n:Nat) (i:Int):Option Nat:=if 0 ≤ i then (if i < n then some i.toNat else none) else if -(n:Int) ≤ i then some (i + n).toNat else none
def atI {α:Type} (xs:List α) (i:Int):Option α:=(ixN xs.length i).bind fun j=>xs[j]?
theorem jE {n:Nat} {i:Int} {j:Nat} (h:ixN n i=some j):seqIndex? i n=some j∧j < n∧-(n:Int) ≤ i∧i < n:=by
 unfold ixN at h
 by_cases h0:0 ≤ i
 ·rw [if_pos h0] at h
  by_cases h1:i < n
  ·rw [if_pos h1] at h
   have e:i.toNat=j:=Option.some.inj h
   exact ⟨by rw [seqIndex_of h0 h1,e],by omega,by omega,h1⟩
  ·rw [if_neg h1] at h; cases h
 ·rw [if_neg h0] at h
  by_cases h1:-(n:Int) ≤ i
  ·rw [if_pos h1] at h
   have e:(i + n).toNat=j:=Option.some.inj h
   exact ⟨by rw [seqIndex_neg (by omega) h1,e],by omega,h1,by omega⟩
  ·rw [if_neg h1] at h; cases h
theorem o1 {α:Type} {xs:List α} {i:Int} {v:α} (h:atI xs i=some v):∃ j,seqIndex? i xs.length=some j∧xs[j]? = some v∧j < xs.length∧-(xs.length:Int) ≤ i∧i < xs.length:=by
 unfold atI at h
 cases e:ixN xs.length i with
 | none=>rw [e] at h; cases h
 | some j=>
  rw [e] at h
  obtain ⟨h1,h2,h3,h4⟩:=jE e
  exact ⟨j,h1,h,h2,h3,h4⟩
theorem o0 {α:Type} {xs:List α} {j:Nat} {v:α} (h:xs[j]? = some v):atI xs (j:Int)=some v:=by
 have hj:j < xs.length:=(List.getElem?_eq_some_iff.mp h).1
 have e:ixN xs.length (j:Int)=some j:=by
  unfold ixN
  rw [if_pos (by omega),if_pos (by omega)]; simp
 unfold atI; rw [e]; exact h
theorem wJ {α:Type} (xs:List α) (v:α):atI (xs ++ [v]) (-1)=some v:=by
 have hl:(xs ++ [v]).length=xs.length + 1:=by simp
 have e:ixN (xs ++ [v]).length (-1)=some xs.length:=by
  unfold ixN
  rw [hl,if_neg (by decide),if_pos (by omega)]
  congr 1
  omega
 unfold atI
 rw [e]
 show (xs ++ [v])[xs.length]? = some v
 simp
def o8 (b:Expr):Prop:=∀ o i,subscripted b false o i=operate [o,i] (getItem o i)
def IxR (X:Cx) (r:R2):Prop:=
 ∀ (value slice:Expr) (pins:List (Addr × Obj)) (s:Shared) (σ:St) (H:Hp) (x y:V) (v u:Value) (Q:VK),Inv X pins σ H s→RelV x v→RelV y u→r x y H Q→
  subscripted slice false v u=operate [v,u] (getItem v u)→wpAny (model X.prog X.w) X.A (subscriptTail value slice v u) (EP X pins σ Q) X.xe s
def MtR (X:Cx) (id:String) (r:V→List V→Hp→VK→Prop):Prop:=
 ∀ (pins:List (Addr × Obj)) (s:Shared) (σ:St) (H:Hp) (x:V) (xs:List V) (v:Value) (us:List Value) (Q:VK),Inv X pins σ H s→RelV x v→Vals xs us→r x xs H Q→
  wpAny (model X.prog X.w) X.A (call (.builtin id) (v :: us)) (EP X pins σ Q) X.xe s
section
variable {X:Cx} {a b:Expr} {ta tb:TE} {pos:Pos}
theorem IxR.or {r r':R2} (h:IxR X r) (h':IxR X r'):IxR X (fun x y H Q=>r x y H Q∨r' x y H Q):=by
 intro value slice pins s σ H x y v u Q I rx ry q hs
 rcases q with q | q
 ·exact h value slice pins s σ H x y v u Q I rx ry q hs
 ·exact h' value slice pins s σ H x y v u Q I rx ry q hs
theorem MtR.or {id:String} {r r':V→List V→Hp→VK→Prop} (h:MtR X id r) (h':MtR X id r'):MtR X id (fun x xs H Q=>r x xs H Q∨r' x xs H Q):=by
 intro pins s σ H x xs v us Q I rx rs q
 rcases q with q | q
 ·exact h pins s σ H x xs v us Q I rx rs q
 ·exact h' pins s σ H x xs v us Q I rx rs q
theorem Zt {r:R2} (hr:IxR X r) (ha:PE X a ta) (hb:PE X b tb) (hs:o8 b):PE X (.Subscript a b pos) (tOp r ta tb):=by
 intro pins s σ H Q I h
 exact Subscript_ (Wm ha hb I h fun v u s2 x y H2 I2 rx ry q=>hr a b pins s2 σ H2 x y v u Q I2 rx ry q (hs _ _))
def WR (K:PySem.W.Frag):R2:=fun x y H Q=>∃ p xs i v,x=.ref p∧y=.int i∧SqL K H p xs∧atI xs i=some v∧Q v H
def WP (K:PySem.W.Frag):R2:=fun x y H Q=>∃ p xs i v,x=.ref p∧y=.int i∧SqT K H p xs∧atI xs i=some v∧Q v H
def WQ:R2:=fun x y H Q=>∃ z i c,x=.str z∧y=.int i∧z.length ≤ sizeLine∧atI z.cps.toList i=some c∧Q (.str ⟨#[c]⟩) H
theorem ix_list:IxR X (WR X.K):=by
 intro value slice pins s σ H x y v u Q I rx ry h hs
 obtain ⟨p,xs,i,z,rfl,rfl,hq,he,q⟩:=h
 cases rx
 obtain ⟨t,rfl⟩:=ry
 obtain ⟨its,r,pl,hz⟩:=I.list hq
 obtain ⟨j,h1,h2,h3,h4,h5⟩:=o1 he
 obtain ⟨w,ew,rw'⟩:=r.get h2
 have hl:=r.length
 have hn:=uY
 have fin:EP X pins σ Q w s:=⟨z,H,I,rw',q⟩
 by_cases h0:0 ≤ i
 ·have hj:i.toNat=j:=by
   rw [seqIndex_of h0 h5] at h1
   exact Option.some.inj h1
  exact item_listR pl.isList h0 (by omega) (by rw [hj]; simpa using ew) fin hs
 ·have hj:(i + (its.toArray.size:Int)).toNat=j:=by
   rw [seqIndex_neg (by omega) h4] at h1
   rw [List.size_toArray,← hl]
   exact Option.some.inj h1
  exact subscriptTail_builtinR (x:=w) pl.isList.typeIs slot_list_getitem.lookup
   (wpAny_getItem_list_neg (Q:=fun r s'=>r=w∧EP X pins σ Q r s') pl.isList (by omega) (by rw [List.size_toArray] <;> omega) (by omega) (by rw [hj]; simpa using ew) ⟨rfl,fin⟩) hs
theorem ix_tup:IxR X (WP X.K):=by
 intro value slice pins s σ H x y v u Q I rx ry h hs
 obtain ⟨p,xs,i,z,rfl,rfl,hq,he,q⟩:=h
 cases rx
 obtain ⟨t,rfl⟩:=ry
 obtain ⟨its,r,pl,hz⟩:=I.tuple hq
 obtain ⟨j,h1,h2,h3,h4,h5⟩:=o1 he
 obtain ⟨w,ew,rw'⟩:=r.get h2
 have hl:=r.length
 have hn:=uY
 have fin:EP X pins σ Q w s:=⟨z,H,I,rw',q⟩
 exact subscriptTail_builtinR (x:=w) pl.typeIs slot_tuple_getitem.lookup
  (getItem_tuple (j:=j) (Q:=fun r s'=>r=w∧EP X pins σ Q r s') pl (by omega) (by omega) (by rw [List.size_toArray,← hl]; exact h1) (by simpa using ew) ⟨rfl,fin⟩) hs
theorem X1:IxR X WQ:=by
 intro value slice pins s σ H x y v u Q I rx ry h hs
 obtain ⟨z,i,c,rfl,rfl,hz,he,q⟩:=h
 obtain ⟨t,rfl⟩:=rx
 obtain ⟨t',rfl⟩:=ry
 obtain ⟨j,h1,h2,h3,h4,h5⟩:=o1 he
 have hl:z.cps.toList.length=z.length:=by simp [Str.length]
 rw [hl] at h1 h4 h5
 have hn:=uY
 exact tail_any (typeIs_str s z t) slot_str_getitem.lookup (getItem_str (c:=c) (by
  have e1:decide (i < -(2 ^ 63:Int))=false:=decide_eq_false (by omega)
  have e2:decide (i ≥ 2 ^ 63)=false:=decide_eq_false (by omega)
  rw [e1,e2,Bool.or_false]) (by rw [h1]; simpa using h2) ⟨.str ⟨#[c]⟩,H,I.tok _,⟨_,rfl⟩,q⟩) hs
def rIx (K:PySem.W.Frag):R2:=fun x y H Q=>WR K x y H Q∨WP K x y H Q∨WQ x y H Q
theorem X2:IxR X (rIx X.K):=ix_list.or (ix_tup.or X1)
theorem kA (its:List Value) (n j:Nat) (u:Value):Obj.mapSeq (·.setIfInBounds j u) { cls:=.type "list",data:=.seq its.toArray n }={ cls:=.type "list",data:=.seq (its.set j u).toArray n }:=by
 simp [Obj.mapSeq]
theorem Inv.lst {pins:List (Addr × Obj)} {σ:St} {H:Hp} {s:Shared} {p:Addr} {xs:List V} (I:Inv X pins σ H s) (h:H p=some (.lst xs)):
  ∃ (its:List Value) (n:Nat),Vals xs its∧s.heap.get? p=some { cls:=.type "list",data:=.seq its.toArray n }∧xs.length ≤ sizeLine:=by
 obtain ⟨z,its,n,r,e⟩:=I.hok p _ h
 exact ⟨its,n,r,e,z⟩
theorem Inv.lstUpd {pins:List (Addr × Obj)} {σ:St} {H:Hp} {s:Shared} {p:Addr} {xs ys:List V} {its its':List Value} {n n':Nat} {f:Obj→Obj} (I:Inv X pins σ H s) (h:H p=some (.lst xs))
  (ho:s.heap.get? p=some { cls:=.type "list",data:=.seq its.toArray n }) (hf:f { cls:=.type "list",data:=.seq its.toArray n }={ cls:=.type "list",data:=.seq its'.toArray n' }) (r:Vals ys its') (hz:ys.length ≤ sizeLine) (t:Nat):
  Inv X pins σ (upd H p (.lst ys)) { s with heap:=s.heap.update p f,toks:=t }:=by
 have e:(s.heap.update p f).get? p=some { cls:=.type "list",data:=.seq its'.toArray n' }:=by
  rw [Heap.get?_update_self f ho (by rw [hf] <;> rfl),hf]
 refine I.write (x:=p) (e:=p) (by rw [h]; trivial) (.inl rfl) (fun b u hb q=>(Heap.get?_update_other _ _ (Ne.symm hb)).trans q) ⟨_,e⟩ ?_
 exact ⟨hz,its',n',r,e⟩
def WO:V→V→V→Hp→(Hp→Prop)→Prop:=fun o i v H Q=>∃ p xs k j,o=.ref p∧i=.int k∧H p=some (.lst xs)∧ixN xs.length k=some j∧Q (upd H p (.lst (xs.set j v)))
theorem fe:Qo X WO:=by
 intro pins s σ H o i v ov iv u Q I ro ri rv h
 obtain ⟨p,xs,k,j,rfl,rfl,hp,hj,q⟩:=h
 cases ro
 obtain ⟨t,rfl⟩:=ri
 obtain ⟨its,n,r,ho,hz⟩:=I.lst hp
 obtain ⟨h1,h2,h3,h4⟩:=jE hj
 have hl:=r.length
 have hn:=uY
 have I':Inv X pins σ (upd H p (.lst (xs.set j v))) { s with heap:=s.heap.update p (Obj.mapSeq (·.setIfInBounds j u)) }:=
  I.lstUpd hp ho (kA its n j u) (r.set rv j) (by rw [List.length_set]; exact hz) s.toks
 by_cases h0:0 ≤ k
 ·have hk:k.toNat=j:=by
   rw [seqIndex_of h0 h4] at h1
   exact Option.some.inj h1
  exact PySem.W.ki_setAt ho h0 (by omega) (by rw [List.size_toArray,← hl]; exact h4) (by rw [hk]; exact ⟨_,I',q⟩)
 ·have hk:(k + (its.toArray.size:Int)).toNat=j:=by
   rw [seqIndex_neg (by omega) h3] at h1
   rw [List.size_toArray,← hl]
   exact Option.some.inj h1
  exact PySem.W.ki_setBack ho (by omega) (by rw [List.size_toArray,← hl]; exact h3) (by omega) (by rw [hk]; exact ⟨_,I',q⟩)
theorem pX (lo hi:Option Int) (n:Nat):(sliceBounds lo hi none n).1=((HT.sIx n 0 lo:Nat):Int)∧(sliceBounds lo hi none n).2.1=((HT.sIx n n hi:Nat):Int)∧(sliceBounds lo hi none n).2.2=1:=by
 refine ⟨?_,?_,rfl⟩
 ·cases lo with
  | none=>simp [sliceBounds,HT.sIx]
  | some i=>
   simp only [sliceBounds,HT.sIx,Option.getD_none,show (1:Int) > 0 by decide,if_true]
   by_cases h:i < 0
   ·simp only [h,if_true] <;> omega
   ·simp only [h,if_false] <;> omega
 ·cases hi with
  | none=>simp [sliceBounds,HT.sIx]
  | some i=>
   simp only [sliceBounds,HT.sIx,Option.getD_none,show (1:Int) > 0 by decide,if_true]
   by_cases h:i < 0
   ·simp only [h,if_true] <;> omega
   ·simp only [h,if_false] <;> omega
theorem rX (its:List Value) (lo hi:Option Int):slicePick its.toArray lo hi none=((its.drop (HT.sIx its.length 0 lo)).take (HT.sIx its.length its.length hi - HT.sIx its.length 0 lo)).toArray:=by
 obtain ⟨h1,h2,h3⟩:=pX lo hi its.toArray.size
 unfold slicePick
 rw [h1,h2,h3]
 simp only [sliceRange_one,pick_run,List.size_toArray] <;> rfl
def QC (K:PySem.W.Frag):V→Option Int→Option Int→Hp→VK→Prop:=fun x lo hi H Q=>∃ a xs,x=.ref a∧SqL K H a xs∧∀ p,H p=none→Q (.ref p) (upd H p (.lst (jn xs lo hi)))
theorem cT:SlR X (QC X.K):=by
 intro pins s σ H x v vl vu lo hi sl Q I rx hs pl pu h
 obtain ⟨a,xs,rfl,hx,q⟩:=h
 cases rx
 obtain ⟨its,r,ht,hz⟩:=I.list hx
 have hlen:=r.length
 refine ⟨"list",_,slot_list_getitem.lookup,ht.isList.typeIs,?_⟩
 refine wpAny_getItem_list_slice ht.isList hs pl pu .none (by simp) ?_ (by rw [List.size_toArray] <;> omega)
 rw [rX,← hlen]
 refine ⟨.ref s.heap.objs.size,_,I.laid (t':=s.toks) (o:=.lst (jn xs lo hi)) (fun b ob q=>Heap.get?_push_of_some _ q) (Nat.le_refl _) ?_,rfl,q _ (I.hok.fresh (Nat.le_refl _))⟩
 exact ⟨Nat.le_trans (mS xs lo hi) hz,_,0,(r.drop (HT.sIx xs.length 0 lo)).take (HT.sIx xs.length xs.length hi - HT.sIx xs.length 0 lo),Heap.get?_push_size _ rfl⟩
def wB:V→Bool
 | .non=>true
 | .bl _=>true
 | .int _=>true
 | .str _=>true
 | _=>false
def eqV:V→V→Bool
 | .non,.non=>true
 | .bl a,.bl b=>a == b
 | .bl a,.int b=>(if a then 1 else 0) == b
 | .int a,.bl b=>a == (if b then 1 else 0)
 | .int a,.int b=>a == b
 | .str a,.str b=>a == b
 | _,_=>false
theorem jg {A:Around} {s:Shared} {y x:V} {u v:Value} (ry:RelV y u) (rx:RelV x v) (fy:wB y=true) (fx:wB x=true):SeqAt.EqAt A s u v (eqV y x):=by
 cases y with
 | non=>
  cases ry
  cases x with
  | non=>cases rx; exact SeqAt.EqAt.same _
  | bl b=>cases rx; exact SeqAt.EqAt.none_bool b
  | int b=>obtain ⟨t,rfl⟩:=rx; exact SeqAt.EqAt.none_int b t
  | str b=>obtain ⟨t,rfl⟩:=rx; exact SeqAt.EqAt.none_str b t
  | _=>exact absurd (show false=true from fx) Bool.false_ne_true
 | bl a=>
  cases ry
  cases x with
  | non=>cases rx; exact SeqAt.EqAt.bool_none a
  | bl b=>cases rx; exact SeqAt.EqAt.bool_bool a b
  | int b=>obtain ⟨t,rfl⟩:=rx; exact SeqAt.EqAt.bool_int a b t
  | str b=>obtain ⟨t,rfl⟩:=rx; exact SeqAt.EqAt.bool_str a b t
  | _=>exact absurd (show false=true from fx) Bool.false_ne_true
 | int a=>
  obtain ⟨t',rfl⟩:=ry
  cases x with
  | non=>cases rx; exact SeqAt.EqAt.int_none a t'
  | bl b=>cases rx; exact SeqAt.EqAt.int_bool a t' b
  | int b=>obtain ⟨t,rfl⟩:=rx; exact SeqAt.EqAt.int_int a t' b t
  | str b=>obtain ⟨t,rfl⟩:=rx; exact SeqAt.EqAt.int_str a t' b t
  | _=>exact absurd (show false=true from fx) Bool.false_ne_true
 | str a=>
  obtain ⟨t',rfl⟩:=ry
  cases x with
  | non=>cases rx; exact SeqAt.EqAt.str_none a t'
  | bl b=>cases rx; exact SeqAt.EqAt.str_bool a t' b
  | int b=>obtain ⟨t,rfl⟩:=rx; exact SeqAt.EqAt.str_int a t' b t
  | str b=>obtain ⟨t,rfl⟩:=rx; exact SeqAt.EqAt.str_str a t' b t
  | _=>exact absurd (show false=true from fx) Bool.false_ne_true
 | _=>exact absurd (show false=true from fy) Bool.false_ne_true
def eqU (x:V) (u:Value):Bool:=match u with
 | .none=>eqV .non x
 | .bool b=>eqV (.bl b) x
 | .int i _=>eqV (.int i) x
 | .str z _=>eqV (.str z) x
 | _=>false
theorem dO {x y:V} {u:Value} (r:RelV y u) (f:wB y=true):eqU x u=eqV y x:=by
 cases y with
 | non=>cases r; rfl
 | bl b=>cases r; rfl
 | int i=>obtain ⟨t,rfl⟩:=r; rfl
 | str z=>obtain ⟨t,rfl⟩:=r; rfl
 | _=>exact absurd (show false=true from f) Bool.false_ne_true
theorem o2 {x:V}:∀ {xs:List V} {us:List Value},Vals xs us→xs.all wB=true→us.any (eqU x)=xs.any fun y=>eqV y x
 | _,_,.nil,_=>rfl
 | y :: xs,u :: us,.cons r t,f=>by
  rw [List.all_cons,Bool.and_eq_true] at f
  rw [List.any_cons,List.any_cons,dO r f.1,o2 t f.2]
theorem rA {A:Around} {s:Shared} {x:V} {v:Value} (rx:RelV x v) (fx:wB x=true):∀ {xs:List V} {us:List Value},Vals xs us→xs.all wB=true→∀ u ∈ us,SeqAt.EqAt A s u v (eqU x u)
 | _,_,.nil,_=>fun u hu=>by cases hu
 | y :: xs,u :: us,.cons r t,f=>fun u' hu=>by
  rw [List.all_cons,Bool.and_eq_true] at f
  rcases List.mem_cons.mp hu with rfl | hu
  ·rw [dO r f.1]; exact jg r rx f.1 fx
  ·exact rA rx fx t f.2 u' hu
def inV (x:V) (xs:List V):Bool:=xs.any fun y=>eqV y x
def rIn (K:PySem.W.Frag) (neg:Bool):R2:=fun x y H Q=>∃ p xs,y=.ref p∧(SqL K H p xs∨SqT K H p xs)∧wB x=true∧xs.all wB=true∧Q (.bl (if neg then !inV x xs else inV x xs)) H
theorem iF:OpR X (compareOp .In) (rIn X.K false):=by
 intro pins s σ H x y v u Q I rx ry h
 obtain ⟨p,xs,rfl,hq,fx,fs,q⟩:=h
 cases ry
 rcases hq with hq | hq
 ·obtain ⟨its,r,pl,hz⟩:=I.list hq
  refine SeqAt.in_listAt (eqU x) pl.isList (fun w hw=>rA rx fx r fs w (by simpa using hw)) ⟨.bl _,H,I,rfl,?_⟩
  rw [show its.toArray.any (eqU x)=its.any (eqU x) by simp,o2 r fs]
  exact q
 ·obtain ⟨its,r,pl,hz⟩:=I.tuple hq
  refine SeqAt.in_tupleAt (eqU x) pl (fun w hw=>rA rx fx r fs w (by simpa using hw)) ⟨.bl _,H,I,rfl,?_⟩
  rw [show its.toArray.any (eqU x)=its.any (eqU x) by simp,o2 r fs]
  exact q
theorem uu:CallR X (.builtin "len") (fun xs H Q=>∃ p ys,xs=[.ref p]∧(SqL X.K H p ys∨SqT X.K H p ys)∧Q (.int ys.length) H):=by
 intro pins s σ H xs us Q I r h
 obtain ⟨p,ys,rfl,hq,q⟩:=h
 obtain ⟨u,rfl,rx⟩:=Zm r
 cases rx
 have hn:=uY
 rcases hq with hq | hq
 ·obtain ⟨its,r',pl,hz⟩:=I.list hq
  have hlen:=r'.length
  exact Calls.call_len_list pl.isList (by simp only [List.size_toArray] <;> omega) ⟨.int ys.length,H,I.tok _,⟨s.toks + 1,by rw [List.size_toArray,hlen]⟩,q⟩
 ·obtain ⟨its,r',pl,hz⟩:=I.tuple hq
  have hlen:=r'.length
  exact len_tuple pl (by simp only [List.size_toArray] <;> omega) ⟨.int ys.length,H,I.tok _,⟨s.toks + 1,by rw [List.size_toArray,hlen]⟩,q⟩
theorem CallR.or {f:Value} {r r':List V→Hp→VK→Prop} (h:CallR X f r) (h':CallR X f r'):CallR X f (fun xs H Q=>r xs H Q∨r' xs H Q):=by
 intro pins s σ H xs us Q I rs q
 rcases q with q | q
 ·exact h pins s σ H xs us Q I rs q
 ·exact h' pins s σ H xs us Q I rs q
theorem oY:CallR X (.type "list") (fun xs H Q=>∃ p ys,xs=[.ref p]∧(SqL X.K H p ys∨SqT X.K H p ys)∧∀ l,H l=none→Q (.ref l) (upd H l (.lst ys))):=by
 intro pins s σ H xs us Q I r h
 obtain ⟨p,ys,rfl,hq,q⟩:=h
 obtain ⟨u,rfl,rx⟩:=Zm r
 cases rx
 have fin:∀ (its:List Value),Vals ys its→ys.length ≤ sizeLine→∀ (h':Heap) (c':Nat),(∀ b o',s.heap.get? b=some o'→h'.get? b=some o')→
   h'.get? s.heap.objs.size=some { cls:=.type "list",dict:=none,data:=.seq its.toArray c',slots:=#[] }→EP X pins σ Q (.ref s.heap.objs.size) { s with heap:=h' }:=fun its r' hz h' c' kp e=>
  ⟨.ref s.heap.objs.size,_,I.laid (t':=s.toks) kp (Nat.le_refl _) (show ObjOk X.prog X.w _ h' _ (.lst ys) from ⟨hz,its,c',r',e⟩),rfl,q _ (I.hok.fresh (Nat.le_refl _))⟩
 rcases hq with hq | hq
 ·obtain ⟨its,r',pl,hz⟩:=I.list hq
  have hlen:=r'.length
  obtain ⟨o,ho,hc,n,hd⟩:=pl.isList
  exact call_list_seq p (.inl rfl) ho hc hd (fun h' c' kp e=>fin its r' hz h' c' kp e) (by simp only [List.size_toArray] <;> omega)
 ·obtain ⟨its,r',pl,hz⟩:=I.tuple hq
  have hlen:=r'.length
  obtain ⟨o,ho,hc,n,hd⟩:=pl
  exact call_list_seq p (.inr rfl) ho hc hd (fun h' c' kp e=>fin its r' hz h' c' kp e) (by simp only [List.size_toArray] <;> omega)
def tyV (K:PySem.W.Frag) (T:String) (x:V) (H:Hp):Prop:=match x with
 | .str _=>T="str"
 | .int _=>T="int"
 | .ref p=>(T="list"∧∃ xs,SqL K H p xs)∨(T="tuple"∧∃ o,K.lookup p=some o∧o.cls=.type "tuple"∧o.dict=none)∨
   (T="dict"∧((∃ kvs,H p=some (.dK kvs))∨∃ kvs,H p=some (.dT kvs)))∨(T="set"∧∃ S n,H p=some (.set S n))
 | _=>False
theorem gY {pins:List (Addr × Obj)} {σ:St} {H:Hp} {s:Shared} {T:String} {x:V} {v:Value} (I:Inv X pins σ H s) (r:RelV x v) (ty:tyV X.K T x H):
  s.TypeIs v T∧∀ a,v=.ref a→∃ ob,s.heap.get? a=some ob∧ob.dict=none:=by
 cases x with
 | str z=>
  obtain ⟨t,rfl⟩:=r
  cases (show T="str" from ty)
  exact ⟨typeIs_str s z t,fun _ e=>nomatch e⟩
 | int i=>
  obtain ⟨t,rfl⟩:=r
  cases (show T="int" from ty)
  exact ⟨typeIs_int s i t,fun _ e=>nomatch e⟩
 | ref p=>
  cases r
  rcases ty with ⟨rfl,xs,hq⟩ | ⟨rfl,o,hk,hc,hd⟩ | ⟨rfl,hk⟩ | ⟨rfl,S,n,hk⟩
  ·obtain ⟨its,_,pl,_⟩:=I.list hq
   refine ⟨pl.isList.typeIs,fun a e=>?_⟩
   cases e
   obtain ⟨o,n,e,c,hd,_⟩:=pl
   exact ⟨o,e,hd⟩
  ·refine ⟨⟨o,I.kIn p o hk,hc⟩,fun a e=>?_⟩
   cases e
   exact ⟨o,I.kIn _ o hk,hd⟩
  ·have z:∃ o,s.heap.get? p=some o∧o.ExactDict:=by
    rcases hk with ⟨kvs,hk⟩ | ⟨kvs,hk⟩
    ·obtain ⟨_,_,_,_,o,_,_,e,ex,_⟩:=I.hok p _ hk
     exact ⟨o,e,ex⟩
    ·obtain ⟨_,_,_,_,o,_,_,e,ex,_⟩:=I.hok p _ hk
     exact ⟨o,e,ex⟩
   obtain ⟨o,e,ex⟩:=z
   refine ⟨⟨o,e,ex.1⟩,fun a e2=>?_⟩
   cases e2
   exact ⟨o,e,ex.2.1⟩
  ·obtain ⟨o,_,_,_,e,ex,_⟩:=I.hok p _ hk
   refine ⟨⟨o,e,ex.1⟩,fun a e2=>?_⟩
   cases e2
   exact ⟨o,e,ex.2.1⟩
 | _=>exact False.elim ty
def Qz (K:PySem.W.Frag) (T:String) (r:V→List V→Hp→VK→Prop) (to:TE):TE:=fun σ H Q=>to σ H fun x H1=>tyV K T x H1∧r x [] H1 Q
def tBM (K:PySem.W.Frag) (T:String) (r:V→List V→Hp→VK→Prop) (to:TE) (t:TA):TE:=fun σ H Q=>to σ H fun x H1=>tyV K T x H1∧t σ H1 fun xs H2=>r x xs H2 Q
variable {o e:Expr} {es:List Expr} {to:TE} {t:TA} {name:Str} {apos cpos:Pos} {T id:String} {r:V→List V→Hp→VK→Prop}
theorem lG (pa:PlainAttrs T) (slot:Slot T name id) (hty:typeOf (.builtin id)=pure (.type "method_descriptor")) (hm:MtR X id r) (ho:PE X o to)
  (hbase:attributeBase o name X.env (eval o X.env)=eval o X.env:=by rfl) (hline:(apos.endLine == cpos.line)=true:=by rfl):PE X (.Call (.Attribute o name apos) [] [] cpos) (Qz X.K T r to):=by
 intro pins s σ H Q I h
 refine wpAny_Call_method0_late hbase hline (thn (ho pins s σ H _ I h) fun v s1 ⟨x,H1,I1,r1,ty,q1⟩=>?_)
 obtain ⟨h1,h2⟩:=gY I1 r1 ty
 exact ⟨T,id,pa,slot,hty,h1,h2,Calls.callWith_builtin rfl (PySem.evalArgs_none (hm pins s1 σ H1 x [] v [] Q I1 r1 .nil q1))⟩
theorem WW (pa:PlainAttrs T) (slot:Slot T name id) (hty:typeOf (.builtin id)=pure (.type "method_descriptor")) (hm:MtR X id r) (ho:PE X o to) (ha:PA X (e :: es) t)
  (hbase:attributeBase o name X.env (eval o X.env)=eval o X.env:=by rfl)
  (hfew:((backTo cpos (starEach (e :: es) X.env)).all (fun x=>!x.1) && (backToKw cpos (keywordEach [] X.env)).all (fun x=>x.1.isSome)
   && decide ((e :: es).length + ([]:List Keyword).length + (if ([]:List Keyword).isEmpty then 0 else 1) < 30))=true:=by rfl)
  (hline:(apos.endLine == cpos.line)=true:=by rfl) (hs:starEach (e :: es) X.env=(false,eval e X.env) :: starEach es X.env:=by rfl) (hplain:(backTo cpos (starEach es X.env)).any (·.1)=false:=by rfl):
  PE X (.Call (.Attribute o name apos) (e :: es) [] cpos) (tBM X.K T r to t):=by
 intro pins s σ H Q I h
 refine wpAny_Call_method_late hbase hfew hline rfl (thn (ho pins s σ H _ I h) fun v s1 ⟨x,H1,I1,r1,ty,q1⟩=>?_)
 obtain ⟨h1,h2⟩:=gY I1 r1 ty
 refine ⟨T,id,pa,slot,hty,h1,h2,?_⟩
 have hA:=ha cpos pins s1 σ H1 _ I1 q1
 rw [hs] at hA ⊢
 refine Calls.callWith_builtin (by show (false || (backTo cpos (starEach es X.env)).any (·.1))=false; rw [hplain] <;> rfl) (Calls.evalArgs_plain ?_)
 exact thn hA fun us s2 ⟨vs,H2,I2,r2,q2⟩=>hm pins s2 σ H2 x vs v us Q I2 r1 r2 q2
end
end L2
namespace L2
open PySem PySem.Spec PyProof.Rows
def MtM (X:Cx) (id:String) (r:V→List V→Hp→VK→Prop):Prop:=
 ∀ (pins:List (Addr × Obj)) (s:Shared) (σ:St) (H:Hp) (x:V) (xs:List V) (v:Value) (us:List Value) (Q:VK),Inv X pins σ H s→RelV x v→Vals xs us→r x xs H Q→
  wpAny (model X.prog X.w) X.A (call (.builtin id) (v :: us)) (EP X pins σ Q) X.xe s
theorem Vals.one:∀ {x:V} {us:List Value},Vals [x] us→∃ u,us=[u]∧RelV x u
 | _,_,.cons r .nil=>⟨_,rfl,r⟩
theorem Vals.two:∀ {x y:V} {us:List Value},Vals [x,y] us→∃ u v,us=[u,v]∧RelV x u∧RelV y v
 | _,_,_,.cons r (.cons q .nil)=>⟨_,_,rfl,r,q⟩
theorem Vals.zero:∀ {us:List Value},Vals [] us→us=[]
 | _,.nil=>rfl
theorem Vals.dropLast {xs:List V} {us:List Value} (h:Vals xs us):Vals xs.dropLast us.dropLast:=by
 induction h with
 | nil=>exact .nil
 | cons r t ih=>
  cases t with
  | nil=>exact .nil
  | cons q t'=>exact .cons r ih
theorem Vals.eraseIdx:∀ {xs:List V} {us:List Value} (i:Nat),Vals xs us→Vals (xs.eraseIdx i) (us.eraseIdx i)
 | _,_,_,.nil=>.nil
 | _,_,0,.cons _ t=>t
 | _,_,i + 1,.cons r t=>.cons r (Vals.eraseIdx i t)
theorem Vals.reverse {xs:List V} {us:List Value} (h:Vals xs us):Vals xs.reverse us.reverse:=by
 induction h with
 | nil=>exact .nil
 | cons r t ih=>rw [List.reverse_cons,List.reverse_cons]; exact Vals.append ih (.cons r .nil)
theorem Vals.rep {xs:List V} {us:List Value} (h:Vals xs us):∀ k:Nat,Vals (List.replicate k xs).flatten (List.replicate k us).flatten
 | 0=>.nil
 | k + 1=>by
  rw [List.replicate_succ,List.replicate_succ,List.flatten_cons,List.flatten_cons]
  exact Vals.append h (Vals.rep h k)
theorem je {α:Type} (l:List α):l.eraseIdx (l.length - 1)=l.dropLast:=by
 induction l with
 | nil=>rfl
 | cons a r ih=>
  cases r with
  | nil=>rfl
  | cons b r=>
   have e:(a :: b :: r).length - 1=((b :: r).length - 1) + 1:=by
    have h1:(a :: b :: r).length=r.length + 2:=rfl
    have h2:(b :: r).length=r.length + 1:=rfl
    omega
   rw [e,List.eraseIdx_cons_succ,ih]
   all_goals rfl
theorem pE (its:List Value):∀ (k:Nat) (acc:List Value),
  List.foldl (fun x1 x2=>x1 ++ x2) acc.toArray (List.replicate k its.toArray)=(acc ++ (List.replicate k its).flatten).toArray
 | 0,acc=>by simp
 | k + 1,acc=>by
  have e:acc.toArray ++ its.toArray=(acc ++ its).toArray:=by simp
  have e2:(acc ++ its) ++ (List.replicate k its).flatten=acc ++ (List.replicate (k + 1) its).flatten:=by
   rw [List.replicate_succ,List.flatten_cons,List.append_assoc]
  rw [← e2,← pE its k (acc ++ its),← e,List.replicate_succ,List.foldl_cons]
section
variable {X:Cx} {pins:List (Addr × Obj)} {σ:St} {H:Hp} {s:Shared} {l b:Addr} {xs ys zs:List V}
theorem Inv.lset {its its':List Value} {n:Nat} {f:Array Value→Array Value} {t':Nat} (I:Inv X pins σ H s) (hH:H l=some (.lst xs))
  (e:s.heap.get? l=some { cls:=.type "list",data:=.seq its.toArray n }) (hf:f its.toArray=its'.toArray) (hv:Vals ys its') (hz:ys.length ≤ sizeLine):
  Inv X pins σ (upd H l (.lst ys)) { s with heap:=s.heap.update l (Obj.mapSeq f),toks:=t' }:=by
 have q:=PySem.IsL.update e f
 rw [hf] at q
 refine I.write (x:=l) (e:=l) (by rw [hH]; exact trivial) (.inl rfl) (fun b' u hb hu=>(Heap.get?_update_other s.heap (Obj.mapSeq f) (Ne.symm hb)).trans hu) ⟨_,q⟩ ?_
 exact ⟨hz,its',_,hv,q⟩
theorem Inv.lnew {its:List Value} {t':Nat} (I:Inv X pins σ H s) (hv:Vals ys its) (hz:ys.length ≤ sizeLine):
  Inv X pins σ (upd H s.heap.objs.size (.lst ys)) { s with heap:=s.heap.push { cls:=.type "list",data:=.seq its.toArray },toks:=t' }:=
 I.laid (fun _ _ q=>Heap.get?_push_of_some _ q) (Nat.le_refl _) ⟨hz,its,0,hv,Heap.get?_push_size _ rfl⟩
theorem Inv.fresh (I:Inv X pins σ H s):H s.heap.objs.size=none:=I.hok.fresh (Nat.le_refl _)
theorem Inv.lstM (I:Inv X pins σ H s) (hH:H l=some (.lst xs)):xs.length ≤ sizeLine∧∃ (its:List Value) (n:Nat),Vals xs its∧xs.length=its.length∧s.heap.get? l=some { cls:=.type "list",data:=.seq its.toArray n }:=by
 obtain ⟨z,its,n,r,e⟩:=I.hok l _ hH
 exact ⟨z,its,n,r,r.length,e⟩
theorem mB {n:Nat} (h:n ≤ sizeLine):Builtin.List.listTooLong n=false:=by
 unfold Builtin.List.listTooLong
 exact decide_eq_false (by omega)
end
section
variable {X:Cx}
def c6:V→List V→Hp→VK→Prop:=fun x vs H Q=>∃ l xs y,x=.ref l∧vs=[y]∧H l=some (.lst xs)∧xs.length < sizeLine∧Q .non (upd H l (.lst (xs ++ [y])))
theorem pq:MtM X "list.append" c6:=by
 intro pins s σ H x vs v us Q I rx rv h
 obtain ⟨l,xs,y,rfl,rfl,hH,hz,q⟩:=h
 cases rx
 obtain ⟨u,rfl,ru⟩:=rv.one
 obtain ⟨z,its,n,r,hl,e⟩:=I.lstM hH
 refine call_meets F.slot_list_append ⟨_,e,rfl⟩ F.entry_list_append (F.args_list_append_2 _ _) (PySem.list_append l its.toArray n u (by rw [List.size_toArray]; omega)) ⟨e,?_⟩
 refine ⟨.non,_,I.lset (its':=its ++ [u]) hH e (by simp) (r.append (.cons ru .nil)) ?_,rfl,q⟩
 rw [List.length_append,List.length_singleton]
 omega
def c3:V→List V→Hp→VK→Prop:=fun x vs H Q=>∃ l b xs zs,x=.ref l∧vs=[.ref b]∧H l=some (.lst xs)∧H b=some (.lst zs)∧xs.length + zs.length ≤ sizeLine∧Q .non (upd H l (.lst (xs ++ zs)))
theorem Ww:MtM X "list.extend" c3:=by
 intro pins s σ H x vs v us Q I rx rv h
 obtain ⟨l,b,xs,zs,rfl,rfl,hH,hB,hz,q⟩:=h
 cases rx
 obtain ⟨u,rfl,ru⟩:=rv.one
 cases ru
 obtain ⟨z,its,n,r,hl,e⟩:=I.lstM hH
 obtain ⟨z2,its2,n2,r2,hl2,e2⟩:=I.lstM hB
 have hsz:its.toArray.size + its2.toArray.size ≤ sizeLine:=by rw [List.size_toArray,List.size_toArray]; omega
 have hlong:¬ (!its.toArray.isEmpty && Builtin.List.listTooLong (its.toArray.size + its2.toArray.size))=true:=by
  rw [mB hsz,Bool.and_false]
  exact Bool.false_ne_true
 refine call_meets F.slot_list_extend ⟨_,e,rfl⟩ F.entry_list_extend (F.args_list_extend_2 _ _)
  (AutoSeq1.list_extend_list_list_0 l its.toArray n b its2.toArray n2 hlong (by rw [List.size_toArray]; omega) (by omega)) ⟨e,e2,?_⟩
 refine ⟨.non,_,I.lset (its':=its ++ its2) hH e (by simp) (r.append r2) ?_,rfl,q⟩
 rw [List.length_append]
 omega
def QE:V→List V→Hp→VK→Prop:=fun x vs H Q=>∃ l xs y,x=.ref l∧vs=[]∧H l=some (.lst xs)∧xs[xs.length - 1]? = some y∧Q y (upd H l (.lst xs.dropLast))
theorem XU:MtM X "list.pop" QE:=by
 intro pins s σ H x vs v us Q I rx rv h
 obtain ⟨l,xs,y,rfl,rfl,hH,hy,q⟩:=h
 cases rx
 have hus:=rv.zero
 subst hus
 obtain ⟨z,its,n,r,hl,e⟩:=I.lstM hH
 obtain ⟨u,hu,ru⟩:=r.get hy
 have hy':its.toArray[its.toArray.size - 1]? = some u:=by
  show its.toArray[its.length - 1]? = some u
  rw [← Array.getElem?_toList,← hl]
  exact hu
 refine call_meets F.slot_list_pop ⟨_,e,rfl⟩ F.entry_list_pop (F.args_list_pop_1 _) (MeetsSeq.list_pop_last l its.toArray n u hy' (by rw [List.size_toArray]; omega)) ⟨e,?_⟩
 refine ⟨y,_,I.lset (its':=its.dropLast) hH e ?_ r.dropLast ?_,ru,q⟩
 ·show its.toArray.eraseIdxIfInBounds (its.toArray.size - 1)=its.dropLast.toArray
  rw [List.size_toArray,List.eraseIdxIfInBounds_toArray,je]
 ·rw [List.length_dropLast]
  omega
def fu:V→List V→Hp→VK→Prop:=fun x vs H Q=>∃ l xs,x=.ref l∧vs=[]∧H l=some (.lst xs)∧Q .non (upd H l (.lst xs.reverse))
theorem kz:MtM X "list.reverse" fu:=by
 intro pins s σ H x vs v us Q I rx rv h
 obtain ⟨l,xs,rfl,rfl,hH,q⟩:=h
 cases rx
 have hus:=rv.zero
 subst hus
 obtain ⟨z,its,n,r,hl,e⟩:=I.lstM hH
 refine call_meets F.slot_list_reverse ⟨_,e,rfl⟩ F.entry_list_reverse (F.args_list_reverse_1 _) (AutoSeq1.list_reverse_list_0 l its.toArray n (by rw [List.size_toArray]; omega)) ⟨e,?_⟩
 refine ⟨.non,_,I.lset (its':=its.reverse) hH e (by simp) r.reverse ?_,rfl,q⟩
 rw [List.length_reverse]
 omega
def QF:R2:=fun x y H Q=>∃ l b xs zs,x=.ref l∧y=.ref b∧H l=some (.lst xs)∧H b=some (.lst zs)∧xs.length + zs.length ≤ sizeLine∧∀ p,H p=none→Q (.ref p) (upd H p (.lst (xs ++ zs)))
theorem Ys:OpR X (binaryOp .Add) QF:=by
 intro pins s σ H x y v u Q I rx ry h
 obtain ⟨l,b,xs,zs,rfl,rfl,hH,hB,hz,q⟩:=h
 cases rx
 cases ry
 obtain ⟨z,its,n,r,hl,e⟩:=I.lstM hH
 obtain ⟨z2,its2,n2,r2,hl2,e2⟩:=I.lstM hB
 refine PySem.P.add_list e e2 ?_ (by rw [List.size_toArray,List.size_toArray]; omega)
 have ea:its.toArray ++ its2.toArray=(its ++ its2).toArray:=by simp
 rw [ea]
 exact ⟨.ref _,_,I.lnew (t':=s.toks) (r.append r2) (by rw [List.length_append]; omega),rfl,q _ I.fresh⟩
def QD:R2:=fun x y H Q=>∃ l k xs,x=.ref l∧y=.int k∧H l=some (.lst xs)∧-(2 ^ 63) ≤ k∧k < 2 ^ 63∧xs.length * k.toNat ≤ sizeLine∧
 ∀ p,H p=none→Q (.ref p) (upd H p (.lst (List.replicate k.toNat xs).flatten))
theorem aB {α:Type} (xs:List α) (k:Nat):(List.replicate k xs).flatten.length=k * xs.length:=by
 induction k with
 | zero=>simp
 | succ k ih=>rw [List.replicate_succ,List.flatten_cons,List.length_append,ih,Nat.succ_mul,Nat.add_comm]
theorem Yq:OpR X (binaryOp .Mult) QD:=by
 intro pins s σ H x y v u Q I rx ry h
 obtain ⟨l,k,xs,rfl,rfl,hH,h1,h2,hz,q⟩:=h
 cases rx
 obtain ⟨t,rfl⟩:=ry
 obtain ⟨z,its,n,r,hl,e⟩:=I.lstM hH
 have hlen:its.toArray.size * k.toNat ≤ sizeLine:=by rw [List.size_toArray,← hl]; exact hz
 have hcap:¬ its.toArray.size * k.toNat > (2 ^ 63 - 1) / 8:=by
  have:(sizeLine:Nat) ≤ (2 ^ 63 - 1) / 8:=by decide
  omega
 have hfit:¬ (!Builtin.List.listFitsIndex k)=true:=by
  rw [fitsIndex_both h1 h2]
  exact Bool.false_ne_true
 have hlong:¬ Builtin.List.listTooLong (its.toArray.size * k.toNat)=true:=by
  rw [mB hlen]
  exact Bool.false_ne_true
 have hnew:List.foldl (fun x1 x2=>x1 ++ x2) #[] (List.replicate (if its.toArray.isEmpty=true then 0 else k.toNat) its.toArray)=(List.replicate k.toNat its).flatten.toArray:=by
  have f0:∀ m:Nat,List.foldl (fun x1 x2=>x1 ++ x2) #[] (List.replicate m its.toArray)=(List.replicate m its).flatten.toArray:=fun m=>by
   have:=pE its m []
   rw [List.nil_append] at this
   exact this
  rw [f0]
  cases its with
  | nil=>simp
  | cons a r'=>rw [if_neg (by simp)]
 refine wpAny_binaryOp_repeat_ref (T:="list") (U:="int") (by decide) ⟨_,e,rfl⟩ (fun s'=>typeIs_int s' k t) noFill_list_mul F.fills_int_mul F.slot_int_rmul repeat_list F.slot_int_index.lookup
  (call_meets F.slot_int_rmul (typeIs_int s k t) F.entry_int_rmul (F.args_int_rmul_2 _ _) (int___rmul___int_list k t l its.toArray n)
   ⟨e,rfl,⟨_,e,rfl⟩,call_meets F.slot_list_mul ⟨_,e,rfl⟩ F.entry_list_mul (F.args_list_mul_2 _ _) (AutoListH.list___mul___list_int_3 l its.toArray n k t hfit hcap hlong) ⟨e,?_⟩⟩)
 rw [hnew]
 exact ⟨.ref _,_,I.lnew (t':=s.toks) (r.rep k.toNat) (by rw [aB,Nat.mul_comm]; exact hz),rfl,q _ I.fresh⟩
end
section
variable {prog:Program} {w:World} {A:Around} {E:Value→Shared→Prop} {s:Shared}
set_option maxRecDepth 100000 in
end
section
variable {X:Cx}
end
end L2
namespace Att
open PySem PySem.W PySem.Calls PyProof.Rows
theorem t_ {P:Params} {h:Heap}:∀ (ns:List Int) (vs:List Value),WellAll P h vs (ns.map WData.int)→IntsAre vs ns:=by
 intro ns
 induction ns with
 | nil=>
  intro vs w
  rw [List.map_nil] at w
  cases w
  exact .nil
 | cons n ns ih=>
  intro vs w
  rw [List.map_cons] at w
  cases w with
  | cons a b=>
   cases a
   exact .cons _ _ (ih _ b)
theorem iw {l:OpenLaw} {n:Nat} (hn:l.most=some n) {P:Params} {h:Heap} {args:List WData} {vals:List Value}
  (hpre:l.row.toRowW.claim.pre args=true) (hwl:WellAll P h vals args):
  ∃ a vs ns,vals=[Value.ref a]∧args=[WData.list (ns.map WData.int)]∧h.get? a=some { cls:=.type "list",data:=.seq vs.toArray }∧IntsAre vs ns∧ns.length ≤ n:=by
 have hsh:WShape.hasAll [] args [.list .int]=true:=(pre_splitW hpre).1
 have hc:l.pre.holds [] { args:=args }=true:=(pre_splitW hpre).2
 obtain ⟨d,r,rfl,h1,h2⟩:=hasAllW_cons hsh
 obtain rfl:=hasAllW_nil h2
 obtain ⟨xs,rfl,h3⟩:=hasW_list h1
 obtain ⟨ns,rfl⟩:=items_int h3
 have hlen:ns.length ≤ n:=by
  unfold OpenLaw.pre at hc
  have h4:(WTm.not (.lt (.lit (.int (n:Int))) (.len (.arg 0)))).holds [] { args:=[.list (ns.map .int)] }=true:=by
   have h4:=(holds_andW hc).1
   rw [hn] at h4
   exact h4
  have h5:=condW_of h4 (w_not (w_lt w_lit (w_len_list (w_arg rfl))))
  rw [List.length_map] at h5
  refine Nat.le_of_not_lt fun q=>?_
  have q':(n:Int) < ((ns.length:Nat):Int):=by omega
  first
   | (rw [decide_eq_true q'] at h5; exact absurd h5 (by decide))
   | (simp at h5; omega)
 cases hwl with
 | cons w1 w2=>
  cases w2
  cases w1 with
  | list ho hall=>exact ⟨_,_,ns,rfl,rfl,ho,t_ ns _ hall,hlen⟩
theorem iA (l:OpenLaw) (args:List WData):l.row.toRowW.claim.post args (.bool true) args=true:=
 postW_of (r:=l.row.toRowW) (X:=(true == true))
  (show WShape.has [] (.bool true) .bool=true by first | rfl | decide | simp [WShape.has,WShape.arms,WShape.armsAll])
  (show (WTm.eq .res (.lit (.bool true))).value [] { args:=args,res:=some (.bool true),after:=args }=some (.bool (true == true)) from w_eq_bool (w_res rfl) w_lit) rfl
theorem attach_call {l:OpenLaw} {n:Nat} {q:Program} {loose:List Str} {XP:(Str→Option Value)→Heap→Prop} {YP:World→Heap→Prop} {d:DefRec}
  (hn:l.most=some n) (hdf:d.params.defaults=[])
  (call:∀ (w:World) (s₀ s₁:Shared) (mg mb:Str→Option Value) (fa:Addr) (o:Obj) (pm cd doc:Value) (a:Addr) (vs:List Value) (ns:List Int),
   Ground q loose [] XP w s₀ mg mb s₁.heap→YP w s₁.heap→
   s₁.heap.get? fa=some o→o.data=.func (docDef d.name d.params d.body d.scope pm cd doc)→s₁.heap.CodeRec cd d.name→mg d.name=some (.ref fa)→
   s₁.heap.get? a=some { cls:=.type "list",data:=.seq vs.toArray }→IntsAre vs ns→ns.length ≤ n→s₁.gens=#[]→
   codeAny (model l.prog w) callerA (.call (.ref fa) ⟨[.ref a],[]⟩) (fun r s'=>r=.ok (.ret (.bool true))∧OldK s₁.heap s'.heap∧s'.os=s₁.os∧AllBare s'.gens) s₁):
  WalkO q loose XP YP l.row.toRowW d [] (fun f vs=>PySem.call f vs):=by
 intro w s₀ s₁ mg mb G Y fa o pm cd doc dV kV ho hd hcd hD hmg hg args vals as hpre hlay hrd hwl hlo
 obtain rfl:dV=.none:=Dflts.none hD hdf
 obtain rfl:kV=.none:=Dflts.noKw hD
 obtain ⟨a,vs,ns,rfl,rfl,hobj,hints,hlen⟩:=iw hn hpre hwl
 refine enter_call (codeAny_mono (call w s₀ s₁ mg mb fa o pm cd doc a vs ns G Y ho (fd_plain hd) hcd hmg hobj hints hlen hg) fun r s' hq=>?_)
 obtain ⟨rfl,h2,h3,h4⟩:=hq
 exact ⟨.inl ⟨.bool true,.bool true,[],rfl,fun _=>rfl,.bool true,iA l _,fun _=>⟨List.Pairwise.nil,fun _ hm=>(nomatch hm)⟩⟩,h2,h3,h4⟩
section
variable {prog:Program} {w:World} {A:Around} {E:Value→Shared→Prop} {s:Shared} {K:Frag}
def PL (h:Heap) (L d:Addr):List (Addr × Obj):=(List.range h.objs.size).filterMap fun a=>if a=L∨a=d then none else (h.get? a).map fun o=>(a,o)
end
end Att
namespace L2
open PySem PySem.Spec PyProof.Rows
theorem pb:∀ {vs:List Value} {ns:List Int},IntsAre vs ns→Vals (ns.map V.int) vs
 | _,_,.nil=>.nil
 | _,_,.cons n t h=>.cons ⟨t,rfl⟩ (pb h)
def Wu (H:Hp):Prop:=∀ b,H b=none∨∃ o xs,H b=some (.frz o (.lst xs))
theorem du {P:Program} {w:World} {K:PySem.W.Frag} {mg mb:Str→Option Value} {CX:CXT} {k:Nat} {fa a:Addr} {fd:FuncData} {x:Str} {sp:Sp} {s₁:Shared} {vs:List Value} {ns:List Int}
  (KX:K.In s₁.heap) (hns:s₁.heap.Ns mainGlobals mg) (hb:s₁.heap.Ns builtinsNs mb) (hbb:∀ x:Str,x ≠ "__name__"→mb x=bootBuiltins x) (hlim:s₁.heap.NoLimit) (hg:s₁.gens=#[])
  (ha:s₁.heap.get? a=some { cls:=.type "list",data:=.seq vs.toArray }) (hi:IntsAre vs ns) (hl:ns.length ≤ sizeLine) (hr:Room k callerA)
  (F:∀ base:Heap,K.In base→base.Ns mainGlobals mg→FnOk P w K mg base CX k fa fd [x] sp) (hbind:∀ (s:Shared) (u:Value),BindsTo s fd ⟨[u],[]⟩ [(x,u)])
  (hsp:∀ H:Hp,Wu H→SqL K H a (ns.map V.int)→sp [.ref a] H (fun v _=>v=.bl true) fun _ _ _=>False)
  (hCX:∀ H e s',CX [] H s₁ (fun _ _ _=>False) e s'→False):
  codeAny (model P w) callerA (.call (.ref fa) ⟨[.ref a],[]⟩) (fun r s'=>r=.ok (.ret (.bool true))∧OldK s₁.heap s'.heap∧s'.os=s₁.os∧AllBare s'.gens) s₁:=by
 have rv:=pb hi
 have lenV:=hi.length
 have core:∀ H:Hp,Wu H→SqL K H a (ns.map V.int)→HOk P w H s₁.heap→(∀ b,H b ≠ none→b=a)→(H a ≠ none→K.lookup a=none)→
   codeAny (model P w) callerA (.call (.ref fa) ⟨[.ref a],[]⟩) (fun r s'=>r=.ok (.ret (.bool true))∧OldK s₁.heap s'.heap∧s'.os=s₁.os∧AllBare s'.gens) s₁:=by
  intro H hO hS hok hA hK
  have base_of:∀ {b:Addr} {o:Obj},s₁.heap.get? b=some o→H b=none→(oU s₁.heap H).get? b=some o:=fun e n=>dB e n
  have noA:∀ {b:Addr} {o:Obj} {es:Array DictEntry} {ep:Nat},s₁.heap.get? b=some o→o.data=.dict es ep→H b=none:=fun {b o es ep} e d=>by
   cases q:H b with
   | none=>rfl
   | some u=>
    have e':b=a:=hA b (by rw [q]; simp)
    subst e'
    rw [ha] at e; cases e
    have d':Data.seq vs.toArray _=Data.dict es ep:=d
    cases d'
  have nsK:∀ {b:Addr} {m:Str→Option Value},s₁.heap.Ns b m→(oU s₁.heap H).Ns b m:=fun {b m} ⟨o,es,ep,e,d,r⟩=>⟨o,es,ep,base_of e (noA e d),d,r⟩
  have hKb:K.In (oU s₁.heap H):=fun b o e=>base_of (KX b o e) (by
   cases q:H b with
   | none=>rfl
   | some u=>
    have e':b=a:=hA b (by rw [q]; simp)
    subst e'
    rw [hK (by rw [q]; simp)] at e; cases e)
  have hM:Mod K mg (oU s₁.heap H):=⟨hKb,nsK hns,⟨mb,nsK hb,hbb⟩,let ⟨mc,h1,h2⟩:=hlim; ⟨mc,nsK h1,h2⟩⟩
  have e0:Env0 P w K mg (oU s₁.heap H) callerA [] s₁ H:=⟨rfl,hM,fun b o e=>br e,Nat.le_of_eq (gx _ _),trivial,fun b hb=>absurd (show b ∈ ([]:List Addr) from hb) (by simp),hok,.of_eq hg⟩
  refine codeAny_mono ((F _ hKb (nsK hns)).run callerA [] s₁ H ⟨[.ref a],[]⟩ [.ref a] [.ref a] _ _ hr e0 (hbind s₁ (.ref a)) (.cons rfl .nil) (hsp H hO hS)) fun r s' h=>?_
  cases r with
  | error e=>exact (hCX H e s' h).elim
  | ok fl=>
   cases fl with
   | next=>exact False.elim h
   | brk=>exact False.elim h
   | cont=>exact False.elim h
   | ret u=>
    obtain ⟨v,H',os,bare,un,hok',r',q⟩:=h
    have q':v=.bl true:=q
    subst q'
    obtain rfl:u=Value.bool true:=r'
    refine ⟨rfl,OldK.of_keep fun b o e=>?_,os,bare⟩
    cases q:H b with
    | none=>exact un.keep b o e q (by intro z; exact absurd (show b ∈ ([]:List Addr) from z) (by simp)) (by simp)
    | some u=>
     rcases hO b with z | ⟨ob,xs,z⟩
     ·rw [q] at z; cases z
     ·have z2:=un.frzs b ob _ z
      obtain ⟨e1,_⟩:=hok b _ z
      obtain ⟨e2,_⟩:=hok' b _ z2
      rw [e] at e1; cases e1
      exact e2
 cases hk:K.lookup a with
 | some o=>
  have e:=KX a o hk
  rw [ha] at e
  cases e
  refine core (fun _=>none) (fun _=>.inl rfl) (.inr ⟨_,vs.toArray,_,hk,rfl,rfl,rfl,by rw [List.size_toArray,lenV]; exact hl,by simpa using rv⟩) (fun b u z=>by have z':(none:Option HO)=some u:=z; cases z') (fun b z=>absurd rfl z) fun z=>absurd rfl z
 | none=>
  refine core (fun b=>if b=a then some (.frz { cls:=.type "list",data:=.seq vs.toArray } (.lst (ns.map V.int))) else none) (fun b=>?_) (.inl (.inr ⟨{ cls:=.type "list",data:=.seq vs.toArray },if_pos rfl⟩)) (fun b u z=>?_) (fun b z=>?_) fun _=>hk
  ·by_cases hb:b=a
   ·exact .inr ⟨_,_,if_pos hb⟩
   ·exact .inl (if_neg hb)
  ·by_cases hb:b=a
   ·have z':=(if_pos hb).symm.trans z
    cases z'
    subst hb
    exact ⟨ha,by rw [List.length_map]; exact hl,vs,_,rv,ha⟩
   ·have z':=(if_neg hb).symm.trans z
    cases z'
  ·by_cases hb:b=a
   ·exact hb
   ·exact absurd (if_neg hb) z
end L2
namespace L2
open PySem PySem.Spec PyProof.Rows
abbrev KOf {K:PySem.W.Frag} {h:Heap} (_:K.In h):PySem.W.Frag:=K
theorem walk_of {l:PySem.W.OpenLaw} {n k:Nat} {q:Program} {loose:List Str} {XP:(Str→Option Value)→Heap→Prop} {YP:World→Heap→Prop} {d:DefRec} {K:Params→PySem.W.Frag} {CX:World→CXT} {sp:World→Sp} {x:Str}
  (hn:l.most=some n) (hn2:n ≤ sizeLine) (hdf:d.params.defaults=[]) (hr:Room k callerA)
  (hY:∀ (w:World) (h:Heap),YP w h→(K w.params).In h)
  (F:∀ (w:World) (mg:Str→Option Value) (fa:Addr) (h:Heap),(K w.params).In h→h.Ns mainGlobals mg→mg d.name=some (.ref fa)→
   ∃ fd:FuncData,(∀ (s:Shared) (u:Value),BindsTo s fd ⟨[u],[]⟩ [(x,u)])∧
    ∀ base:Heap,(K w.params).In base→base.Ns mainGlobals mg→FnOk l.prog w (K w.params) mg base (CX w) k fa fd [x] (sp w))
  (hsp:∀ (w:World) (H:Hp) (a:Addr) (ns:List Int),ns.length ≤ n→Wu H→SqL (K w.params) H a (ns.map V.int)→sp w [.ref a] H (fun v _=>v=.bl true) fun _ _ _=>False)
  (hCX:∀ (w:World) (H:Hp) (s:Shared) (e:Value) (s':Shared),CX w [] H s (fun _ _ _=>False) e s'→False):
  PySem.W.WalkO q loose XP YP l.row.toRowW d [] (fun f vs=>PySem.call f vs):=by
 refine Att.attach_call hn hdf fun w s₀ s₁ mg mb fa o pm cd doc a vs ns G Y ho hd hcd hmg hobj hints hlen hg=>?_
 have KX:=hY w _ Y
 obtain ⟨fd,hb,hF⟩:=F w mg fa _ KX G.T.g hmg
 exact du KX G.T.g G.T.b G.T.builtins G.T.nolimit hg hobj hints (Nat.le_trans hlen hn2) hr hF hb (fun H hO hS=>hsp w H a ns hlen hO hS) fun H e s'=>hCX w H s₁ e s'
end L2
namespace L2
open PySem PySem.Spec PyProof.Rows
def inClass (s:Stmt) (j:Nat):Stmt:=match s with
 | .ClassDef _ _ _ body _ _ _ _ _ _ _=>body.getD j (.Pass ⟨0,0,0,0⟩)
 | _=>.Pass ⟨0,0,0,0⟩
def defArgs (s:Stmt):Arguments:=match s with
 | .FunctionDef _ a _ _ _ _ _ _ _ _=>a
 | _=>{ posonlyargs:=[],args:=[],vararg:=none,kwonlyargs:=[],kw_defaults:=[],kwarg:=none,defaults:=[] }
def defBody (s:Stmt):List Stmt:=match s with
 | .FunctionDef _ _ b _ _ _ _ _ _ _=>b
 | _=>[]
def defScope (s:Stmt):Scope:=match s with
 | .FunctionDef _ _ _ _ _ _ sc _ _ _=>sc
 | _=>{ kind:=.function,names:=[],isGenerator:=false,isCoroutine:=false }
abbrev CX0:CXT:=fun _ _ _ _ _ _=>False
abbrev E0:XK:=fun _ _ _=>False
theorem ph {X:Cx}:tu CX0 X E0:=fun _ _ _ _ _ _ _ h=>h.elim
structure Fun (K:PySem.W.Frag) (x qual:Str) (st:Stmt) (f:Addr) (fd:FuncData):Prop where
 ex:∃ (oc:Value) (od:Option Addr) (kV doc pm:Value) (an:Option Addr) (cdv ct:Value) (osl:Array (Option Value)),
  fd=PySem.W.fnOf x qual (defArgs st) (defBody st) (defScope st) .none kV doc pm an cdv ct∧K.lookup f=some ⟨oc,od,.func fd,osl⟩∧PySem.W.codeIn K cdv qual=true
 kp:PySem.W.keepIn K (.ref f)=true
section
variable {P:Program} {w:World} {K:PySem.W.Frag} {mg:Str→Option Value} {base:Heap}
theorem Fun.ok {x qual:Str} {st:Stmt} {f:Addr} {fd:FuncData} {N ps:List Str} {k:Nat} {sp:Sp} (F:Fun K x qual st f fd) (S:zi N ps (defScope st)) (len:∀ vs H Q E,sp vs H Q E→vs.length=ps.length)
  (hbody:∀ (cdv:Value) (A:Around) (outer:List Env) (s:Shared) (H:Hp) (vs:List V) (Q:VK) (E:XK),Room k (A.deeper (envOfC qual (defScope st) s.heap.objs.size f cdv))→sp vs H Q E→
   ∃ t,PSs (yC CX0 P w K mg base N qual (defScope st) f cdv A outer s H E).nox (defBody st) t∧t { nx:=fun _ H'=>Q .non H',rt:=Q } (start N vs) H):FnOk P w K mg base CX0 (k + 1) f fd ps sp:=by
 obtain ⟨oc,od,kV,doc,pm,an,cdv,ct,osl,rfl,lk,hcd⟩:=F.ex
 refine ZC lk hcd S len fun A outer s H vs Q E hr hsp=>?_
 obtain ⟨t,h,q⟩:=hbody cdv A outer s H vs Q E hr hsp
 exact ⟨t,h.nox,q⟩
theorem Fun.binds {x qual:Str} {st:Stmt} {f:Addr} {fd:FuncData} {ps:List Str} (F:Fun K x qual st f fd)
  (h:∀ (kV doc pm:Value) (an:Option Addr) (cdv ct:Value) (us:List Value),us.length=ps.length→bindArgs (PySem.W.fnOf x qual (defArgs st) (defBody st) (defScope st) .none kV doc pm an cdv ct) ⟨us,[]⟩=pure (ps.zip us)):Binds K fd ps []:=by
 obtain ⟨oc,od,kV,doc,pm,an,cdv,ct,osl,rfl,lk,hcd⟩:=F.ex
 exact .all (h kV doc pm an cdv ct)
theorem jc {x qual:Str} {st:Stmt} {f:Addr} {oc:Value} {od an:Option Addr} {osl:Array (Option Value)} {kV doc pm cdv ct:Value} (l:K.lookup f=some ⟨oc,od,.func (PySem.W.fnOf x qual (defArgs st) (defBody st) (defScope st) .none kV doc pm an cdv ct),osl⟩)
  (c:PySem.W.codeIn K cdv qual=true) (k:PySem.W.keepIn K (.ref f)=true):Fun K x qual st f (PySem.W.fnOf x qual (defArgs st) (defBody st) (defScope st) .none kV doc pm an cdv ct):=⟨⟨oc,od,kV,doc,pm,an,cdv,ct,osl,rfl,l,c⟩,k⟩
end
section
variable {X:Cx}
theorem pv (i:Nat) {x:Str} {pos:Pos} (hN:X.N[i]? = some x:=by rfl) (hv:Vis X.env.scope x:=by first | exact Or.inl rfl | exact Or.inr (Or.inl rfl) | exact Or.inr (Or.inr rfl)) (hd:(x == ("__debug__":Str))=false:=by decide)
  (hcd:(x == ("__classdict__":Str))=false:=by decide):PE X (.Name x pos) (cR i):=xh hN hv hd hcd
end
theorem PQ {A B:Prop} (h:B):if false=true then A else B:=by
 rw [if_neg Bool.false_ne_true]
 exact h
theorem PP {A B:Prop} (h:A):if true=true then A else B:=by
 rw [if_pos rfl]
 exact h
theorem VD {c A B:Prop} [Decidable c] (h1:c→A) (h2:¬ c→B):if c then A else B:=by
 by_cases h:c
 ·rw [if_pos h]
  exact h1 h
 ·rw [if_neg h]
  exact h2 h
def Same (H H':Hp):Prop:=∀ b o,H b=some o→H' b=some o
theorem Same.refl (H:Hp):Same H H:=fun _ _ h=>h
theorem Same.trans {H H1 H2:Hp} (a:Same H H1) (b:Same H1 H2):Same H H2:=fun c o h=>b c o (a c o h)
theorem Same.free {H H':Hp} (e:Same H H') {l:Addr} (h:H' l=Option.none):H l=Option.none:=by
 cases q:H l with
 | none=>rfl
 | some o=>
  rw [e l o q] at h
  cases h
theorem Same.seq {K:PySem.W.Frag} {H H':Hp} {a:Addr} {xs:List V} (e:Same H H') (h:SqL K H a xs):SqL K H' a xs:=by
 rcases h with (h | ⟨o,h⟩) | h
 ·exact .inl (.inl (e _ _ h))
 ·exact .inl (.inr ⟨o,e _ _ h⟩)
 ·exact .inr h
end L2
set_option maxRecDepth 1000000
set_option maxHeartbeats 0
open PySem in
def My.top (i:Nat):Stmt:=PySem.Challenge.pw_oddbases_k52_moved_refused.main.body.getD i (.Pass ⟨0,0,0,0⟩)
noncomputable section
open PySem My
namespace My
abbrev v_:Option Value:=some (.ref 6)
abbrev g_:Array GenState:=⟨[]⟩
abbrev d_:=@Drawn.mk 0 0 0 0
abbrev P_:=@Pos.mk
abbrev N_ (o:Params→Obj) (a b:Params→W.BT) (x:Params):W.BT:=.node (o x) (a x) (b x)
abbrev Z_ (_:Params):W.BT:=.nil
abbrev L_ (o:Params→Obj):=N_ o Z_ Z_
theorem sg_ {tb p w n₀ ann b} {n:Nat} {s s':W.SharedT} {t:Thread} {f:Flow} {c:Code} {q:Pos} (h:W.segRunT tb p w n₀ ann b n s t=some (f,s',c,q)):W.segRun tb p w n₀ ann b n s.abs t=some (f,s'.abs,c,q):=W.segRun_of h
abbrev p_ (a:String) (b:Nat):Value:=.str (.ofString a) b
abbrev j_ (a:Int) (b:Nat):Value:=.int a b
abbrev r_ (a:Nat):Value:=.ref a
abbrev e_ (x:Params) (a:String) (b:Nat) (v:Value):DictEntry:=⟨PyData.keyHash x (.ofString a),.str (.ofString a) b,v⟩
abbrev t0 (a1:String) (a3:Nat) (a7:String) (a8 a9:Nat) (x:Params):Obj:=(@Obj.mk (.type "function") none (@Data.func (@FuncData.mk (.ofString a1) (.ofString a1) (L2.defArgs (My.top a3)) (@FuncBody.stmts (L2.defBody (My.top a3))) (L2.defScope (My.top a3)) 3 (@List.nil (@Prod @Str @Nat)) .none .none .none (p_ a7 a8) none (r_ a9) .none 0)) #[])
abbrev t1 (a1:String) (a2:Nat) (a3:String) (a4 a6:Nat) (a7 a9:Int) (a17 a20 a21 a22 a23:Nat) (a24:Int) (a29:Nat) (x:Params):Obj:=(@Obj.mk (.type "code") none (@Data.fields (List.toArray [(p_ a1 a2),(p_ a3 a4),(p_ "/claim/cut.py" a6),(j_ a7 0),(j_ a9 0),(j_ 0 0),(j_ 0 0),(j_ 3 0),(r_ a17),(.bool @Bool.true),(j_ 181 0),(r_ a20),.none,(r_ a21),(r_ a22),(r_ a23),(j_ a24 0),(j_ a7 0),(p_ "/claim/cut.py" a29)])) #[])
abbrev t2 (a0:String) (a2:Nat) (x:Params):Obj:=(@Obj.mk .none none (@Data.func (@FuncData.mk (.ofString a0) (.ofString a0) (L2.defArgs (My.top a2)) (@FuncBody.stmts (L2.defBody (My.top a2))) (L2.defScope (My.top a2)) 0 (@List.nil (@Prod @Str @Nat)) .none .none .none .none none .none .none 0)) #[])
abbrev t3 (x:Params):Obj:=(@Obj.mk (.type "tuple") none (@Data.seq #[] 0) #[])
abbrev t4 (x:Params):Obj:=(@Obj.mk .none none (@Data.fields #[]) #[])
abbrev t5 (a1:String) (a2:Nat) (a3:String) (a4:Nat) (a5:String) (a6:Nat) (a7:String) (a8:Nat) (a9:String) (a10:Nat) (a11:String) (a12:Nat) (x:Params):Obj:=(@Obj.mk (.type "tuple") none (@Data.seq (List.toArray [(p_ a1 a2),(p_ a3 a4),(p_ a5 a6),(p_ a7 a8),(p_ a9 a10),(p_ a11 a12)]) 0) #[])
abbrev t6 (a1:String) (a2:Nat) (a3:String) (a4:Nat) (a5:String) (a6:Nat) (a7:String) (a8:Nat) (a9:String) (a10:Nat) (x:Params):Obj:=(@Obj.mk (.type "tuple") none (@Data.seq (List.toArray [(p_ a1 a2),(p_ a3 a4),(p_ a5 a6),(p_ a7 a8),(p_ a9 a10)]) 0) #[])
abbrev t7 (a1:String) (a2:Nat) (a3:String) (a4:Nat) (a5:String) (a6:Nat) (a7:String) (a8:Nat) (x:Params):Obj:=(@Obj.mk (.type "tuple") none (@Data.seq (List.toArray [(p_ a1 a2),(p_ a3 a4),(p_ a5 a6),(p_ a7 a8)]) 0) #[])
abbrev t8 (a1:String) (a2:Nat) (a3:String) (a4:Nat) (a5:String) (a6:Nat) (x:Params):Obj:=(@Obj.mk (.type "tuple") none (@Data.seq (List.toArray [(p_ a1 a2),(p_ a3 a4),(p_ a5 a6)]) 0) #[])
abbrev t9 (a1:String) (a2:Nat) (a3:String) (a4:Nat) (x:Params):Obj:=(@Obj.mk (.type "tuple") none (@Data.seq (List.toArray [(p_ a1 a2),(p_ a3 a4)]) 0) #[])
abbrev t10 (a1:String) (a2:Nat) (a3:String) (a4:Nat) (a5:String) (a6:Nat) (a7:String) (a8:Nat) (a9:String) (a10:Nat) (a11:String) (a12:Nat) (a13:String) (a14:Nat) (x:Params):Obj:=(@Obj.mk (.type "tuple") none (@Data.seq (List.toArray [(p_ a1 a2),(p_ a3 a4),(p_ a5 a6),(p_ a7 a8),(p_ a9 a10),(p_ a11 a12),(p_ a13 a14)]) 0) #[])
abbrev t11 (a2:Nat) (x:Params):Obj:=(@Obj.mk (.type "builtin_function_or_method") none (@Data.fields (List.toArray [(.builtin "object.__init_subclass__"),(r_ a2)])) #[])
abbrev t12 (a1:Nat) (x:Params):Obj:=(@Obj.mk (.type "super") none (@Data.fields (List.toArray [(r_ a1),(r_ a1),(r_ a1)])) #[])
abbrev t13 (a1:String) (a3 a6 a8 a10 a12:Nat) (x:Params):Obj:=(@Obj.mk (.type "type") none (@Data.cls (@ClassData.mk (.ofString a1) [(r_ 265)] [(r_ a3),(r_ 265),(.type "object")] a6 (.ofString a1) @Bool.true [] [] @Bool.false (@Option.none @Bool) @Bool.false)) (@List.toArray (@Option @Value) [(some (r_ a8)),none,(some (p_ a1 a10)),(some (p_ a1 a12)),(some (.builtin "object.__new__")),(some (.bool @Bool.true))]))
abbrev t14 (a1:String) (a2:Nat) (x:Params):Obj:=(@Obj.mk (.type "tuple") none (@Data.seq (List.toArray [(p_ a1 a2)]) 0) #[])
abbrev t15 (a1 a2:String) (a3 a4 a12:Nat) (x:Params):Obj:=(@Obj.mk (.type "function") none (@Data.func (@FuncData.mk (.ofString a1) (.ofString a2) (L2.defArgs (L2.inClass (My.top a3) a4)) (@FuncBody.stmts (L2.defBody (L2.inClass (My.top a3) a4))) (L2.defScope (L2.inClass (My.top a3) a4)) 3 (@List.nil (@Prod @Str @Nat)) .none .none .none (p_ "oddbases.ways" 442) none (r_ a12) .none 0)) #[])
abbrev t16 (a0 a1:String) (a2 a3:Nat) (x:Params):Obj:=(@Obj.mk .none none (@Data.func (@FuncData.mk (.ofString a0) (.ofString a1) (L2.defArgs (L2.inClass (My.top a2) a3)) (@FuncBody.stmts (L2.defBody (L2.inClass (My.top a2) a3))) (L2.defScope (L2.inClass (My.top a2) a3)) 0 (@List.nil (@Prod @Str @Nat)) .none .none .none .none none .none .none 0)) #[])
abbrev t17 (a1 a3:Nat) (a4:String) (a5:Nat) (x:Params):Obj:=(@Obj.mk (.type "frame") none @Data.plain (@List.toArray (@Option @Value) [(some (r_ a1)),(some (r_ 3)),(some (r_ a3)),none,(some (p_ a4 a5)),none,(some (r_ 0))]))
abbrev t18 (a1:String) (a2 a4 a6:Nat) (a7:Int) (a17 a20:Nat) (a21:Int) (a26:Nat) (x:Params):Obj:=(@Obj.mk (.type "code") none (@Data.fields (List.toArray [(p_ a1 a2),(p_ a1 a4),(p_ "/claim/cut.py" a6),(j_ a7 0),(j_ 0 0),(j_ 0 0),(j_ 0 0),(j_ 0 0),(r_ a17),(.bool @Bool.false),(j_ 181 0),(r_ a20),.none,.none,.none,.none,(j_ a21 0),(j_ a7 0),(p_ "/claim/cut.py" a26)])) #[])
abbrev t19 (a0 a2:Int) (a4:Nat) (a5:Int) (a9:Nat) (a10:Int) (a14:Nat) (a15:Int) (a19:Nat) (a20:Int) (a24:Nat) (a25:Int) (a29:Nat) (x:Params):Obj:=(@Obj.mk .none none (@Data.fields (List.toArray [(j_ a0 0),(j_ a2 0),(r_ a4),(j_ a5 0),(j_ a2 0),(r_ a9),(j_ a10 0),(j_ a2 0),(r_ a14),(j_ a15 0),(j_ a2 0),(r_ a19),(j_ a20 0),(j_ a2 0),(r_ a24),(j_ a25 0),(j_ a2 0),(r_ a29)])) #[])
abbrev t20 (a3 a8:Nat) (a9:String) (a10 a13:Nat) (a14:Int) (a15:Nat) (a16:String) (a18 a19:Nat) (a20:String) (a22 a23:Nat) (a24:String) (a26 a27:Nat) (a28:String) (a30 a31 a34 a35 a38 a39 a42 a43:Nat) (x:Params):Obj:=(@Obj.mk (.type "dict") none (@Data.dict (List.toArray [(e_ x "__module__" a3 (p_ "oddbases.ways" 442)),(e_ x "__qualname__" a8 (p_ a9 a10)),(e_ x "__firstlineno__" a13 (j_ a14 a15)),(e_ x a16 a18 (r_ a19)),(e_ x a20 a22 (r_ a23)),(e_ x a24 a26 (r_ a27)),(e_ x a28 a30 (r_ a31)),(e_ x "split" a34 (r_ a35)),(e_ x "has" a38 (r_ a39)),(e_ x "__static_attributes__" a42 (r_ a43))]) 10) #[])
abbrev t21 (x:Params):Obj:=(@Obj.mk (.type "builtin_function_or_method") none (@Data.fields (List.toArray [(.builtin "type.__prepare__"),(.type "type")])) #[])
abbrev t22 (a1:Nat) (x:Params):Obj:=(@Obj.mk (.type "tuple") none (@Data.seq (List.toArray [(r_ a1)]) 0) #[])
abbrev t23 (a3 a8:Nat) (a9:Int) (a10 a13 a14:Nat) (a15:String) (a17 a18:Nat) (a19:String) (a21 a22 a25 a26:Nat) (a27:String) (a29 a30 a33 a34 a37:Nat) (x:Params):Obj:=(@Obj.mk (.type "dict") none (@Data.dict (List.toArray [(e_ x "__module__" a3 (p_ "oddbases.ways" 442)),(e_ x "__firstlineno__" a8 (j_ a9 a10)),(e_ x "__init__" a13 (r_ a14)),(e_ x a15 a17 (r_ a18)),(e_ x a19 a21 (r_ a22)),(e_ x "ratio" a25 (r_ a26)),(e_ x a27 a29 (r_ a30)),(e_ x "__static_attributes__" a33 (r_ a34)),(e_ x "__doc__" a37 .none)]) 2) #[])
abbrev t24 (a0:Int) (a4:Nat) (a5:Int) (a9:Nat) (a10:Int) (a14:Nat) (a15:Int) (a19:Nat) (a20:Int) (a24:Nat) (x:Params):Obj:=(@Obj.mk .none none (@Data.fields (List.toArray [(j_ a0 0),(j_ 4 0),(r_ a4),(j_ a5 0),(j_ 4 0),(r_ a9),(j_ a10 0),(j_ 4 0),(r_ a14),(j_ a15 0),(j_ 4 0),(r_ a19),(j_ a20 0),(j_ 4 0),(r_ a24)])) #[])
abbrev t25 (a3 a8:Nat) (a9:String) (a10 a13:Nat) (a14:Int) (a15 a18 a19:Nat) (a20:String) (a22 a23:Nat) (a24:String) (a26 a27 a30 a31:Nat) (a32:String) (a34 a35 a38 a39:Nat) (x:Params):Obj:=(@Obj.mk (.type "dict") none (@Data.dict (List.toArray [(e_ x "__module__" a3 (p_ "oddbases.ways" 442)),(e_ x "__qualname__" a8 (p_ a9 a10)),(e_ x "__firstlineno__" a13 (j_ a14 a15)),(e_ x "__init__" a18 (r_ a19)),(e_ x a20 a22 (r_ a23)),(e_ x a24 a26 (r_ a27)),(e_ x "ratio" a30 (r_ a31)),(e_ x a32 a34 (r_ a35)),(e_ x "__static_attributes__" a38 (r_ a39))]) 9) #[])
abbrev t26 (a3 a8:Nat) (a9:Int) (a10 a13 a14 a17 a18 a21 a22 a25 a26 a29:Nat) (x:Params):Obj:=(@Obj.mk (.type "dict") none (@Data.dict (List.toArray [(e_ x "__module__" a3 (p_ "oddbases.ways" 442)),(e_ x "__firstlineno__" a8 (j_ a9 a10)),(e_ x "__init__" a13 (r_ a14)),(e_ x "high" a17 (r_ a18)),(e_ x "ratio" a21 (r_ a22)),(e_ x "__static_attributes__" a25 (r_ a26)),(e_ x "__doc__" a29 .none)]) 2) #[])
abbrev t27 (a0:Int) (a4:Nat) (a5:Int) (a9:Nat) (a10:Int) (a14:Nat) (x:Params):Obj:=(@Obj.mk .none none (@Data.fields (List.toArray [(j_ a0 0),(j_ 4 0),(r_ a4),(j_ a5 0),(j_ 4 0),(r_ a9),(j_ a10 0),(j_ 4 0),(r_ a14)])) #[])
abbrev t28 (a3 a8:Nat) (a9:String) (a10 a13:Nat) (a14:Int) (a15 a18 a19 a22 a23 a26 a27 a30 a31:Nat) (x:Params):Obj:=(@Obj.mk (.type "dict") none (@Data.dict (List.toArray [(e_ x "__module__" a3 (p_ "oddbases.ways" 442)),(e_ x "__qualname__" a8 (p_ a9 a10)),(e_ x "__firstlineno__" a13 (j_ a14 a15)),(e_ x "__init__" a18 (r_ a19)),(e_ x "high" a22 (r_ a23)),(e_ x "ratio" a26 (r_ a27)),(e_ x "__static_attributes__" a30 (r_ a31))]) 7) #[])
abbrev t29 (a2 a3:Nat) (x:Params):Obj:=(@Obj.mk (.type "getset_descriptor") none (@Data.fields (List.toArray [(p_ "__weakref__" a2),(r_ a3),(.builtin "ExceptionGroup.__weakref__"),.none])) #[])
abbrev t30 (a1:String) (a3 a9 a11 a13 a15:Nat) (x:Params):Obj:=(@Obj.mk (.type "type") none (@Data.cls (@ClassData.mk (.ofString a1) [(r_ 59)] [(r_ a3),(r_ 59),(.type "ValueError"),(.type "Exception"),(.type "BaseException"),(.type "object")] a9 (.ofString a1) @Bool.true [] [] @Bool.false (@Option.none @Bool) @Bool.false)) (@List.toArray (@Option @Value) [(some (r_ a11)),none,(some (p_ a1 a13)),(some (p_ a1 a15)),(some (.builtin "ValueError.__new__")),(some (.bool @Bool.true))]))
abbrev t31 (a3 a8:Nat) (a9:Int) (a10 a13 a14 a17:Nat) (x:Params):Obj:=(@Obj.mk (.type "dict") none (@Data.dict (List.toArray [(e_ x "__module__" a3 (p_ "oddbases.errors" 230)),(e_ x "__firstlineno__" a8 (j_ a9 a10)),(e_ x "__static_attributes__" a13 (r_ a14)),(e_ x "__doc__" a17 .none)]) 2) #[])
abbrev t32 (a3 a8:Nat) (a9:String) (a10 a13:Nat) (a14:Int) (a15 a18 a19:Nat) (x:Params):Obj:=(@Obj.mk (.type "dict") none (@Data.dict (List.toArray [(e_ x "__module__" a3 (p_ "oddbases.errors" 230)),(e_ x "__qualname__" a8 (p_ a9 a10)),(e_ x "__firstlineno__" a13 (j_ a14 a15)),(e_ x "__static_attributes__" a18 (r_ a19))]) 4) #[])
abbrev U41 (x:Params):DictEntry:=(e_ x "Way" 526 (r_ 265))
abbrev U40 (x:Params):DictEntry:=(e_ x "NoWay" 265 (r_ 72))
abbrev U39 (x:Params):DictEntry:=(e_ x "added" 219 (r_ 42))
abbrev U38 (x:Params):DictEntry:=(e_ x "__doc__" 166 .none)
abbrev U37 (x:Params):DictEntry:=(e_ x "Pairs" 846 (r_ 521))
abbrev U36 (x:Params):DictEntry:=(e_ x "Below" 616 (r_ 340))
abbrev U35 (x:Params):DictEntry:=(e_ x "Plain" 567 (r_ 300))
abbrev U34 (x:Params):DictEntry:=(e_ x "NoRow" 441 (r_ 204))
abbrev U33 (x:Params):DictEntry:=(e_ x "__spec__" 169 .none)
abbrev U32 (x:Params):DictEntry:=(e_ x "NoText" 425 (r_ 192))
abbrev U31 (x:Params):DictEntry:=(e_ x "NoSpan" 393 (r_ 168))
abbrev U30 (x:Params):DictEntry:=(e_ x "Nought" 377 (r_ 156))
abbrev U29 (x:Params):DictEntry:=(e_ x "as_pair" 209 (r_ 35))
abbrev U28 (x:Params):DictEntry:=(e_ x "is_pair" 202 (r_ 28))
abbrev U27 (x:Params):DictEntry:=(e_ x "Falling" 777 (r_ 467))
abbrev U26 (x:Params):DictEntry:=(e_ x "Growing" 714 (r_ 420))
abbrev U25 (x:Params):DictEntry:=(e_ x "bounded" 452 (r_ 213))
abbrev U24 (x:Params):DictEntry:=(e_ x "NoTotal" 409 (r_ 180))
abbrev U23 (x:Params):DictEntry:=(e_ x "NoPairs" 361 (r_ 144))
abbrev U22 (x:Params):DictEntry:=(e_ x "NoRatio" 329 (r_ 120))
abbrev U21 (x:Params):DictEntry:=(e_ x "TooLess" 313 (r_ 108))
abbrev U20 (x:Params):DictEntry:=(e_ x "NoNumber" 281 (r_ 84))
abbrev U19 (x:Params):DictEntry:=(e_ x "OddError" 249 (r_ 59))
abbrev U18 (x:Params):DictEntry:=(e_ x "is_whole" 195 (r_ 21))
abbrev U17 (x:Params):DictEntry:=(e_ x "__cached__" 174 .none)
abbrev U16 (x:Params):DictEntry:=(e_ x "Balanced" 673 (r_ 387))
abbrev U15 (x:Params):DictEntry:=(e_ x "NoWriting" 297 (r_ 96))
abbrev U14 (x:Params):DictEntry:=(e_ x "__package__" 167 .none)
abbrev U13 (x:Params):DictEntry:=(e_ x "NoFalling" 345 (r_ 132))
abbrev U12 (x:Params):DictEntry:=(e_ x "multiplied" 229 (r_ 49))
abbrev U11 (x:Params):DictEntry:=(e_ x "__builtins__" 171 (r_ 4))
abbrev U10 (x:Params):DictEntry:=(e_ x "__annotations__" 170 (r_ 6))
abbrev U9 (x:Params):DictEntry:=(e_ x "has_figures_alone" 899 (r_ 558))
abbrev U8 (x:Params):DictEntry:=(e_ x "written_by_weights" 947 (r_ 593))
abbrev U7 (x:Params):DictEntry:=(e_ x "held_to_be_writings" 925 (r_ 579))
abbrev U6 (x:Params):DictEntry:=(e_ x "figures_and_carries" 879 (r_ 544))
abbrev U5 (x:Params):DictEntry:=(e_ x "__name__" 165 (p_ "oddbases.ways" 442))
abbrev U4 (x:Params):DictEntry:=(e_ x "__file__" 173 (p_ "/claim/cut.py" 172))
abbrev U3 (x:Params):DictEntry:=(e_ x "__name__" 165 (p_ "oddbases.errors" 230))
abbrev U2 (x:Params):DictEntry:=(e_ x "has_mosts_above_noughts_alone" 908 (r_ 565))
abbrev U1 (x:Params):DictEntry:=(e_ x "__loader__" 168 (.builtin "__main__.__loader__#opaque"))
abbrev U0 (x:Params):DictEntry:=(e_ x "__name__" 165 (p_ "law_oddbases_k52_moved_refused" 975))
def Yv:=t0 "law" 59 "law_oddbases_k52_moved_refused" 975 702
def Yw:=t1 "law" 1096 "law" 1097 1098 363 1 697 698 699 700 701 1112 1113
def Vf:=t2 "law" 59
def za:=t3
def Yx (x:Params):Obj:=(@Obj.mk (.type "tuple") none (@Data.seq (List.toArray [(p_ "_law_script" 1099),(p_ "_law_name" 1100),(p_ "_law_number" 1101),(p_ "_law_part" 1102),(p_ "_law_other_name" 1103),(p_ "_law_other_number" 1104),(p_ "_law_row" 1105),(p_ "_law_due" 1106),(p_ "_law_pair" 1107),(p_ "_law_handed" 1108),(p_ "_law_way_here" 1109),(p_ "_law_names_here" 1110),(p_ "_law_found" 1111)]) 0) #[])
def zc:=t4
def Yy:=t0 "_law_asked" 58 "law_oddbases_k52_moved_refused" 975 695
def Yz:=t1 "_law_asked" 1084 "_law_asked" 1085 1086 353 3 690 691 692 693 694 1093 1094
def Vg:=t2 "_law_asked" 58
def YA:=t5 "_law_way_here" 1087 "_law_row" 1088 "_law_other" 1089 "_law_error" 1090 "_law_found" 1091 "_law_e" 1092
def YB:=t0 "_law_names" 57 "law_oddbases_k52_moved_refused" 975 688
def YC (x:Params):Obj:=(@Obj.mk (.type "code") none (@Data.fields (List.toArray [(p_ "_law_names" 1078),(p_ "_law_names" 1079),(p_ "/claim/cut.py" 1080),(j_ 344 0),(j_ 1 0),(j_ 0 0),(j_ 0 0),(j_ 3 0),(r_ 685),(.bool @Bool.true),(j_ 181 0),(r_ 686),.none,.none,.none,(r_ 687),(j_ 1081 0),(j_ 344 0),(p_ "/claim/cut.py" 1082)])) #[])
def Vh:=t2 "_law_names" 57
def YE:=t0 "_law_spoilt" 56 "law_oddbases_k52_moved_refused" 975 683
def YF:=t1 "_law_spoilt" 1066 "_law_spoilt" 1067 1068 336 4 678 679 680 681 682 1075 1076
def Vj:=t2 "_law_spoilt" 56
def YG:=t5 "_law_name" 1069 "_law_number" 1070 "_law_row" 1071 "_law_cell" 1072 "_law_at" 1073 "_law_beyond" 1074
def YH:=t0 "_law_row_by" 55 "law_oddbases_k52_moved_refused" 975 676
def YI:=t1 "_law_row_by" 1054 "_law_row_by" 1055 1056 325 3 671 672 673 674 675 1063 1064
def Vk:=t2 "_law_row_by" 55
def YJ:=t5 "_law_name" 1057 "_law_number" 1058 "_law_cells" 1059 "_law_row" 1060 "_law_place" 1061 "_law_low_here" 1062
def YK:=t0 "_law_pair_of" 54 "law_oddbases_k52_moved_refused" 975 669
def YL:=t1 "_law_pair_of" 1040 "_law_pair_of" 1041 1042 315 3 664 665 666 667 668 1051 1052
def Vl:=t2 "_law_pair_of" 54
def YM (x:Params):Obj:=(@Obj.mk (.type "tuple") none (@Data.seq (List.toArray [(p_ "_law_name" 1043),(p_ "_law_number" 1044),(p_ "_law_row" 1045),(p_ "_law_found" 1046),(p_ "_law_here" 1047),(p_ "_law_lower" 1048),(p_ "_law_place" 1049),(p_ "_law_after" 1050)]) 0) #[])
def YN:=t0 "_law_next" 53 "law_oddbases_k52_moved_refused" 975 662
def YO:=t1 "_law_next" 1029 "_law_next" 1030 1031 303 5 657 658 659 660 661 1037 1038
def Vm:=t2 "_law_next" 53
def YQ:=t6 "_law_name" 1032 "_law_number" 1033 "_law_place" 1034 "_law_here" 1035 "_law_lower" 1036
def YR:=t0 "_law_is_writing" 52 "law_oddbases_k52_moved_refused" 975 655
def YS:=t1 "_law_is_writing" 1019 "_law_is_writing" 1020 1021 292 3 650 651 652 653 654 1026 1027
def Vn:=t2 "_law_is_writing" 52
def YT:=t7 "_law_name" 1022 "_law_number" 1023 "_law_row" 1024 "_law_place" 1025
def YU:=t0 "_law_high" 51 "law_oddbases_k52_moved_refused" 975 648
def YV:=t1 "_law_high" 1010 "_law_high" 1011 1012 284 3 643 644 645 646 647 1016 1017
def Vo:=t2 "_law_high" 51
def YW:=t8 "_law_name" 1013 "_law_number" 1014 "_law_place" 1015
def YX:=t0 "_law_low" 50 "law_oddbases_k52_moved_refused" 975 641
def YY:=t1 "_law_low" 1002 "_law_low" 1003 1004 280 2 636 637 638 639 640 1007 1008
def Vp:=t2 "_law_low" 50
def YZ:=t9 "_law_name" 1005 "_law_number" 1006
def Y_:=t0 "_law_way" 49 "law_oddbases_k52_moved_refused" 975 634
def Xa:=t1 "_law_way" 994 "_law_way" 995 996 268 2 629 630 631 632 633 999 1000
def Vq:=t2 "_law_way" 49
def Xb:=t9 "_law_name" 997 "_law_number" 998
def Xc:=t0 "_law_chosen" 48 "law_oddbases_k52_moved_refused" 975 627
def Xd:=t1 "_law_chosen" 985 "_law_chosen" 986 987 260 1 622 623 624 625 626 991 992
def Vr:=t2 "_law_chosen" 48
def Xe:=t8 "_law_cell" 988 "_law_name" 989 "_law_part" 990
def Xf:=t0 "_law_cell_at" 47 "law_oddbases_k52_moved_refused" 975 620
def Xg:=t1 "_law_cell_at" 977 "_law_cell_at" 978 979 256 2 615 616 617 618 619 982 983
def Vs:=t2 "_law_cell_at" 47
def Xh:=t9 "_law_script" 980 "_law_k" 981
def Xi:=t0 "moved" 45 "oddbases.moving" 956 613
def Xj:=t1 "moved" 966 "moved" 967 968 252 3 608 609 610 611 612 972 973
def Vu:=t2 "moved" 45
def Xk:=t8 "way" 969 "row" 970 "other" 971
def Xl:=t0 "as_wanted" 44 "oddbases.moving" 956 606
def Xm:=t1 "as_wanted" 958 "as_wanted" 959 960 246 2 601 602 603 604 605 963 964
def Vv:=t2 "as_wanted" 44
def Xn:=t9 "way" 961 "number" 962
def Xo:=t0 "written" 42 "oddbases.writings" 888 599
def Xp:=t1 "written" 948 "written" 949 950 239 2 594 595 596 597 598 953 954
def Vx:=t2 "written" 42
def Xq:=t9 "way" 951 "number" 952
def Xr:=t0 "written_by_weights" 41 "oddbases.writings" 888 592
def Xs:=t1 "written_by_weights" 937 "written_by_weights" 938 939 231 2 587 588 589 590 591 945 946
def Vy:=t2 "written_by_weights" 41
def Xu:=t6 "way" 940 "number" 941 "figures" 942 "rest" 943 "weight" 944
def Xv:=t0 "worth" 40 "oddbases.writings" 888 585
def Xw:=t1 "worth" 926 "worth" 927 928 226 2 580 581 582 583 584 934 935
def Vz:=t2 "worth" 40
def Xx:=t6 "way" 929 "row" 930 "number" 931 "thing" 932 "weight" 933
def Xy:=t0 "held_to_be_writings" 39 "oddbases.writings" 888 578
def Xz:=t1 "held_to_be_writings" 917 "held_to_be_writings" 918 919 222 2 573 574 575 576 577 923 924
def VA:=t2 "held_to_be_writings" 39
def bw:=t8 "way" 920 "rows" 921 "row" 922
def bx:=t0 "is_writing" 38 "oddbases.writings" 888 571
def bz:=t1 "is_writing" 909 "is_writing" 910 911 216 2 566 567 568 569 570 914 915
def XA:=t2 "is_writing" 38
def bA:=t9 "way" 912 "row" 913
def bB:=t0 "has_mosts_above_noughts_alone" 37 "oddbases.writings" 888 564
def bC:=t1 "has_mosts_above_noughts_alone" 900 "has_mosts_above_noughts_alone" 901 902 211 2 559 560 561 562 563 906 907
def XB:=t2 "has_mosts_above_noughts_alone" 37
def bD:=t8 "way" 903 "row" 904 "place" 905
def bE:=t0 "has_figures_alone" 36 "oddbases.writings" 888 557
def bF:=t1 "has_figures_alone" 890 "has_figures_alone" 891 892 206 2 552 553 554 555 556 897 898
def XC:=t2 "has_figures_alone" 36
def bG:=t7 "way" 893 "row" 894 "place" 895 "thing" 896
def bH:=t0 "settled" 34 "oddbases.settling" 865 550
def bI:=t1 "settled" 880 "settled" 881 882 203 2 545 546 547 548 549 885 886
def XD:=t2 "settled" 34
def bJ:=t9 "way" 883 "totals" 884
def bK:=t0 "figures_and_carries" 33 "oddbases.settling" 865 543
def bL:=t1 "figures_and_carries" 867 "figures_and_carries" 868 869 188 2 538 539 540 541 542 877 878
def XE:=t2 "figures_and_carries" 33
def bM:=t10 "way" 870 "totals" 871 "figures" 872 "carry" 873 "found" 874 "place" 875 "parts" 876
def bN:=t0 "trimmed" 31 "oddbases.rows" 847 536
def bO:=t1 "trimmed" 857 "trimmed" 858 859 182 1 531 532 533 534 535 862 863
def XF:=t2 "trimmed" 31
def bP:=t9 "row" 860 "things" 861
def bQ:=t0 "thing_at" 30 "oddbases.rows" 847 529
def bR:=t1 "thing_at" 849 "thing_at" 850 851 178 2 524 525 526 527 528 854 855
def XG:=t2 "thing_at" 30
def bS:=t9 "row" 852 "place" 853
def XH:=t11 521
def XI:=t12 521
def bT:=t13 "Pairs" 521 520 470 778 786
def bU (x:Params):Obj:=(@Obj.mk (.type "dict") none (@Data.dict (List.toArray [(e_ x "__module__" 785 (p_ "oddbases.ways" 442)),(e_ x "__firstlineno__" 789 (j_ 154 788)),(e_ x "__init__" 797 (r_ 483)),(e_ x "nought" 804 (r_ 490)),(e_ x "high" 812 (r_ 497)),(e_ x "ratio" 820 (r_ 504)),(e_ x "split" 833 (r_ 511)),(e_ x "has" 841 (r_ 518)),(e_ x "__static_attributes__" 843 (r_ 519)),(e_ x "__doc__" 844 .none)]) 2) #[])
def bV:=t14 "most" 842
def bW:=t15 "has" "Pairs.has" 28 5 517
def bX:=t1 "has" 834 "Pairs.has" 835 836 175 2 512 513 514 515 516 839 840
def XJ:=t16 "has" "Pairs.has" 28 5
def bY:=t9 "self" 837 "number" 838
def bZ:=t15 "split" "Pairs.split" 28 4 510
def fP:=t1 "split" 821 "Pairs.split" 822 823 168 3 505 506 507 508 509 831 832
def b_:=t16 "split" "Pairs.split" 28 4
def fQ:=t10 "self" 824 "total" 825 "place" 826 "pair" 827 "figures" 828 "figure" 829 "turned" 830
def fR:=t15 "ratio" "Pairs.ratio" 28 3 503
def fS:=t1 "ratio" 813 "Pairs.ratio" 814 815 165 2 498 499 500 501 502 818 819
def aa:=t16 "ratio" "Pairs.ratio" 28 3
def fU:=t9 "self" 816 "place" 817
def fV:=t15 "high" "Pairs.high" 28 2 496
def fW:=t1 "high" 805 "Pairs.high" 806 807 162 2 491 492 493 494 495 810 811
def ac:=t16 "high" "Pairs.high" 28 2
def fX:=t9 "self" 808 "place" 809
def fY:=t15 "nought" "Pairs.nought" 28 1 489
def fZ:=t1 "nought" 798 "Pairs.nought" 799 800 159 1 484 485 486 487 488 802 803
def ad:=t16 "nought" "Pairs.nought" 28 1
def f_:=t14 "self" 801
def eh:=t15 "__init__" "Pairs.__init__" 28 0 482
def eo:=t1 "__init__" 790 "Pairs.__init__" 791 792 156 2 477 478 479 480 481 795 796
def ae:=t16 "__init__" "Pairs.__init__" 28 0
def eA:=t9 "self" 793 "most" 794
def af:=t17 475 472 "oddbases.ways" 442
def ag:=t18 "Pairs" 780 781 782 154 473 474 783 784
def ah:=t19 156 4 482 159 489 162 496 165 503 168 510 175 517
def XM:=t20 785 787 "Pairs" 786 789 154 788 "__init__" 797 483 "nought" 804 490 "high" 812 497 "ratio" 820 504 833 511 841 518 843 519
def zh:=t21
def z4:=t22 265
def XN:=t11 467
def XO:=t12 467
def aj:=t13 "Falling" 467 466 423 715 723
def ak:=t23 722 726 130 725 734 436 "high" 742 443 "weights" 755 450 763 457 "split" 772 464 774 465 775
def al:=t14 "most" 773
def ao:=t15 "split" "Falling.split" 27 4 463
def ap:=t1 "split" 764 "Falling.split" 765 766 152 3 458 459 460 461 462 770 771
def XQ:=t16 "split" "Falling.split" 27 4
def aq:=t8 "self" 767 "total" 768 "place" 769
def eB:=t15 "ratio" "Falling.ratio" 27 3 456
def eD:=t1 "ratio" 756 "Falling.ratio" 757 758 149 2 451 452 453 454 455 761 762
def au:=t16 "ratio" "Falling.ratio" 27 3
def eE:=t9 "self" 759 "place" 760
def eG:=t15 "weights" "Falling.weights" 27 2 449
def eI:=t1 "weights" 743 "Falling.weights" 744 745 138 2 444 445 446 447 448 753 754
def av:=t16 "weights" "Falling.weights" 27 2
def iI:=t10 "self" 746 "many" 747 "weights" 748 "ahead" 749 "weight" 750 "place" 751 "following" 752
def iJ:=t15 "high" "Falling.high" 27 1 442
def iK:=t1 "high" 735 "Falling.high" 736 737 135 2 437 438 439 440 441 740 741
def eJ:=t16 "high" "Falling.high" 27 1
def iL:=t9 "self" 738 "place" 739
def iM:=t15 "__init__" "Falling.__init__" 27 0 435
def iN:=t1 "__init__" 727 "Falling.__init__" 728 729 132 2 430 431 432 433 434 732 733
def eK:=t16 "__init__" "Falling.__init__" 27 0
def iO:=t9 "self" 730 "most" 731
def eL:=t17 428 425 "oddbases.ways" 442
def eM:=t18 "Falling" 717 718 719 130 426 427 720 721
def eN:=t24 132 435 135 442 138 449 149 456 152 463
def eO:=t25 722 724 "Falling" 723 726 130 725 734 436 "high" 742 443 "weights" 755 450 763 457 "split" 772 464 774 465
def eP:=t11 420
def eQ:=t12 420
def iP:=t13 "Growing" 420 419 390 674 682
def iQ:=t26 681 685 120 684 693 403 701 410 709 417 711 418 712
def iR:=t14 "first" 710
def iS:=t15 "ratio" "Growing.ratio" 26 2 416
def iT:=t1 "ratio" 702 "Growing.ratio" 703 704 128 2 411 412 413 414 415 707 708
def eS:=t16 "ratio" "Growing.ratio" 26 2
def iU:=t9 "self" 705 "place" 706
def iV:=t15 "high" "Growing.high" 26 1 409
def iW:=t1 "high" 694 "Growing.high" 695 696 125 2 404 405 406 407 408 699 700
def eT:=t16 "high" "Growing.high" 26 1
def iX:=t9 "self" 697 "place" 698
def iY:=t15 "__init__" "Growing.__init__" 26 0 402
def iZ:=t1 "__init__" 686 "Growing.__init__" 687 688 122 2 397 398 399 400 401 691 692
def eU:=t16 "__init__" "Growing.__init__" 26 0
def i0:=t9 "self" 689 "first" 690
def eV:=t17 395 392 "oddbases.ways" 442
def eW:=t18 "Growing" 676 677 678 120 393 394 679 680
def eX:=t27 122 402 125 409 128 416
def eY:=t28 681 683 "Growing" 682 685 120 684 693 403 701 410 709 417 711 418
def eZ:=t11 387
def e7:=t12 387
def i6:=t13 "Balanced" 387 386 343 617 625
def i7:=t23 624 628 104 627 636 356 "low" 644 363 "high" 652 370 660 377 "has" 668 384 670 385 671
def i8:=t14 "half" 669
def i9:=t15 "has" "Balanced.has" 25 4 383
def i_:=t1 "has" 661 "Balanced.has" 662 663 118 2 378 379 380 381 382 666 667
def hG:=t16 "has" "Balanced.has" 25 4
def lP:=t9 "self" 664 "number" 665
def lQ:=t15 "ratio" "Balanced.ratio" 25 3 376
def lR:=t1 "ratio" 653 "Balanced.ratio" 654 655 115 2 371 372 373 374 375 658 659
def hU:=t16 "ratio" "Balanced.ratio" 25 3
def lS:=t9 "self" 656 "place" 657
def lT:=t15 "high" "Balanced.high" 25 2 369
def lU:=t1 "high" 645 "Balanced.high" 646 647 112 2 364 365 366 367 368 650 651
def hV:=t16 "high" "Balanced.high" 25 2
def lV:=t9 "self" 648 "place" 649
def lW:=t15 "low" "Balanced.low" 25 1 362
def lX:=t1 "low" 637 "Balanced.low" 638 639 109 2 357 358 359 360 361 642 643
def hW:=t16 "low" "Balanced.low" 25 1
def lY:=t9 "self" 640 "place" 641
def lZ:=t15 "__init__" "Balanced.__init__" 25 0 355
def l4:=t1 "__init__" 629 "Balanced.__init__" 630 631 106 2 350 351 352 353 354 634 635
def hZ:=t16 "__init__" "Balanced.__init__" 25 0
def l5:=t9 "self" 632 "half" 633
def h8:=t17 348 345 "oddbases.ways" 442
def h_:=t18 "Balanced" 619 620 621 104 346 347 622 623
def gb:=t24 106 355 109 362 112 369 115 376 118 383
def gc:=t25 624 626 "Balanced" 625 628 104 627 636 356 "low" 644 363 "high" 652 370 660 377 "has" 668 384 670 385
def e8:=t11 340
def e9:=t12 340
def gd:=t13 "Below" 340 339 303 568 576
def ge (x:Params):Obj:=(@Obj.mk (.type "dict") none (@Data.dict (List.toArray [(e_ x "__module__" 575 (p_ "oddbases.ways" 442)),(e_ x "__firstlineno__" 579 (j_ 91 578)),(e_ x "__init__" 587 (r_ 316)),(e_ x "high" 595 (r_ 323)),(e_ x "ratio" 603 (r_ 330)),(e_ x "has" 611 (r_ 337)),(e_ x "__static_attributes__" 613 (r_ 338)),(e_ x "__doc__" 614 .none)]) 2) #[])
def gf:=t14 "base" 612
def gg:=t15 "has" "Below.has" 24 3 336
def gh:=t1 "has" 604 "Below.has" 605 606 102 2 331 332 333 334 335 609 610
def db:=t16 "has" "Below.has" 24 3
def gi:=t9 "self" 607 "number" 608
def l6:=t15 "ratio" "Below.ratio" 24 2 329
def nN:=t1 "ratio" 596 "Below.ratio" 597 598 99 2 324 325 326 327 328 601 602
def gj:=t16 "ratio" "Below.ratio" 24 2
def l7:=t9 "self" 599 "place" 600
def l8:=t15 "high" "Below.high" 24 1 322
def l9:=t1 "high" 588 "Below.high" 589 590 96 2 317 318 319 320 321 593 594
def gk:=t16 "high" "Below.high" 24 1
def nO:=t9 "self" 591 "place" 592
def nP:=t15 "__init__" "Below.__init__" 24 0 315
def nQ:=t1 "__init__" 580 "Below.__init__" 581 582 93 2 310 311 312 313 314 585 586
def l_:=t16 "__init__" "Below.__init__" 24 0
def nR:=t9 "self" 583 "base" 584
def ka:=t17 308 305 "oddbases.ways" 442
def kb:=t18 "Below" 570 571 572 91 306 307 573 574
def kd (x:Params):Obj:=(@Obj.mk .none none (@Data.fields (List.toArray [(j_ 93 0),(j_ 4 0),(r_ 315),(j_ 96 0),(j_ 4 0),(r_ 322),(j_ 99 0),(j_ 4 0),(r_ 329),(j_ 102 0),(j_ 4 0),(r_ 336)])) #[])
def kf (x:Params):Obj:=(@Obj.mk (.type "dict") none (@Data.dict (List.toArray [(e_ x "__module__" 575 (p_ "oddbases.ways" 442)),(e_ x "__qualname__" 577 (p_ "Below" 576)),(e_ x "__firstlineno__" 579 (j_ 91 578)),(e_ x "__init__" 587 (r_ 316)),(e_ x "high" 595 (r_ 323)),(e_ x "ratio" 603 (r_ 330)),(e_ x "has" 611 (r_ 337)),(e_ x "__static_attributes__" 613 (r_ 338))]) 8) #[])
def kg:=t11 300
def kh:=t12 300
def nS:=t13 "Plain" 300 299 270 527 535
def nU:=t26 534 538 81 537 546 283 554 290 562 297 564 298 565
def nV:=t14 "base" 563
def nW:=t15 "ratio" "Plain.ratio" 23 2 296
def nX:=t1 "ratio" 555 "Plain.ratio" 556 557 89 2 291 292 293 294 295 560 561
def ki:=t16 "ratio" "Plain.ratio" 23 2
def nY:=t9 "self" 558 "place" 559
def nZ:=t15 "high" "Plain.high" 23 1 289
def n0:=t1 "high" 547 "Plain.high" 548 549 86 2 284 285 286 287 288 552 553
def kj:=t16 "high" "Plain.high" 23 1
def n4:=t9 "self" 550 "place" 551
def n5:=t15 "__init__" "Plain.__init__" 23 0 282
def n6:=t1 "__init__" 539 "Plain.__init__" 540 541 83 2 277 278 279 280 281 544 545
def kl:=t16 "__init__" "Plain.__init__" 23 0
def n8:=t9 "self" 542 "base" 543
def km:=t17 275 272 "oddbases.ways" 442
def kn:=t18 "Plain" 529 530 531 81 273 274 532 533
def ko:=t27 83 282 86 289 89 296
def kq:=t28 534 536 "Plain" 535 538 81 537 546 283 554 290 562 297 564 298
def kr:=t11 265
def ku:=t12 265
def n9:=t29 522 265
def n_ (x:Params):Obj:=(@Obj.mk (.type "getset_descriptor") none (@Data.fields (List.toArray [(p_ "__dict__" 520),(r_ 265),(.builtin "function.__dict__"),(.builtin "function.__dict__#set")])) #[])
def ai (x:Params):Obj:=(@Obj.mk (.type "type") none (@Data.cls (@ClassData.mk (.ofString "Way") [(.type "object")] [(r_ 265),(.type "object")] 264 (.ofString "Way") @Bool.true [] [(r_ 300),(r_ 340),(r_ 387),(r_ 420),(r_ 467),(r_ 521)] @Bool.false (@Option.none @Bool) @Bool.false)) (@List.toArray (@Option @Value) [none,none,(some (p_ "Way" 453)),(some (p_ "Way" 461)),(some (.builtin "object.__new__")),(some (.bool @Bool.true))]))
def ma (x:Params):Obj:=(@Obj.mk (.type "dict") none (@Data.dict (List.toArray [(e_ x "__module__" 460 (p_ "oddbases.ways" 442)),(e_ x "__firstlineno__" 464 (j_ 54 463)),(e_ x "nought" 471 (r_ 227)),(e_ x "low" 479 (r_ 234)),(e_ x "weights" 490 (r_ 241)),(e_ x "weight" 498 (r_ 248)),(e_ x "split" 510 (r_ 255)),(e_ x "has" 518 (r_ 262)),(e_ x "__static_attributes__" 519 (r_ 263)),(e_ x "__dict__" 521 (r_ 266)),(e_ x "__weakref__" 523 (r_ 267)),(e_ x "__doc__" 524 .none)]) 4) #[])
def md:=t15 "has" "Way.has" 22 5 261
def mf:=t1 "has" 511 "Way.has" 512 513 79 2 256 257 258 259 260 516 517
def kv:=t16 "has" "Way.has" 22 5
def mh:=t9 "self" 514 "number" 515
def mi:=t15 "split" "Way.split" 22 4 254
def qv:=t1 "split" 499 "Way.split" 500 501 73 3 249 250 251 252 253 508 509
def oy:=t16 "split" "Way.split" 22 4
def qw:=t5 "self" 502 "total" 503 "place" 504 "low" 505 "figures" 506 "figure" 507
def qx:=t15 "weight" "Way.weight" 22 3 247
def qy:=t1 "weight" 491 "Way.weight" 492 493 70 2 242 243 244 245 246 496 497
def oz:=t16 "weight" "Way.weight" 22 3
def qz:=t9 "self" 494 "place" 495
def qA:=t15 "weights" "Way.weights" 22 2 240
def qB:=t1 "weights" 480 "Way.weights" 481 482 62 2 235 236 237 238 239 488 489
def oA:=t16 "weights" "Way.weights" 22 2
def oB:=t6 "self" 483 "many" 484 "weights" 485 "weight" 486 "place" 487
def oC:=t15 "low" "Way.low" 22 1 233
def oE:=t1 "low" 472 "Way.low" 473 474 59 2 228 229 230 231 232 477 478
def mj:=t16 "low" "Way.low" 22 1
def oF:=t9 "self" 475 "place" 476
def oG:=t15 "nought" "Way.nought" 22 0 226
def oH:=t1 "nought" 465 "Way.nought" 466 467 56 1 221 222 223 224 225 469 470
def ml:=t16 "nought" "Way.nought" 22 0
def oI:=t14 "self" 468
def mm:=t17 219 216 "oddbases.ways" 442
def mn:=t18 "Way" 455 456 457 54 217 218 458 459
def mo:=t19 56 4 226 59 233 62 240 70 247 73 254 79 261
def kx:=t20 460 462 "Way" 461 464 54 463 "nought" 471 227 "low" 479 234 "weights" 490 241 "weight" 498 248 510 255 518 262 519 263
def oJ:=t0 "bounded" 21 "oddbases.ways" 442 212
def oK:=t1 "bounded" 444 "bounded" 445 446 50 3 207 208 209 210 211 450 451
def mq:=t2 "bounded" 21
def oM:=t8 "number" 447 "least" 448 "most" 449
def mr:=t11 204
def ky:=t12 204
def mt:=t30 "NoRow" 204 203 195 426 434
def oN:=t31 433 437 47 436 438 202 439
def qC:=t17 200 197 "oddbases.errors" 230
def mv:=t18 "NoRow" 428 429 430 47 198 199 431 432
def mw:=t32 433 435 "NoRow" 434 437 47 436 438 202
def zm:=t22 59
def mx:=t11 192
def mz:=t12 192
def oO:=t30 "NoText" 192 191 183 410 418
def qD:=t31 417 421 45 420 422 190 423
def qE:=t17 188 185 "oddbases.errors" 230
def qF:=t18 "NoText" 412 413 414 45 186 187 415 416
def qG:=t32 417 419 "NoText" 418 421 45 420 422 190
def qH:=t11 180
def s8:=t12 180
def tV:=t30 "NoTotal" 180 179 171 394 402
def tW:=t31 401 405 43 404 406 178 407
def s9:=t17 176 173 "oddbases.errors" 230
def s_:=t18 "NoTotal" 396 397 398 43 174 175 399 400
def qI:=t32 401 403 "NoTotal" 402 405 43 404 406 178
def qJ:=t11 168
def qK:=t12 168
def ra:=t30 "NoSpan" 168 167 159 378 386
def rb:=t31 385 389 41 388 390 166 391
def qL:=t17 164 161 "oddbases.errors" 230
def qM:=t18 "NoSpan" 380 381 382 41 162 163 383 384
def qN:=t32 385 387 "NoSpan" 386 389 41 388 390 166
def qO:=t11 156
def qP:=t12 156
def rc:=t30 "Nought" 156 155 147 362 370
def qQ:=t31 369 373 39 372 374 154 375
def qR:=t17 152 149 "oddbases.errors" 230
def qS:=t18 "Nought" 364 365 366 39 150 151 367 368
def rd:=t32 369 371 "Nought" 370 373 39 372 374 154
def rg:=t11 144
def rh:=t12 144
def tX:=t30 "NoPairs" 144 143 135 346 354
def tY:=t31 353 357 37 356 358 142 359
def qT:=t17 140 137 "oddbases.errors" 230
def qU:=t18 "NoPairs" 348 349 350 37 138 139 351 352
def tZ:=t32 353 355 "NoPairs" 354 357 37 356 358 142
def qV:=t11 132
def qW:=t12 132
def rj:=t30 "NoFalling" 132 131 123 330 338
def rk:=t31 337 341 35 340 342 130 343
def qX:=t17 128 125 "oddbases.errors" 230
def qY:=t18 "NoFalling" 332 333 334 35 126 127 335 336
def vS:=t32 337 339 "NoFalling" 338 341 35 340 342 130
def vT:=t11 120
def vU:=t12 120
def vk:=t30 "NoRatio" 120 119 111 314 322
def vm:=t31 321 325 33 324 326 118 327
def vn:=t17 116 113 "oddbases.errors" 230
def vo:=t18 "NoRatio" 316 317 318 33 114 115 319 320
def vp:=t32 321 323 "NoRatio" 322 325 33 324 326 118
def vV:=t11 108
def vW:=t12 108
def vX:=t30 "TooLess" 108 107 99 298 306
def uQ:=t31 305 309 31 308 310 106 311
def uR:=t17 104 101 "oddbases.errors" 230
def uS:=t18 "TooLess" 300 301 302 31 102 103 303 304
def uT:=t32 305 307 "TooLess" 306 309 31 308 310 106
def uU:=t11 96
def uV:=t12 96
def vY:=t30 "NoWriting" 96 95 87 282 290
def vZ:=t31 289 293 29 292 294 94 295
def v9:=t17 92 89 "oddbases.errors" 230
def ua:=t18 "NoWriting" 284 285 286 29 90 91 287 288
def ub:=t32 289 291 "NoWriting" 290 293 29 292 294 94
def uc:=t11 84
def vq:=t12 84
def w8:=t30 "NoNumber" 84 83 75 266 274
def w9:=t31 273 277 27 276 278 82 279
def vt:=t17 80 77 "oddbases.errors" 230
def vv:=t18 "NoNumber" 268 269 270 27 78 79 271 272
def ud:=t32 273 275 "NoNumber" 274 277 27 276 278 82
def vw:=t11 72
def wy:=t12 72
def w_:=t30 "NoWay" 72 71 63 250 258
def va:=t31 257 261 25 260 262 70 263
def vx:=t17 68 65 "oddbases.errors" 230
def vy:=t18 "NoWay" 252 253 254 25 66 67 255 256
def vz:=t32 257 259 "NoWay" 258 261 25 260 262 70
def o98:=t11 59
def o97:=t12 59
def o96:=t29 245 59
def uP (x:Params):Obj:=(@Obj.mk (.type "type") none (@Data.cls (@ClassData.mk (.ofString "OddError") [(.type "ValueError")] [(r_ 59),(.type "ValueError"),(.type "Exception"),(.type "BaseException"),(.type "object")] 58 (.ofString "OddError") @Bool.true [] [(r_ 72),(r_ 84),(r_ 96),(r_ 108),(r_ 120),(r_ 132),(r_ 144),(r_ 156),(r_ 168),(r_ 180),(r_ 192),(r_ 204)] @Bool.false (@Option.none @Bool) @Bool.false)) (@List.toArray (@Option @Value) [(some (r_ 50)),none,(some (p_ "OddError" 232)),(some (p_ "OddError" 240)),(some (.builtin "ValueError.__new__")),(some (.bool @Bool.true))]))
def o94 (x:Params):Obj:=(@Obj.mk (.type "dict") none (@Data.dict (List.toArray [(e_ x "__module__" 239 (p_ "oddbases.errors" 230)),(e_ x "__firstlineno__" 243 (j_ 23 242)),(e_ x "__static_attributes__" 244 (r_ 57)),(e_ x "__weakref__" 246 (r_ 60)),(e_ x "__doc__" 247 .none)]) 3) #[])
def o92:=t17 55 52 "oddbases.errors" 230
def o91:=t18 "OddError" 234 235 236 23 53 54 237 238
def o88:=t32 239 241 "OddError" 240 243 23 242 244 57
def o86 (x:Params):Obj:=(@Obj.mk (.type "tuple") none (@Data.seq (List.toArray [(.type "ValueError")]) 0) #[])
def o85:=t0 "multiplied" 5 "oddbases.pairs" 187 48
def o84:=t1 "multiplied" 220 "multiplied" 221 222 16 2 43 44 45 46 47 227 228
def o83:=t2 "multiplied" 5
def o81:=t7 "one" 223 "other" 224 "left" 225 "right" 226
def o78:=t0 "added" 4 "oddbases.pairs" 187 41
def o77:=t1 "added" 210 "added" 211 212 10 2 36 37 38 39 40 217 218
def o76:=t2 "added" 4
def o74:=t7 "one" 213 "other" 214 "left" 215 "right" 216
def o71:=t0 "as_pair" 3 "oddbases.pairs" 187 34
def o70:=t1 "as_pair" 203 "as_pair" 204 205 6 1 29 30 31 32 33 207 208
def o69:=t2 "as_pair" 3
def o67:=t14 "number" 206
def o64:=t0 "is_pair" 2 "oddbases.pairs" 187 27
def o63:=t1 "is_pair" 196 "is_pair" 197 198 4 1 22 23 24 25 26 200 201
def o62:=t2 "is_pair" 2
def o60:=t14 "value" 199
def o57:=t0 "is_whole" 1 "oddbases.pairs" 187 20
def o56:=t1 "is_whole" 189 "is_whole" 190 191 2 1 15 16 17 18 19 193 194
def o55:=t2 "is_whole" 1
def o53:=t14 "value" 192
def o46:=t17 13 3 "__main__" 164
def o45:=t18 "<module>" 182 183 184 1 11 12 185 186
def Vi (x:Params):Obj:=(@Obj.mk .none none (@Data.fields (List.toArray ((j_ 2 0) :: (j_ 0 0) :: (r_ 20) :: (j_ 4 0) :: (j_ 0 0) :: (r_ 27) :: (j_ 6 0) :: (j_ 0 0) :: (r_ 34) :: (j_ 10 0) :: (j_ 0 0) :: (r_ 41) :: (j_ 16 0) :: (j_ 0 0) :: (r_ 48) :: (j_ 23 0) :: (j_ 0 0) :: (r_ 55) :: (j_ 25 0) :: (j_ 0 0) :: (r_ 68) :: (j_ 27 0) :: (j_ 0 0) :: (r_ 80) :: (j_ 29 0) :: (j_ 0 0) :: (r_ 92) :: (j_ 31 0) :: (j_ 0 0) :: (r_ 104) :: (j_ 33 0) :: (j_ 0 0) :: (r_ 116) :: (j_ 35 0) :: (j_ 0 0) :: (r_ 128) :: (j_ 37 0) :: (j_ 0 0) :: (r_ 140) :: (j_ 39 0) :: (j_ 0 0) :: (r_ 152) :: (j_ 41 0) :: (j_ 0 0) :: (r_ 164) :: (j_ 43 0) :: (j_ 0 0) :: (r_ 176) :: (j_ 45 0) :: (j_ 0 0) :: (r_ 188) :: (j_ 47 0) :: (j_ 0 0) :: (r_ 200) :: (j_ 50 0) :: (j_ 0 0) :: (r_ 212) :: (j_ 54 0) :: (j_ 0 0) :: (r_ 219) :: (j_ 81 0) :: (j_ 0 0) :: (r_ 275) :: (j_ 91 0) :: (j_ 0 0) :: (r_ 308) :: (j_ 104 0) :: (j_ 0 0) :: (r_ 348) :: (j_ 120 0) :: (j_ 0 0) :: (r_ 395) :: (j_ 130 0) :: (j_ 0 0) :: (r_ 428) :: (j_ 154 0) :: (j_ 0 0) :: (r_ 475) :: (j_ 178 0) :: (j_ 0 0) :: (r_ 529) :: (j_ 182 0) :: (j_ 0 0) :: (r_ 536) :: (j_ 188 0) :: (j_ 0 0) :: (r_ 543) :: (j_ 203 0) :: (j_ 0 0) :: (r_ 550) :: (j_ 206 0) :: (j_ 0 0) :: (r_ 557) :: (j_ 211 0) :: (j_ 0 0) :: (r_ 564) :: (j_ 216 0) :: (j_ 0 0) :: (r_ 571) :: (j_ 222 0) :: (j_ 0 0) :: (r_ 578) :: (j_ 226 0) :: (j_ 0 0) :: (r_ 585) :: (j_ 231 0) :: (j_ 0 0) :: (r_ 592) :: (j_ 239 0) :: (j_ 0 0) :: (r_ 599) :: (j_ 246 0) :: (j_ 0 0) :: (r_ 606) :: (j_ 252 0) :: (j_ 0 0) :: (r_ 613) :: (j_ 256 0) :: (j_ 0 0) :: (r_ 620) :: (j_ 260 0) :: (j_ 0 0) :: (r_ 627) :: (j_ 268 0) :: (j_ 0 0) :: (r_ 634) :: (j_ 280 0) :: (j_ 0 0) :: (r_ 641) :: (j_ 284 0) :: (j_ 0 0) :: (r_ 648) :: (j_ 292 0) :: (j_ 0 0) :: (r_ 655) :: (j_ 303 0) :: (j_ 0 0) :: (r_ 662) :: (j_ 315 0) :: (j_ 0 0) :: (r_ 669) :: (j_ 325 0) :: (j_ 0 0) :: (r_ 676) :: (j_ 336 0) :: (j_ 0 0) :: (r_ 683) :: (j_ 344 0) :: (j_ 0 0) :: (r_ 688) :: (j_ 353 0) :: (j_ 0 0) :: (r_ 695) :: (j_ 363 0) :: (j_ 0 0) :: (r_ 702) :: []))) #[])
def YD (x:Params):Obj:=(@Obj.mk (.type "dict") none (@Data.dict (List.toArray ((U0 x) :: (U38 x) :: (U14 x) :: (U1 x) :: (U33 x) :: (U10 x) :: (U11 x) :: (U4 x) :: (U17 x) :: (U18 x) :: (U28 x) :: (U29 x) :: (U39 x) :: (U12 x) :: (U19 x) :: (U40 x) :: (U20 x) :: (U15 x) :: (U21 x) :: (U22 x) :: (U13 x) :: (U23 x) :: (U30 x) :: (U31 x) :: (U24 x) :: (U32 x) :: (U34 x) :: (U25 x) :: (U41 x) :: (U35 x) :: (U36 x) :: (U16 x) :: (U26 x) :: (U27 x) :: (U37 x) :: (e_ x "thing_at" 856 (r_ 530)) :: (e_ x "trimmed" 864 (r_ 537)) :: (U6 x) :: (e_ x "settled" 887 (r_ 551)) :: (U9 x) :: (U2 x) :: (e_ x "is_writing" 916 (r_ 572)) :: (U7 x) :: (e_ x "worth" 936 (r_ 586)) :: (U8 x) :: (e_ x "written" 955 (r_ 600)) :: (e_ x "as_wanted" 965 (r_ 607)) :: (e_ x "moved" 974 (r_ 614)) :: (e_ x "_law_cell_at" 984 (r_ 621)) :: (e_ x "_law_chosen" 993 (r_ 628)) :: (e_ x "_law_way" 1001 (r_ 635)) :: (e_ x "_law_low" 1009 (r_ 642)) :: (e_ x "_law_high" 1018 (r_ 649)) :: (e_ x "_law_is_writing" 1028 (r_ 656)) :: (e_ x "_law_next" 1039 (r_ 663)) :: (e_ x "_law_pair_of" 1053 (r_ 670)) :: (e_ x "_law_row_by" 1065 (r_ 677)) :: (e_ x "_law_spoilt" 1077 (r_ 684)) :: (e_ x "_law_names" 1083 (r_ 689)) :: (e_ x "_law_asked" 1095 (r_ 696)) :: (e_ x "law" 1114 (r_ 703)) :: [])) 61) #[])
def QI (x:Params):Obj:=(@Obj.mk .none none (@Data.fields (List.toArray ((j_ 2 0) :: (j_ 0 0) :: (r_ 20) :: (j_ 4 0) :: (j_ 0 0) :: (r_ 27) :: (j_ 6 0) :: (j_ 0 0) :: (r_ 34) :: (j_ 10 0) :: (j_ 0 0) :: (r_ 41) :: (j_ 16 0) :: (j_ 0 0) :: (r_ 48) :: (j_ 23 0) :: (j_ 0 0) :: (r_ 55) :: (j_ 25 0) :: (j_ 0 0) :: (r_ 68) :: (j_ 27 0) :: (j_ 0 0) :: (r_ 80) :: (j_ 29 0) :: (j_ 0 0) :: (r_ 92) :: (j_ 31 0) :: (j_ 0 0) :: (r_ 104) :: (j_ 33 0) :: (j_ 0 0) :: (r_ 116) :: (j_ 35 0) :: (j_ 0 0) :: (r_ 128) :: (j_ 37 0) :: (j_ 0 0) :: (r_ 140) :: (j_ 39 0) :: (j_ 0 0) :: (r_ 152) :: (j_ 41 0) :: (j_ 0 0) :: (r_ 164) :: (j_ 43 0) :: (j_ 0 0) :: (r_ 176) :: (j_ 45 0) :: (j_ 0 0) :: (r_ 188) :: (j_ 47 0) :: (j_ 0 0) :: (r_ 200) :: (j_ 50 0) :: (j_ 0 0) :: (r_ 212) :: (j_ 54 0) :: (j_ 0 0) :: (r_ 219) :: (j_ 81 0) :: (j_ 0 0) :: (r_ 275) :: (j_ 91 0) :: (j_ 0 0) :: (r_ 308) :: (j_ 104 0) :: (j_ 0 0) :: (r_ 348) :: (j_ 120 0) :: (j_ 0 0) :: (r_ 395) :: (j_ 130 0) :: (j_ 0 0) :: (r_ 428) :: (j_ 154 0) :: (j_ 0 0) :: (r_ 475) :: (j_ 178 0) :: (j_ 0 0) :: (r_ 529) :: (j_ 182 0) :: (j_ 0 0) :: (r_ 536) :: (j_ 188 0) :: (j_ 0 0) :: (r_ 543) :: (j_ 203 0) :: (j_ 0 0) :: (r_ 550) :: (j_ 206 0) :: (j_ 0 0) :: (r_ 557) :: (j_ 211 0) :: (j_ 0 0) :: (r_ 564) :: (j_ 216 0) :: (j_ 0 0) :: (r_ 571) :: (j_ 222 0) :: (j_ 0 0) :: (r_ 578) :: (j_ 226 0) :: (j_ 0 0) :: (r_ 585) :: (j_ 231 0) :: (j_ 0 0) :: (r_ 592) :: (j_ 239 0) :: (j_ 0 0) :: (r_ 599) :: (j_ 246 0) :: (j_ 0 0) :: (r_ 606) :: (j_ 252 0) :: (j_ 0 0) :: (r_ 613) :: (j_ 256 0) :: (j_ 0 0) :: (r_ 620) :: (j_ 260 0) :: (j_ 0 0) :: (r_ 627) :: (j_ 268 0) :: (j_ 0 0) :: (r_ 634) :: (j_ 280 0) :: (j_ 0 0) :: (r_ 641) :: (j_ 284 0) :: (j_ 0 0) :: (r_ 648) :: (j_ 292 0) :: (j_ 0 0) :: (r_ 655) :: (j_ 303 0) :: (j_ 0 0) :: (r_ 662) :: (j_ 315 0) :: (j_ 0 0) :: (r_ 669) :: (j_ 325 0) :: (j_ 0 0) :: (r_ 676) :: (j_ 336 0) :: (j_ 0 0) :: (r_ 683) :: []))) #[])
def QJ (x:Params):Obj:=(@Obj.mk (.type "dict") none (@Data.dict (List.toArray [(U0 x),(U38 x),(U14 x),(U1 x),(U33 x),(U10 x),(U11 x),(U4 x),(U17 x),(U18 x),(U28 x),(U29 x),(U39 x),(U12 x),(U19 x),(U40 x),(U20 x),(U15 x),(U21 x),(U22 x),(U13 x),(U23 x),(U30 x),(U31 x),(U24 x),(U32 x),(U34 x),(U25 x),(U41 x),(U35 x),(U36 x),(U16 x),(U26 x),(U27 x),(U37 x),(e_ x "thing_at" 856 (r_ 530)),(e_ x "trimmed" 864 (r_ 537)),(U6 x),(e_ x "settled" 887 (r_ 551)),(U9 x),(U2 x),(e_ x "is_writing" 916 (r_ 572)),(U7 x),(e_ x "worth" 936 (r_ 586)),(U8 x),(e_ x "written" 955 (r_ 600)),(e_ x "as_wanted" 965 (r_ 607)),(e_ x "moved" 974 (r_ 614)),(e_ x "_law_cell_at" 984 (r_ 621)),(e_ x "_law_chosen" 993 (r_ 628)),(e_ x "_law_way" 1001 (r_ 635)),(e_ x "_law_low" 1009 (r_ 642)),(e_ x "_law_high" 1018 (r_ 649)),(e_ x "_law_is_writing" 1028 (r_ 656)),(e_ x "_law_next" 1039 (r_ 663)),(e_ x "_law_pair_of" 1053 (r_ 670)),(e_ x "_law_row_by" 1065 (r_ 677)),(e_ x "_law_spoilt" 1077 (r_ 684))]) 58) #[])
def QK (x:Params):Obj:=(@Obj.mk .none none (@Data.fields (List.toArray ((j_ 2 0) :: (j_ 0 0) :: (r_ 20) :: (j_ 4 0) :: (j_ 0 0) :: (r_ 27) :: (j_ 6 0) :: (j_ 0 0) :: (r_ 34) :: (j_ 10 0) :: (j_ 0 0) :: (r_ 41) :: (j_ 16 0) :: (j_ 0 0) :: (r_ 48) :: (j_ 23 0) :: (j_ 0 0) :: (r_ 55) :: (j_ 25 0) :: (j_ 0 0) :: (r_ 68) :: (j_ 27 0) :: (j_ 0 0) :: (r_ 80) :: (j_ 29 0) :: (j_ 0 0) :: (r_ 92) :: (j_ 31 0) :: (j_ 0 0) :: (r_ 104) :: (j_ 33 0) :: (j_ 0 0) :: (r_ 116) :: (j_ 35 0) :: (j_ 0 0) :: (r_ 128) :: (j_ 37 0) :: (j_ 0 0) :: (r_ 140) :: (j_ 39 0) :: (j_ 0 0) :: (r_ 152) :: (j_ 41 0) :: (j_ 0 0) :: (r_ 164) :: (j_ 43 0) :: (j_ 0 0) :: (r_ 176) :: (j_ 45 0) :: (j_ 0 0) :: (r_ 188) :: (j_ 47 0) :: (j_ 0 0) :: (r_ 200) :: (j_ 50 0) :: (j_ 0 0) :: (r_ 212) :: (j_ 54 0) :: (j_ 0 0) :: (r_ 219) :: (j_ 81 0) :: (j_ 0 0) :: (r_ 275) :: (j_ 91 0) :: (j_ 0 0) :: (r_ 308) :: (j_ 104 0) :: (j_ 0 0) :: (r_ 348) :: (j_ 120 0) :: (j_ 0 0) :: (r_ 395) :: (j_ 130 0) :: (j_ 0 0) :: (r_ 428) :: (j_ 154 0) :: (j_ 0 0) :: (r_ 475) :: (j_ 178 0) :: (j_ 0 0) :: (r_ 529) :: (j_ 182 0) :: (j_ 0 0) :: (r_ 536) :: (j_ 188 0) :: (j_ 0 0) :: (r_ 543) :: (j_ 203 0) :: (j_ 0 0) :: (r_ 550) :: (j_ 206 0) :: (j_ 0 0) :: (r_ 557) :: (j_ 211 0) :: (j_ 0 0) :: (r_ 564) :: (j_ 216 0) :: (j_ 0 0) :: (r_ 571) :: (j_ 222 0) :: (j_ 0 0) :: (r_ 578) :: (j_ 226 0) :: (j_ 0 0) :: (r_ 585) :: (j_ 231 0) :: (j_ 0 0) :: (r_ 592) :: (j_ 239 0) :: (j_ 0 0) :: (r_ 599) :: []))) #[])
def QL (x:Params):Obj:=(@Obj.mk (.type "dict") none (@Data.dict (List.toArray [(e_ x "__name__" 165 (p_ "oddbases.moving" 956)),(U38 x),(U14 x),(U1 x),(U33 x),(U10 x),(U11 x),(U4 x),(U17 x),(U18 x),(U28 x),(U29 x),(U39 x),(U12 x),(U19 x),(U40 x),(U20 x),(U15 x),(U21 x),(U22 x),(U13 x),(U23 x),(U30 x),(U31 x),(U24 x),(U32 x),(U34 x),(U25 x),(U41 x),(U35 x),(U36 x),(U16 x),(U26 x),(U27 x),(U37 x),(e_ x "thing_at" 856 (r_ 530)),(e_ x "trimmed" 864 (r_ 537)),(U6 x),(e_ x "settled" 887 (r_ 551)),(U9 x),(U2 x),(e_ x "is_writing" 916 (r_ 572)),(U7 x),(e_ x "worth" 936 (r_ 586)),(U8 x),(e_ x "written" 955 (r_ 600))]) 46) #[])
def QM (x:Params):Obj:=(@Obj.mk .none none (@Data.fields (List.toArray ((j_ 2 0) :: (j_ 0 0) :: (r_ 20) :: (j_ 4 0) :: (j_ 0 0) :: (r_ 27) :: (j_ 6 0) :: (j_ 0 0) :: (r_ 34) :: (j_ 10 0) :: (j_ 0 0) :: (r_ 41) :: (j_ 16 0) :: (j_ 0 0) :: (r_ 48) :: (j_ 23 0) :: (j_ 0 0) :: (r_ 55) :: (j_ 25 0) :: (j_ 0 0) :: (r_ 68) :: (j_ 27 0) :: (j_ 0 0) :: (r_ 80) :: (j_ 29 0) :: (j_ 0 0) :: (r_ 92) :: (j_ 31 0) :: (j_ 0 0) :: (r_ 104) :: (j_ 33 0) :: (j_ 0 0) :: (r_ 116) :: (j_ 35 0) :: (j_ 0 0) :: (r_ 128) :: (j_ 37 0) :: (j_ 0 0) :: (r_ 140) :: (j_ 39 0) :: (j_ 0 0) :: (r_ 152) :: (j_ 41 0) :: (j_ 0 0) :: (r_ 164) :: (j_ 43 0) :: (j_ 0 0) :: (r_ 176) :: (j_ 45 0) :: (j_ 0 0) :: (r_ 188) :: (j_ 47 0) :: (j_ 0 0) :: (r_ 200) :: (j_ 50 0) :: (j_ 0 0) :: (r_ 212) :: (j_ 54 0) :: (j_ 0 0) :: (r_ 219) :: (j_ 81 0) :: (j_ 0 0) :: (r_ 275) :: (j_ 91 0) :: (j_ 0 0) :: (r_ 308) :: (j_ 104 0) :: (j_ 0 0) :: (r_ 348) :: (j_ 120 0) :: (j_ 0 0) :: (r_ 395) :: (j_ 130 0) :: (j_ 0 0) :: (r_ 428) :: (j_ 154 0) :: (j_ 0 0) :: (r_ 475) :: []))) #[])
def QN (x:Params):Obj:=(@Obj.mk (.type "dict") none (@Data.dict (List.toArray [(U5 x),(U38 x),(U14 x),(U1 x),(U33 x),(U10 x),(U11 x),(U4 x),(U17 x),(U18 x),(U28 x),(U29 x),(U39 x),(U12 x),(U19 x),(U40 x),(U20 x),(U15 x),(U21 x),(U22 x),(U13 x),(U23 x),(U30 x),(U31 x),(U24 x),(U32 x),(U34 x),(U25 x),(U41 x),(U35 x),(U36 x),(U16 x),(U26 x),(U27 x),(U37 x)]) 35) #[])
def QP (x:Params):Obj:=(@Obj.mk .none none (@Data.fields (List.toArray ((j_ 2 0) :: (j_ 0 0) :: (r_ 20) :: (j_ 4 0) :: (j_ 0 0) :: (r_ 27) :: (j_ 6 0) :: (j_ 0 0) :: (r_ 34) :: (j_ 10 0) :: (j_ 0 0) :: (r_ 41) :: (j_ 16 0) :: (j_ 0 0) :: (r_ 48) :: (j_ 23 0) :: (j_ 0 0) :: (r_ 55) :: (j_ 25 0) :: (j_ 0 0) :: (r_ 68) :: (j_ 27 0) :: (j_ 0 0) :: (r_ 80) :: (j_ 29 0) :: (j_ 0 0) :: (r_ 92) :: (j_ 31 0) :: (j_ 0 0) :: (r_ 104) :: (j_ 33 0) :: (j_ 0 0) :: (r_ 116) :: (j_ 35 0) :: (j_ 0 0) :: (r_ 128) :: (j_ 37 0) :: (j_ 0 0) :: (r_ 140) :: (j_ 39 0) :: (j_ 0 0) :: (r_ 152) :: (j_ 41 0) :: (j_ 0 0) :: (r_ 164) :: (j_ 43 0) :: (j_ 0 0) :: (r_ 176) :: (j_ 45 0) :: (j_ 0 0) :: (r_ 188) :: (j_ 47 0) :: (j_ 0 0) :: (r_ 200) :: (j_ 50 0) :: (j_ 0 0) :: (r_ 212) :: (j_ 54 0) :: (j_ 0 0) :: (r_ 219) :: (j_ 81 0) :: (j_ 0 0) :: (r_ 275) :: (j_ 91 0) :: (j_ 0 0) :: (r_ 308) :: (j_ 104 0) :: (j_ 0 0) :: (r_ 348) :: (j_ 120 0) :: (j_ 0 0) :: (r_ 395) :: (j_ 130 0) :: (j_ 0 0) :: (r_ 428) :: []))) #[])
def QO (x:Params):Obj:=(@Obj.mk (.type "type") none (@Data.cls (@ClassData.mk (.ofString "Way") [(.type "object")] [(r_ 265),(.type "object")] 264 (.ofString "Way") @Bool.true [] [(r_ 300),(r_ 340),(r_ 387),(r_ 420),(r_ 467)] @Bool.false (@Option.none @Bool) @Bool.false)) (@List.toArray (@Option @Value) [none,none,(some (p_ "Way" 453)),(some (p_ "Way" 461)),(some (.builtin "object.__new__")),(some (.bool @Bool.true))]))
def QQ (x:Params):Obj:=(@Obj.mk (.type "dict") none (@Data.dict (List.toArray [(U5 x),(U38 x),(U14 x),(U1 x),(U33 x),(U10 x),(U11 x),(U4 x),(U17 x),(U18 x),(U28 x),(U29 x),(U39 x),(U12 x),(U19 x),(U40 x),(U20 x),(U15 x),(U21 x),(U22 x),(U13 x),(U23 x),(U30 x),(U31 x),(U24 x),(U32 x),(U34 x),(U25 x),(U41 x),(U35 x),(U36 x),(U16 x),(U26 x),(U27 x)]) 34) #[])
def QS (x:Params):Obj:=(@Obj.mk .none none (@Data.fields (List.toArray ((j_ 2 0) :: (j_ 0 0) :: (r_ 20) :: (j_ 4 0) :: (j_ 0 0) :: (r_ 27) :: (j_ 6 0) :: (j_ 0 0) :: (r_ 34) :: (j_ 10 0) :: (j_ 0 0) :: (r_ 41) :: (j_ 16 0) :: (j_ 0 0) :: (r_ 48) :: (j_ 23 0) :: (j_ 0 0) :: (r_ 55) :: (j_ 25 0) :: (j_ 0 0) :: (r_ 68) :: (j_ 27 0) :: (j_ 0 0) :: (r_ 80) :: (j_ 29 0) :: (j_ 0 0) :: (r_ 92) :: (j_ 31 0) :: (j_ 0 0) :: (r_ 104) :: (j_ 33 0) :: (j_ 0 0) :: (r_ 116) :: (j_ 35 0) :: (j_ 0 0) :: (r_ 128) :: (j_ 37 0) :: (j_ 0 0) :: (r_ 140) :: (j_ 39 0) :: (j_ 0 0) :: (r_ 152) :: (j_ 41 0) :: (j_ 0 0) :: (r_ 164) :: (j_ 43 0) :: (j_ 0 0) :: (r_ 176) :: (j_ 45 0) :: (j_ 0 0) :: (r_ 188) :: (j_ 47 0) :: (j_ 0 0) :: (r_ 200) :: (j_ 50 0) :: (j_ 0 0) :: (r_ 212) :: (j_ 54 0) :: (j_ 0 0) :: (r_ 219) :: (j_ 81 0) :: (j_ 0 0) :: (r_ 275) :: (j_ 91 0) :: (j_ 0 0) :: (r_ 308) :: (j_ 104 0) :: (j_ 0 0) :: (r_ 348) :: (j_ 120 0) :: (j_ 0 0) :: (r_ 395) :: []))) #[])
def QR (x:Params):Obj:=(@Obj.mk (.type "type") none (@Data.cls (@ClassData.mk (.ofString "Way") [(.type "object")] [(r_ 265),(.type "object")] 264 (.ofString "Way") @Bool.true [] [(r_ 300),(r_ 340),(r_ 387),(r_ 420)] @Bool.false (@Option.none @Bool) @Bool.false)) (@List.toArray (@Option @Value) [none,none,(some (p_ "Way" 453)),(some (p_ "Way" 461)),(some (.builtin "object.__new__")),(some (.bool @Bool.true))]))
def QT (x:Params):Obj:=(@Obj.mk (.type "dict") none (@Data.dict (List.toArray [(U5 x),(U38 x),(U14 x),(U1 x),(U33 x),(U10 x),(U11 x),(U4 x),(U17 x),(U18 x),(U28 x),(U29 x),(U39 x),(U12 x),(U19 x),(U40 x),(U20 x),(U15 x),(U21 x),(U22 x),(U13 x),(U23 x),(U30 x),(U31 x),(U24 x),(U32 x),(U34 x),(U25 x),(U41 x),(U35 x),(U36 x),(U16 x),(U26 x)]) 33) #[])
def QV (x:Params):Obj:=(@Obj.mk .none none (@Data.fields (List.toArray ((j_ 2 0) :: (j_ 0 0) :: (r_ 20) :: (j_ 4 0) :: (j_ 0 0) :: (r_ 27) :: (j_ 6 0) :: (j_ 0 0) :: (r_ 34) :: (j_ 10 0) :: (j_ 0 0) :: (r_ 41) :: (j_ 16 0) :: (j_ 0 0) :: (r_ 48) :: (j_ 23 0) :: (j_ 0 0) :: (r_ 55) :: (j_ 25 0) :: (j_ 0 0) :: (r_ 68) :: (j_ 27 0) :: (j_ 0 0) :: (r_ 80) :: (j_ 29 0) :: (j_ 0 0) :: (r_ 92) :: (j_ 31 0) :: (j_ 0 0) :: (r_ 104) :: (j_ 33 0) :: (j_ 0 0) :: (r_ 116) :: (j_ 35 0) :: (j_ 0 0) :: (r_ 128) :: (j_ 37 0) :: (j_ 0 0) :: (r_ 140) :: (j_ 39 0) :: (j_ 0 0) :: (r_ 152) :: (j_ 41 0) :: (j_ 0 0) :: (r_ 164) :: (j_ 43 0) :: (j_ 0 0) :: (r_ 176) :: (j_ 45 0) :: (j_ 0 0) :: (r_ 188) :: (j_ 47 0) :: (j_ 0 0) :: (r_ 200) :: (j_ 50 0) :: (j_ 0 0) :: (r_ 212) :: (j_ 54 0) :: (j_ 0 0) :: (r_ 219) :: (j_ 81 0) :: (j_ 0 0) :: (r_ 275) :: (j_ 91 0) :: (j_ 0 0) :: (r_ 308) :: (j_ 104 0) :: (j_ 0 0) :: (r_ 348) :: []))) #[])
def QU (x:Params):Obj:=(@Obj.mk (.type "type") none (@Data.cls (@ClassData.mk (.ofString "Way") [(.type "object")] [(r_ 265),(.type "object")] 264 (.ofString "Way") @Bool.true [] [(r_ 300),(r_ 340),(r_ 387)] @Bool.false (@Option.none @Bool) @Bool.false)) (@List.toArray (@Option @Value) [none,none,(some (p_ "Way" 453)),(some (p_ "Way" 461)),(some (.builtin "object.__new__")),(some (.bool @Bool.true))]))
def QW (x:Params):Obj:=(@Obj.mk (.type "dict") none (@Data.dict (List.toArray [(U5 x),(U38 x),(U14 x),(U1 x),(U33 x),(U10 x),(U11 x),(U4 x),(U17 x),(U18 x),(U28 x),(U29 x),(U39 x),(U12 x),(U19 x),(U40 x),(U20 x),(U15 x),(U21 x),(U22 x),(U13 x),(U23 x),(U30 x),(U31 x),(U24 x),(U32 x),(U34 x),(U25 x),(U41 x),(U35 x),(U36 x),(U16 x)]) 32) #[])
def QY (x:Params):Obj:=(@Obj.mk .none none (@Data.fields (List.toArray ((j_ 2 0) :: (j_ 0 0) :: (r_ 20) :: (j_ 4 0) :: (j_ 0 0) :: (r_ 27) :: (j_ 6 0) :: (j_ 0 0) :: (r_ 34) :: (j_ 10 0) :: (j_ 0 0) :: (r_ 41) :: (j_ 16 0) :: (j_ 0 0) :: (r_ 48) :: (j_ 23 0) :: (j_ 0 0) :: (r_ 55) :: (j_ 25 0) :: (j_ 0 0) :: (r_ 68) :: (j_ 27 0) :: (j_ 0 0) :: (r_ 80) :: (j_ 29 0) :: (j_ 0 0) :: (r_ 92) :: (j_ 31 0) :: (j_ 0 0) :: (r_ 104) :: (j_ 33 0) :: (j_ 0 0) :: (r_ 116) :: (j_ 35 0) :: (j_ 0 0) :: (r_ 128) :: (j_ 37 0) :: (j_ 0 0) :: (r_ 140) :: (j_ 39 0) :: (j_ 0 0) :: (r_ 152) :: (j_ 41 0) :: (j_ 0 0) :: (r_ 164) :: (j_ 43 0) :: (j_ 0 0) :: (r_ 176) :: (j_ 45 0) :: (j_ 0 0) :: (r_ 188) :: (j_ 47 0) :: (j_ 0 0) :: (r_ 200) :: (j_ 50 0) :: (j_ 0 0) :: (r_ 212) :: (j_ 54 0) :: (j_ 0 0) :: (r_ 219) :: (j_ 81 0) :: (j_ 0 0) :: (r_ 275) :: (j_ 91 0) :: (j_ 0 0) :: (r_ 308) :: []))) #[])
def QX (x:Params):Obj:=(@Obj.mk (.type "type") none (@Data.cls (@ClassData.mk (.ofString "Way") [(.type "object")] [(r_ 265),(.type "object")] 264 (.ofString "Way") @Bool.true [] [(r_ 300),(r_ 340)] @Bool.false (@Option.none @Bool) @Bool.false)) (@List.toArray (@Option @Value) [none,none,(some (p_ "Way" 453)),(some (p_ "Way" 461)),(some (.builtin "object.__new__")),(some (.bool @Bool.true))]))
def QZ (x:Params):Obj:=(@Obj.mk (.type "dict") none (@Data.dict (List.toArray [(U5 x),(U38 x),(U14 x),(U1 x),(U33 x),(U10 x),(U11 x),(U4 x),(U17 x),(U18 x),(U28 x),(U29 x),(U39 x),(U12 x),(U19 x),(U40 x),(U20 x),(U15 x),(U21 x),(U22 x),(U13 x),(U23 x),(U30 x),(U31 x),(U24 x),(U32 x),(U34 x),(U25 x),(U41 x),(U35 x),(U36 x)]) 31) #[])
def Q2 (x:Params):Obj:=(@Obj.mk .none none (@Data.fields (List.toArray ((j_ 2 0) :: (j_ 0 0) :: (r_ 20) :: (j_ 4 0) :: (j_ 0 0) :: (r_ 27) :: (j_ 6 0) :: (j_ 0 0) :: (r_ 34) :: (j_ 10 0) :: (j_ 0 0) :: (r_ 41) :: (j_ 16 0) :: (j_ 0 0) :: (r_ 48) :: (j_ 23 0) :: (j_ 0 0) :: (r_ 55) :: (j_ 25 0) :: (j_ 0 0) :: (r_ 68) :: (j_ 27 0) :: (j_ 0 0) :: (r_ 80) :: (j_ 29 0) :: (j_ 0 0) :: (r_ 92) :: (j_ 31 0) :: (j_ 0 0) :: (r_ 104) :: (j_ 33 0) :: (j_ 0 0) :: (r_ 116) :: (j_ 35 0) :: (j_ 0 0) :: (r_ 128) :: (j_ 37 0) :: (j_ 0 0) :: (r_ 140) :: (j_ 39 0) :: (j_ 0 0) :: (r_ 152) :: (j_ 41 0) :: (j_ 0 0) :: (r_ 164) :: (j_ 43 0) :: (j_ 0 0) :: (r_ 176) :: (j_ 45 0) :: (j_ 0 0) :: (r_ 188) :: (j_ 47 0) :: (j_ 0 0) :: (r_ 200) :: (j_ 50 0) :: (j_ 0 0) :: (r_ 212) :: (j_ 54 0) :: (j_ 0 0) :: (r_ 219) :: (j_ 81 0) :: (j_ 0 0) :: (r_ 275) :: []))) #[])
def Q0 (x:Params):Obj:=(@Obj.mk (.type "type") none (@Data.cls (@ClassData.mk (.ofString "Way") [(.type "object")] [(r_ 265),(.type "object")] 264 (.ofString "Way") @Bool.true [] [(r_ 300)] @Bool.false (@Option.none @Bool) @Bool.false)) (@List.toArray (@Option @Value) [none,none,(some (p_ "Way" 453)),(some (p_ "Way" 461)),(some (.builtin "object.__new__")),(some (.bool @Bool.true))]))
def Q3 (x:Params):Obj:=(@Obj.mk (.type "dict") none (@Data.dict (List.toArray [(U5 x),(U38 x),(U14 x),(U1 x),(U33 x),(U10 x),(U11 x),(U4 x),(U17 x),(U18 x),(U28 x),(U29 x),(U39 x),(U12 x),(U19 x),(U40 x),(U20 x),(U15 x),(U21 x),(U22 x),(U13 x),(U23 x),(U30 x),(U31 x),(U24 x),(U32 x),(U34 x),(U25 x),(U41 x),(U35 x)]) 30) #[])
def Q5 (x:Params):Obj:=(@Obj.mk .none none (@Data.fields (List.toArray [(j_ 2 0),(j_ 0 0),(r_ 20),(j_ 4 0),(j_ 0 0),(r_ 27),(j_ 6 0),(j_ 0 0),(r_ 34),(j_ 10 0),(j_ 0 0),(r_ 41),(j_ 16 0),(j_ 0 0),(r_ 48),(j_ 23 0),(j_ 0 0),(r_ 55),(j_ 25 0),(j_ 0 0),(r_ 68),(j_ 27 0),(j_ 0 0),(r_ 80),(j_ 29 0),(j_ 0 0),(r_ 92),(j_ 31 0),(j_ 0 0),(r_ 104),(j_ 33 0),(j_ 0 0),(r_ 116),(j_ 35 0),(j_ 0 0),(r_ 128),(j_ 37 0),(j_ 0 0),(r_ 140),(j_ 39 0),(j_ 0 0),(r_ 152),(j_ 41 0),(j_ 0 0),(r_ 164),(j_ 43 0),(j_ 0 0),(r_ 176),(j_ 45 0),(j_ 0 0),(r_ 188),(j_ 47 0),(j_ 0 0),(r_ 200),(j_ 50 0),(j_ 0 0),(r_ 212),(j_ 54 0),(j_ 0 0),(r_ 219)])) #[])
def Q4 (x:Params):Obj:=(@Obj.mk (.type "type") none (@Data.cls (@ClassData.mk (.ofString "Way") [(.type "object")] [(r_ 265),(.type "object")] 264 (.ofString "Way") @Bool.true [] [] @Bool.false (@Option.none @Bool) @Bool.false)) (@List.toArray (@Option @Value) [none,none,(some (p_ "Way" 453)),(some (p_ "Way" 461)),(some (.builtin "object.__new__")),(some (.bool @Bool.true))]))
def Q6 (x:Params):Obj:=(@Obj.mk (.type "dict") none (@Data.dict (List.toArray [(U5 x),(U38 x),(U14 x),(U1 x),(U33 x),(U10 x),(U11 x),(U4 x),(U17 x),(U18 x),(U28 x),(U29 x),(U39 x),(U12 x),(U19 x),(U40 x),(U20 x),(U15 x),(U21 x),(U22 x),(U13 x),(U23 x),(U30 x),(U31 x),(U24 x),(U32 x),(U34 x),(U25 x),(U41 x)]) 29) #[])
def Q7 (x:Params):Obj:=(@Obj.mk .none none (@Data.fields (List.toArray [(j_ 2 0),(j_ 0 0),(r_ 20),(j_ 4 0),(j_ 0 0),(r_ 27),(j_ 6 0),(j_ 0 0),(r_ 34),(j_ 10 0),(j_ 0 0),(r_ 41),(j_ 16 0),(j_ 0 0),(r_ 48),(j_ 23 0),(j_ 0 0),(r_ 55),(j_ 25 0),(j_ 0 0),(r_ 68),(j_ 27 0),(j_ 0 0),(r_ 80),(j_ 29 0),(j_ 0 0),(r_ 92),(j_ 31 0),(j_ 0 0),(r_ 104),(j_ 33 0),(j_ 0 0),(r_ 116),(j_ 35 0),(j_ 0 0),(r_ 128),(j_ 37 0),(j_ 0 0),(r_ 140),(j_ 39 0),(j_ 0 0),(r_ 152),(j_ 41 0),(j_ 0 0),(r_ 164),(j_ 43 0),(j_ 0 0),(r_ 176),(j_ 45 0),(j_ 0 0),(r_ 188),(j_ 47 0),(j_ 0 0),(r_ 200),(j_ 50 0),(j_ 0 0),(r_ 212)])) #[])
def Q8 (x:Params):Obj:=(@Obj.mk (.type "dict") none (@Data.dict (List.toArray [(U5 x),(U38 x),(U14 x),(U1 x),(U33 x),(U10 x),(U11 x),(U4 x),(U17 x),(U18 x),(U28 x),(U29 x),(U39 x),(U12 x),(U19 x),(U40 x),(U20 x),(U15 x),(U21 x),(U22 x),(U13 x),(U23 x),(U30 x),(U31 x),(U24 x),(U32 x),(U34 x),(U25 x)]) 28) #[])
def Q_ (x:Params):Obj:=(@Obj.mk .none none (@Data.fields (List.toArray [(j_ 2 0),(j_ 0 0),(r_ 20),(j_ 4 0),(j_ 0 0),(r_ 27),(j_ 6 0),(j_ 0 0),(r_ 34),(j_ 10 0),(j_ 0 0),(r_ 41),(j_ 16 0),(j_ 0 0),(r_ 48),(j_ 23 0),(j_ 0 0),(r_ 55),(j_ 25 0),(j_ 0 0),(r_ 68),(j_ 27 0),(j_ 0 0),(r_ 80),(j_ 29 0),(j_ 0 0),(r_ 92),(j_ 31 0),(j_ 0 0),(r_ 104),(j_ 33 0),(j_ 0 0),(r_ 116),(j_ 35 0),(j_ 0 0),(r_ 128),(j_ 37 0),(j_ 0 0),(r_ 140),(j_ 39 0),(j_ 0 0),(r_ 152),(j_ 41 0),(j_ 0 0),(r_ 164),(j_ 43 0),(j_ 0 0),(r_ 176),(j_ 45 0),(j_ 0 0),(r_ 188)])) #[])
def Q9 (x:Params):Obj:=(@Obj.mk (.type "type") none (@Data.cls (@ClassData.mk (.ofString "OddError") [(.type "ValueError")] [(r_ 59),(.type "ValueError"),(.type "Exception"),(.type "BaseException"),(.type "object")] 58 (.ofString "OddError") @Bool.true [] [(r_ 72),(r_ 84),(r_ 96),(r_ 108),(r_ 120),(r_ 132),(r_ 144),(r_ 156),(r_ 168),(r_ 180),(r_ 192)] @Bool.false (@Option.none @Bool) @Bool.false)) (@List.toArray (@Option @Value) [(some (r_ 50)),none,(some (p_ "OddError" 232)),(some (p_ "OddError" 240)),(some (.builtin "ValueError.__new__")),(some (.bool @Bool.true))]))
def Pa (x:Params):Obj:=(@Obj.mk (.type "dict") none (@Data.dict (List.toArray [(U3 x),(U38 x),(U14 x),(U1 x),(U33 x),(U10 x),(U11 x),(U4 x),(U17 x),(U18 x),(U28 x),(U29 x),(U39 x),(U12 x),(U19 x),(U40 x),(U20 x),(U15 x),(U21 x),(U22 x),(U13 x),(U23 x),(U30 x),(U31 x),(U24 x),(U32 x)]) 26) #[])
def Pc (x:Params):Obj:=(@Obj.mk .none none (@Data.fields (List.toArray [(j_ 2 0),(j_ 0 0),(r_ 20),(j_ 4 0),(j_ 0 0),(r_ 27),(j_ 6 0),(j_ 0 0),(r_ 34),(j_ 10 0),(j_ 0 0),(r_ 41),(j_ 16 0),(j_ 0 0),(r_ 48),(j_ 23 0),(j_ 0 0),(r_ 55),(j_ 25 0),(j_ 0 0),(r_ 68),(j_ 27 0),(j_ 0 0),(r_ 80),(j_ 29 0),(j_ 0 0),(r_ 92),(j_ 31 0),(j_ 0 0),(r_ 104),(j_ 33 0),(j_ 0 0),(r_ 116),(j_ 35 0),(j_ 0 0),(r_ 128),(j_ 37 0),(j_ 0 0),(r_ 140),(j_ 39 0),(j_ 0 0),(r_ 152),(j_ 41 0),(j_ 0 0),(r_ 164),(j_ 43 0),(j_ 0 0),(r_ 176)])) #[])
def Pb (x:Params):Obj:=(@Obj.mk (.type "type") none (@Data.cls (@ClassData.mk (.ofString "OddError") [(.type "ValueError")] [(r_ 59),(.type "ValueError"),(.type "Exception"),(.type "BaseException"),(.type "object")] 58 (.ofString "OddError") @Bool.true [] [(r_ 72),(r_ 84),(r_ 96),(r_ 108),(r_ 120),(r_ 132),(r_ 144),(r_ 156),(r_ 168),(r_ 180)] @Bool.false (@Option.none @Bool) @Bool.false)) (@List.toArray (@Option @Value) [(some (r_ 50)),none,(some (p_ "OddError" 232)),(some (p_ "OddError" 240)),(some (.builtin "ValueError.__new__")),(some (.bool @Bool.true))]))
def Pd (x:Params):Obj:=(@Obj.mk (.type "dict") none (@Data.dict (List.toArray [(U3 x),(U38 x),(U14 x),(U1 x),(U33 x),(U10 x),(U11 x),(U4 x),(U17 x),(U18 x),(U28 x),(U29 x),(U39 x),(U12 x),(U19 x),(U40 x),(U20 x),(U15 x),(U21 x),(U22 x),(U13 x),(U23 x),(U30 x),(U31 x),(U24 x)]) 25) #[])
def Pf (x:Params):Obj:=(@Obj.mk .none none (@Data.fields (List.toArray [(j_ 2 0),(j_ 0 0),(r_ 20),(j_ 4 0),(j_ 0 0),(r_ 27),(j_ 6 0),(j_ 0 0),(r_ 34),(j_ 10 0),(j_ 0 0),(r_ 41),(j_ 16 0),(j_ 0 0),(r_ 48),(j_ 23 0),(j_ 0 0),(r_ 55),(j_ 25 0),(j_ 0 0),(r_ 68),(j_ 27 0),(j_ 0 0),(r_ 80),(j_ 29 0),(j_ 0 0),(r_ 92),(j_ 31 0),(j_ 0 0),(r_ 104),(j_ 33 0),(j_ 0 0),(r_ 116),(j_ 35 0),(j_ 0 0),(r_ 128),(j_ 37 0),(j_ 0 0),(r_ 140),(j_ 39 0),(j_ 0 0),(r_ 152),(j_ 41 0),(j_ 0 0),(r_ 164)])) #[])
def Pe (x:Params):Obj:=(@Obj.mk (.type "type") none (@Data.cls (@ClassData.mk (.ofString "OddError") [(.type "ValueError")] [(r_ 59),(.type "ValueError"),(.type "Exception"),(.type "BaseException"),(.type "object")] 58 (.ofString "OddError") @Bool.true [] [(r_ 72),(r_ 84),(r_ 96),(r_ 108),(r_ 120),(r_ 132),(r_ 144),(r_ 156),(r_ 168)] @Bool.false (@Option.none @Bool) @Bool.false)) (@List.toArray (@Option @Value) [(some (r_ 50)),none,(some (p_ "OddError" 232)),(some (p_ "OddError" 240)),(some (.builtin "ValueError.__new__")),(some (.bool @Bool.true))]))
def Pg (x:Params):Obj:=(@Obj.mk (.type "dict") none (@Data.dict (List.toArray [(U3 x),(U38 x),(U14 x),(U1 x),(U33 x),(U10 x),(U11 x),(U4 x),(U17 x),(U18 x),(U28 x),(U29 x),(U39 x),(U12 x),(U19 x),(U40 x),(U20 x),(U15 x),(U21 x),(U22 x),(U13 x),(U23 x),(U30 x),(U31 x)]) 24) #[])
def Pi (x:Params):Obj:=(@Obj.mk .none none (@Data.fields (List.toArray [(j_ 2 0),(j_ 0 0),(r_ 20),(j_ 4 0),(j_ 0 0),(r_ 27),(j_ 6 0),(j_ 0 0),(r_ 34),(j_ 10 0),(j_ 0 0),(r_ 41),(j_ 16 0),(j_ 0 0),(r_ 48),(j_ 23 0),(j_ 0 0),(r_ 55),(j_ 25 0),(j_ 0 0),(r_ 68),(j_ 27 0),(j_ 0 0),(r_ 80),(j_ 29 0),(j_ 0 0),(r_ 92),(j_ 31 0),(j_ 0 0),(r_ 104),(j_ 33 0),(j_ 0 0),(r_ 116),(j_ 35 0),(j_ 0 0),(r_ 128),(j_ 37 0),(j_ 0 0),(r_ 140),(j_ 39 0),(j_ 0 0),(r_ 152)])) #[])
def Ph (x:Params):Obj:=(@Obj.mk (.type "type") none (@Data.cls (@ClassData.mk (.ofString "OddError") [(.type "ValueError")] [(r_ 59),(.type "ValueError"),(.type "Exception"),(.type "BaseException"),(.type "object")] 58 (.ofString "OddError") @Bool.true [] [(r_ 72),(r_ 84),(r_ 96),(r_ 108),(r_ 120),(r_ 132),(r_ 144),(r_ 156)] @Bool.false (@Option.none @Bool) @Bool.false)) (@List.toArray (@Option @Value) [(some (r_ 50)),none,(some (p_ "OddError" 232)),(some (p_ "OddError" 240)),(some (.builtin "ValueError.__new__")),(some (.bool @Bool.true))]))
def Pj (x:Params):Obj:=(@Obj.mk (.type "dict") none (@Data.dict (List.toArray [(U3 x),(U38 x),(U14 x),(U1 x),(U33 x),(U10 x),(U11 x),(U4 x),(U17 x),(U18 x),(U28 x),(U29 x),(U39 x),(U12 x),(U19 x),(U40 x),(U20 x),(U15 x),(U21 x),(U22 x),(U13 x),(U23 x),(U30 x)]) 23) #[])
def Pl (x:Params):Obj:=(@Obj.mk .none none (@Data.fields (List.toArray [(j_ 2 0),(j_ 0 0),(r_ 20),(j_ 4 0),(j_ 0 0),(r_ 27),(j_ 6 0),(j_ 0 0),(r_ 34),(j_ 10 0),(j_ 0 0),(r_ 41),(j_ 16 0),(j_ 0 0),(r_ 48),(j_ 23 0),(j_ 0 0),(r_ 55),(j_ 25 0),(j_ 0 0),(r_ 68),(j_ 27 0),(j_ 0 0),(r_ 80),(j_ 29 0),(j_ 0 0),(r_ 92),(j_ 31 0),(j_ 0 0),(r_ 104),(j_ 33 0),(j_ 0 0),(r_ 116),(j_ 35 0),(j_ 0 0),(r_ 128),(j_ 37 0),(j_ 0 0),(r_ 140)])) #[])
def Pk (x:Params):Obj:=(@Obj.mk (.type "type") none (@Data.cls (@ClassData.mk (.ofString "OddError") [(.type "ValueError")] [(r_ 59),(.type "ValueError"),(.type "Exception"),(.type "BaseException"),(.type "object")] 58 (.ofString "OddError") @Bool.true [] [(r_ 72),(r_ 84),(r_ 96),(r_ 108),(r_ 120),(r_ 132),(r_ 144)] @Bool.false (@Option.none @Bool) @Bool.false)) (@List.toArray (@Option @Value) [(some (r_ 50)),none,(some (p_ "OddError" 232)),(some (p_ "OddError" 240)),(some (.builtin "ValueError.__new__")),(some (.bool @Bool.true))]))
def Pm (x:Params):Obj:=(@Obj.mk (.type "dict") none (@Data.dict (List.toArray [(U3 x),(U38 x),(U14 x),(U1 x),(U33 x),(U10 x),(U11 x),(U4 x),(U17 x),(U18 x),(U28 x),(U29 x),(U39 x),(U12 x),(U19 x),(U40 x),(U20 x),(U15 x),(U21 x),(U22 x),(U13 x),(U23 x)]) 22) #[])
def Po (x:Params):Obj:=(@Obj.mk .none none (@Data.fields (List.toArray [(j_ 2 0),(j_ 0 0),(r_ 20),(j_ 4 0),(j_ 0 0),(r_ 27),(j_ 6 0),(j_ 0 0),(r_ 34),(j_ 10 0),(j_ 0 0),(r_ 41),(j_ 16 0),(j_ 0 0),(r_ 48),(j_ 23 0),(j_ 0 0),(r_ 55),(j_ 25 0),(j_ 0 0),(r_ 68),(j_ 27 0),(j_ 0 0),(r_ 80),(j_ 29 0),(j_ 0 0),(r_ 92),(j_ 31 0),(j_ 0 0),(r_ 104),(j_ 33 0),(j_ 0 0),(r_ 116),(j_ 35 0),(j_ 0 0),(r_ 128)])) #[])
def Pn (x:Params):Obj:=(@Obj.mk (.type "type") none (@Data.cls (@ClassData.mk (.ofString "OddError") [(.type "ValueError")] [(r_ 59),(.type "ValueError"),(.type "Exception"),(.type "BaseException"),(.type "object")] 58 (.ofString "OddError") @Bool.true [] [(r_ 72),(r_ 84),(r_ 96),(r_ 108),(r_ 120),(r_ 132)] @Bool.false (@Option.none @Bool) @Bool.false)) (@List.toArray (@Option @Value) [(some (r_ 50)),none,(some (p_ "OddError" 232)),(some (p_ "OddError" 240)),(some (.builtin "ValueError.__new__")),(some (.bool @Bool.true))]))
def Pp (x:Params):Obj:=(@Obj.mk (.type "dict") none (@Data.dict (List.toArray [(U3 x),(U38 x),(U14 x),(U1 x),(U33 x),(U10 x),(U11 x),(U4 x),(U17 x),(U18 x),(U28 x),(U29 x),(U39 x),(U12 x),(U19 x),(U40 x),(U20 x),(U15 x),(U21 x),(U22 x),(U13 x)]) 21) #[])
def Pr (x:Params):Obj:=(@Obj.mk .none none (@Data.fields (List.toArray [(j_ 2 0),(j_ 0 0),(r_ 20),(j_ 4 0),(j_ 0 0),(r_ 27),(j_ 6 0),(j_ 0 0),(r_ 34),(j_ 10 0),(j_ 0 0),(r_ 41),(j_ 16 0),(j_ 0 0),(r_ 48),(j_ 23 0),(j_ 0 0),(r_ 55),(j_ 25 0),(j_ 0 0),(r_ 68),(j_ 27 0),(j_ 0 0),(r_ 80),(j_ 29 0),(j_ 0 0),(r_ 92),(j_ 31 0),(j_ 0 0),(r_ 104),(j_ 33 0),(j_ 0 0),(r_ 116)])) #[])
def Pq (x:Params):Obj:=(@Obj.mk (.type "type") none (@Data.cls (@ClassData.mk (.ofString "OddError") [(.type "ValueError")] [(r_ 59),(.type "ValueError"),(.type "Exception"),(.type "BaseException"),(.type "object")] 58 (.ofString "OddError") @Bool.true [] [(r_ 72),(r_ 84),(r_ 96),(r_ 108),(r_ 120)] @Bool.false (@Option.none @Bool) @Bool.false)) (@List.toArray (@Option @Value) [(some (r_ 50)),none,(some (p_ "OddError" 232)),(some (p_ "OddError" 240)),(some (.builtin "ValueError.__new__")),(some (.bool @Bool.true))]))
def Ps (x:Params):Obj:=(@Obj.mk (.type "dict") none (@Data.dict (List.toArray [(U3 x),(U38 x),(U14 x),(U1 x),(U33 x),(U10 x),(U11 x),(U4 x),(U17 x),(U18 x),(U28 x),(U29 x),(U39 x),(U12 x),(U19 x),(U40 x),(U20 x),(U15 x),(U21 x),(U22 x)]) 20) #[])
def Pu (x:Params):Obj:=(@Obj.mk .none none (@Data.fields (List.toArray [(j_ 2 0),(j_ 0 0),(r_ 20),(j_ 4 0),(j_ 0 0),(r_ 27),(j_ 6 0),(j_ 0 0),(r_ 34),(j_ 10 0),(j_ 0 0),(r_ 41),(j_ 16 0),(j_ 0 0),(r_ 48),(j_ 23 0),(j_ 0 0),(r_ 55),(j_ 25 0),(j_ 0 0),(r_ 68),(j_ 27 0),(j_ 0 0),(r_ 80),(j_ 29 0),(j_ 0 0),(r_ 92),(j_ 31 0),(j_ 0 0),(r_ 104)])) #[])
def Pt (x:Params):Obj:=(@Obj.mk (.type "type") none (@Data.cls (@ClassData.mk (.ofString "OddError") [(.type "ValueError")] [(r_ 59),(.type "ValueError"),(.type "Exception"),(.type "BaseException"),(.type "object")] 58 (.ofString "OddError") @Bool.true [] [(r_ 72),(r_ 84),(r_ 96),(r_ 108)] @Bool.false (@Option.none @Bool) @Bool.false)) (@List.toArray (@Option @Value) [(some (r_ 50)),none,(some (p_ "OddError" 232)),(some (p_ "OddError" 240)),(some (.builtin "ValueError.__new__")),(some (.bool @Bool.true))]))
def Pw (x:Params):Obj:=(@Obj.mk (.type "dict") none (@Data.dict (List.toArray [(U3 x),(U38 x),(U14 x),(U1 x),(U33 x),(U10 x),(U11 x),(U4 x),(U17 x),(U18 x),(U28 x),(U29 x),(U39 x),(U12 x),(U19 x),(U40 x),(U20 x),(U15 x),(U21 x)]) 19) #[])
def Py (x:Params):Obj:=(@Obj.mk .none none (@Data.fields (List.toArray [(j_ 2 0),(j_ 0 0),(r_ 20),(j_ 4 0),(j_ 0 0),(r_ 27),(j_ 6 0),(j_ 0 0),(r_ 34),(j_ 10 0),(j_ 0 0),(r_ 41),(j_ 16 0),(j_ 0 0),(r_ 48),(j_ 23 0),(j_ 0 0),(r_ 55),(j_ 25 0),(j_ 0 0),(r_ 68),(j_ 27 0),(j_ 0 0),(r_ 80),(j_ 29 0),(j_ 0 0),(r_ 92)])) #[])
def Px (x:Params):Obj:=(@Obj.mk (.type "type") none (@Data.cls (@ClassData.mk (.ofString "OddError") [(.type "ValueError")] [(r_ 59),(.type "ValueError"),(.type "Exception"),(.type "BaseException"),(.type "object")] 58 (.ofString "OddError") @Bool.true [] [(r_ 72),(r_ 84),(r_ 96)] @Bool.false (@Option.none @Bool) @Bool.false)) (@List.toArray (@Option @Value) [(some (r_ 50)),none,(some (p_ "OddError" 232)),(some (p_ "OddError" 240)),(some (.builtin "ValueError.__new__")),(some (.bool @Bool.true))]))
def Pz (x:Params):Obj:=(@Obj.mk (.type "dict") none (@Data.dict (List.toArray [(U3 x),(U38 x),(U14 x),(U1 x),(U33 x),(U10 x),(U11 x),(U4 x),(U17 x),(U18 x),(U28 x),(U29 x),(U39 x),(U12 x),(U19 x),(U40 x),(U20 x),(U15 x)]) 18) #[])
def PF (x:Params):Obj:=(@Obj.mk .none none (@Data.fields (List.toArray [(j_ 2 0),(j_ 0 0),(r_ 20),(j_ 4 0),(j_ 0 0),(r_ 27),(j_ 6 0),(j_ 0 0),(r_ 34),(j_ 10 0),(j_ 0 0),(r_ 41),(j_ 16 0),(j_ 0 0),(r_ 48),(j_ 23 0),(j_ 0 0),(r_ 55),(j_ 25 0),(j_ 0 0),(r_ 68),(j_ 27 0),(j_ 0 0),(r_ 80)])) #[])
def PD (x:Params):Obj:=(@Obj.mk (.type "type") none (@Data.cls (@ClassData.mk (.ofString "OddError") [(.type "ValueError")] [(r_ 59),(.type "ValueError"),(.type "Exception"),(.type "BaseException"),(.type "object")] 58 (.ofString "OddError") @Bool.true [] [(r_ 72),(r_ 84)] @Bool.false (@Option.none @Bool) @Bool.false)) (@List.toArray (@Option @Value) [(some (r_ 50)),none,(some (p_ "OddError" 232)),(some (p_ "OddError" 240)),(some (.builtin "ValueError.__new__")),(some (.bool @Bool.true))]))
def PH (x:Params):Obj:=(@Obj.mk (.type "dict") none (@Data.dict (List.toArray [(U3 x),(U38 x),(U14 x),(U1 x),(U33 x),(U10 x),(U11 x),(U4 x),(U17 x),(U18 x),(U28 x),(U29 x),(U39 x),(U12 x),(U19 x),(U40 x),(U20 x)]) 17) #[])
def PK (x:Params):Obj:=(@Obj.mk .none none (@Data.fields (List.toArray [(j_ 2 0),(j_ 0 0),(r_ 20),(j_ 4 0),(j_ 0 0),(r_ 27),(j_ 6 0),(j_ 0 0),(r_ 34),(j_ 10 0),(j_ 0 0),(r_ 41),(j_ 16 0),(j_ 0 0),(r_ 48),(j_ 23 0),(j_ 0 0),(r_ 55),(j_ 25 0),(j_ 0 0),(r_ 68)])) #[])
def PJ (x:Params):Obj:=(@Obj.mk (.type "type") none (@Data.cls (@ClassData.mk (.ofString "OddError") [(.type "ValueError")] [(r_ 59),(.type "ValueError"),(.type "Exception"),(.type "BaseException"),(.type "object")] 58 (.ofString "OddError") @Bool.true [] [(r_ 72)] @Bool.false (@Option.none @Bool) @Bool.false)) (@List.toArray (@Option @Value) [(some (r_ 50)),none,(some (p_ "OddError" 232)),(some (p_ "OddError" 240)),(some (.builtin "ValueError.__new__")),(some (.bool @Bool.true))]))
def o99 (x:Params):Obj:=(@Obj.mk (.type "dict") none (@Data.dict (List.toArray [(U3 x),(U38 x),(U14 x),(U1 x),(U33 x),(U10 x),(U11 x),(U4 x),(U17 x),(U18 x),(U28 x),(U29 x),(U39 x),(U12 x),(U19 x),(U40 x)]) 16) #[])
def o50:=t19 2 0 20 4 27 6 34 10 41 16 48 23 55
def o95 (x:Params):Obj:=(@Obj.mk (.type "type") none (@Data.cls (@ClassData.mk (.ofString "OddError") [(.type "ValueError")] [(r_ 59),(.type "ValueError"),(.type "Exception"),(.type "BaseException"),(.type "object")] 58 (.ofString "OddError") @Bool.true [] [] @Bool.false (@Option.none @Bool) @Bool.false)) (@List.toArray (@Option @Value) [(some (r_ 50)),none,(some (p_ "OddError" 232)),(some (p_ "OddError" 240)),(some (.builtin "ValueError.__new__")),(some (.bool @Bool.true))]))
def o49 (x:Params):Obj:=(@Obj.mk (.type "dict") none (@Data.dict (List.toArray [(U3 x),(U38 x),(U14 x),(U1 x),(U33 x),(U10 x),(U11 x),(U4 x),(U17 x),(U18 x),(U28 x),(U29 x),(U39 x),(U12 x),(U19 x)]) 15) #[])
abbrev cB:=N_ zc (L_ qQ) Z_
abbrev Ze:=N_ zm (L_ za) Z_
abbrev uw:=N_ zm (L_ zc) Z_
abbrev xL:=N_ zc (L_ za) Z_
abbrev mW:=N_ zc (L_ zc) Z_
abbrev zZ:=N_ za (L_ za) Z_
abbrev rV:=N_ za (L_ zc) Z_
abbrev Zf:=N_ zh (L_ za) Z_
abbrev Wo:=N_ za (L_ zm) (L_ uQ)
abbrev q8:=N_ zc (L_ za) (L_ zc)
abbrev Uh:=N_ o62 (N_ o78 (L_ vw) Z_) (L_ o94)
abbrev Ui:=N_ o60 (N_ o76 (L_ w_) Z_) (L_ o92)
abbrev Uj:=N_ za (N_ o77 (L_ wy) Z_) (L_ za)
abbrev Uk:=N_ zc (N_ za (L_ va) Z_) (L_ o91)
abbrev Ul:=N_ o74 (N_ za (L_ qV) Z_) (L_ za)
abbrev Um:=N_ o78 (N_ vw (L_ za) Z_) (L_ za)
abbrev Uo:=N_ o70 zZ (L_ uU)
abbrev Up:=N_ o76 (N_ w_ (L_ zh) Z_) (L_ uS)
abbrev Uq:=N_ o77 (N_ wy (L_ tZ) Z_) (L_ uR)
abbrev Ur:=N_ o69 (N_ vz (L_ qX) Z_) (L_ uV)
abbrev Us:=N_ o71 (N_ zc (L_ rk) Z_) (L_ zm)
abbrev Ut:=N_ o67 uw (L_ vZ)
abbrev Uu:=N_ o86 (N_ za (L_ rg) Z_) (L_ za)
abbrev Uv:=N_ o88 (N_ w8 (L_ zh) Z_) (L_ vo)
abbrev Uw:=N_ o84 (N_ vv (L_ tX) Z_) (L_ zh)
abbrev Ux:=N_ o81 (N_ ud (L_ qT) Z_) (L_ vW)
abbrev Uy:=N_ o85 (N_ vt (L_ rh) Z_) (L_ vp)
abbrev Uz:=N_ o83 (N_ zc (L_ tY) Z_) (L_ zm)
abbrev UA:=N_ o98 (N_ za (L_ qO) Z_) (L_ za)
abbrev UB:=N_ o94 zZ (L_ vT)
abbrev UC:=N_ o96 (N_ ua (L_ rc) Z_) (L_ zh)
abbrev UD:=N_ o92 (N_ zh (L_ qS) Z_) (L_ vk)
abbrev UE:=N_ o97 (N_ v9 (L_ qP) Z_) (L_ vS)
abbrev UF:=N_ o91 uw (L_ vm)
abbrev UG:=N_ za (N_ vy (L_ rj) Z_) (L_ zh)
abbrev UH:=N_ za (N_ zh (L_ qY) Z_) (L_ vY)
abbrev UI:=N_ zc (N_ vx (L_ qW) Z_) (L_ uT)
abbrev UJ:=N_ za (N_ va (L_ zm) Z_) (L_ zc)
abbrev UK:=N_ za zZ (L_ vV)
abbrev UL:=N_ zc (N_ uc (L_ za) Z_) (L_ za)
abbrev UM:=N_ zc (N_ zh (L_ qU) Z_) (L_ vX)
abbrev UN:=N_ za (N_ vq (L_ rd) Z_) (L_ vn)
abbrev Wp:=N_ za uw (L_ uQ)
abbrev UO:=N_ zh (N_ w9 (L_ zm) Z_) (L_ zc)
abbrev UP:=N_ za (N_ ub (L_ qR) Z_) (L_ vU)
abbrev UQ:=N_ za (N_ qV (L_ md) Z_) (L_ za)
abbrev UR:=N_ vw (N_ za (L_ n_) Z_) (L_ za)
abbrev US:=N_ za (N_ za (L_ mh) Z_) (L_ mx)
abbrev UT:=N_ zh (N_ qU (L_ ku) Z_) (L_ mt)
abbrev UU:=N_ vy (N_ rj (L_ kv) Z_) (L_ zh)
abbrev UV:=N_ w_ (N_ zh (L_ ma) Z_) (L_ mv)
abbrev UW:=N_ zh (N_ qY (L_ za) Z_) (L_ oO)
abbrev UX:=N_ ud (N_ qT (L_ kr) Z_) (L_ ky)
abbrev UY:=N_ vx (N_ qW (L_ mf) Z_) (L_ mw)
abbrev UZ:=N_ vz (N_ qX (L_ zc) Z_) (L_ mz)
abbrev U_:=N_ zm (N_ zc (L_ n9) Z_) (L_ oN)
abbrev Ta:=N_ zc (N_ rk (L_ za) Z_) (L_ zm)
abbrev Tb:=N_ va Ze (L_ zc)
abbrev Tc:=N_ zm (N_ zc (L_ mi) Z_) (L_ qD)
abbrev Td:=N_ za (N_ qO (L_ n4) Z_) (L_ zc)
abbrev Te:=N_ vV (N_ za (L_ kg) Z_) (L_ za)
abbrev Tf:=N_ za zZ (L_ oF)
abbrev Tg:=N_ za (N_ za (L_ n6) Z_) (L_ mo)
abbrev Th:=N_ za (N_ qJ (L_ nV) Z_) (L_ oC)
abbrev Ti:=N_ uU (N_ za (L_ nZ) Z_) (L_ oH)
abbrev Tj:=N_ ua (N_ rc (L_ za) Z_) (L_ mm)
abbrev Tk:=N_ vX (N_ zh (L_ nS) Z_) (L_ zc)
abbrev Tl:=N_ zh (N_ qM (L_ zc) Z_) (L_ za)
abbrev Tm:=N_ zh (N_ qS (L_ za) Z_) (L_ kx)
abbrev Tn:=N_ uS (N_ ra (L_ nX) Z_) (L_ mj)
abbrev To:=N_ vY (N_ zh (L_ kj) Z_) (L_ za)
abbrev Tp:=N_ v9 (N_ qP (L_ zc) Z_) (L_ za)
abbrev Tq:=N_ vW (N_ qI (L_ kh) Z_) (L_ oB)
abbrev Tr:=N_ uT (N_ qL (L_ nY) Z_) (L_ zc)
abbrev Ts:=N_ ub (N_ qR (L_ kl) Z_) (L_ za)
abbrev Tt:=N_ uR (N_ qK (L_ nW) Z_) (L_ oE)
abbrev Tu:=N_ uV (N_ qN (L_ n0) Z_) (L_ ml)
abbrev Tv:=N_ zc (N_ qQ (L_ n5) Z_) (L_ mn)
abbrev Tw:=N_ uQ (N_ zm (L_ nU) Z_) (L_ za)
abbrev Tx:=N_ zm xL (L_ oG)
abbrev Ty:=N_ zm (N_ zc (L_ n8) Z_) (L_ zh)
abbrev Tz:=N_ zc (N_ rb (L_ ki) Z_) (L_ za)
abbrev TC:=N_ vZ Ze (L_ oI)
abbrev TD:=N_ qV (N_ md (L_ bW) Z_) (L_ z4)
abbrev TF:=N_ za (N_ n_ (L_ XI) Z_) (L_ eX)
abbrev TH:=N_ za (N_ mh (L_ bY) Z_) (L_ i7)
abbrev TJ:=N_ rj (N_ kv (L_ XJ) Z_) (L_ e7)
abbrev TK:=N_ zh (N_ ma (L_ bU) Z_) (L_ eY)
abbrev TL:=N_ qY zZ (L_ i9)
abbrev TM:=N_ qW (N_ mf (L_ bX) Z_) (L_ eZ)
abbrev TN:=N_ tZ (N_ ai (L_ bT) Z_) (L_ za)
abbrev TQ:=N_ qX mW (L_ i8)
abbrev TR:=N_ zc (N_ n9 (L_ XH) Z_) (L_ eW)
abbrev TU:=N_ rk zZ (L_ i6)
abbrev TV:=N_ zm (N_ za (L_ bV) Z_) (L_ zh)
abbrev TW:=N_ zc (N_ mi (L_ bZ) Z_) (L_ i_)
abbrev TX:=N_ za mW (L_ iI)
abbrev TY:=N_ za (N_ kg (L_ bE) Z_) (L_ za)
abbrev TZ:=N_ qH zZ (L_ zc)
abbrev T0:=N_ za (N_ l_ (L_ XA) Z_) (L_ iK)
abbrev T3:=N_ za zZ (L_ eK)
abbrev T4:=N_ qF (N_ nP (L_ bx) Z_) (L_ za)
abbrev T5:=N_ tV (N_ kb (L_ bC) Z_) (L_ iM)
abbrev T6:=N_ zh (N_ nR (L_ bA) Z_) (L_ za)
abbrev T7:=N_ s_ (N_ zh (L_ zc) Z_) (L_ iO)
abbrev T8:=N_ qE zZ (L_ zc)
abbrev T9:=N_ qI (N_ kh (L_ bF) Z_) (L_ eL)
abbrev T_:=N_ s8 (N_ ka (L_ bB) Z_) (L_ za)
abbrev Sa:=N_ qG zZ (L_ eJ)
abbrev Sb:=N_ s9 (N_ kf (L_ bD) Z_) (L_ za)
abbrev Sc:=N_ zc (N_ nQ (L_ bz) Z_) (L_ iJ)
abbrev Sd:=N_ tW (N_ kd (L_ XB) Z_) (L_ iN)
abbrev Se:=N_ zm mW (L_ iL)
abbrev Sf:=N_ zc (N_ z4 (L_ za) Z_) (L_ zc)
abbrev Sg:=N_ qD (N_ nO (L_ bw) Z_) (L_ za)
abbrev Sh:=N_ qv (N_ hG (L_ YZ) Z_) (L_ fP)
abbrev Si:=N_ za (N_ lV (L_ za) Z_) (L_ za)
abbrev Sj:=N_ mr zZ (L_ XQ)
abbrev Sk:=N_ oz rV (L_ aa)
abbrev Sm:=N_ za (N_ e8 (L_ Vx) Z_) (L_ z4)
abbrev Sn:=N_ za (N_ l7 (L_ Xx) Z_) (L_ za)
abbrev So:=N_ zc (N_ za (L_ Xa) Z_) (L_ zc)
abbrev Sq:=N_ za (N_ l6 (L_ Xv) Z_) (L_ za)
abbrev Sr:=N_ za (N_ lT (L_ Vr) Z_) (L_ za)
abbrev Ss:=N_ za (N_ gf (L_ za) Z_) (L_ ak)
abbrev Su:=N_ mx (N_ l9 (L_ Xz) Z_) (L_ eG)
abbrev Sv:=N_ za (N_ lP (L_ za) Z_) (L_ za)
abbrev Sw:=N_ mt mW (L_ aq)
abbrev Sx:=N_ qz (N_ zc (L_ Xc) Z_) (L_ fU)
abbrev Sy:=N_ oK (N_ gd (L_ Xq) Z_) (L_ XO)
abbrev Sz:=N_ zh zZ (L_ zc)
abbrev SA:=N_ qx (N_ lR (L_ za) Z_) (L_ fR)
abbrev SB:=N_ kx (N_ zh (L_ Xo) Z_) (L_ XM)
abbrev SC:=N_ mv (N_ gj (L_ Vz) Z_) (L_ eD)
abbrev SD:=N_ qB (N_ hV (L_ Xe) Z_) (L_ fW)
abbrev SE:=N_ zc (N_ gh (L_ Xs) Z_) (L_ ao)
abbrev SF:=N_ oO zZ (L_ av)
abbrev SG:=N_ oy rV (L_ b_)
abbrev SH:=N_ oB (N_ zc (L_ Xf) Z_) (L_ fX)
abbrev SI:=N_ ky (N_ gi (L_ Xu) Z_) (L_ za)
abbrev SJ:=N_ za (N_ lS (L_ za) Z_) (L_ za)
abbrev SK:=N_ oJ (N_ e9 (L_ za) Z_) (L_ XN)
abbrev SL:=N_ mw mW (L_ eE)
abbrev SM:=N_ za (N_ lQ (L_ Vq) Z_) (L_ za)
abbrev SN:=N_ qC (N_ nN (L_ Xw) Z_) (L_ eB)
abbrev SO:=N_ qA (N_ lU (L_ za) Z_) (L_ fV)
abbrev SQ:=N_ oM (N_ gg (L_ Xr) Z_) (L_ al)
abbrev SR:=N_ mz (N_ gk (L_ VA) Z_) (L_ eI)
abbrev SS:=N_ qw (N_ zc (L_ Y_) Z_) (L_ fQ)
abbrev ST:=N_ oN zZ (L_ zc)
abbrev SU:=N_ zc (N_ za (L_ Xd) Z_) (L_ zc)
abbrev SV:=N_ mq (N_ ge (L_ zc) Z_) (L_ aj)
abbrev SW:=N_ zm (N_ l8 (L_ Xy) Z_) (L_ za)
abbrev SY:=N_ qy (N_ hU (L_ Xb) Z_) (L_ fS)
abbrev SZ:=N_ zh (N_ z4 (L_ Xp) Z_) (L_ zh)
abbrev S0:=N_ zc zZ (L_ au)
abbrev S1:=N_ oA rV (L_ ac)
abbrev S2:=N_ za (N_ db (L_ Vy) Z_) (L_ ap)
abbrev S3:=N_ o56 (N_ za (L_ vy) Z_) (N_ o88 (L_ w8) Z_)
abbrev S4:=N_ o55 (N_ o71 (L_ zc) Z_) (N_ zh (L_ w9) Z_)
abbrev S5:=N_ za (N_ o74 (L_ za) Z_) (N_ zc (L_ uc) Z_)
abbrev S6:=N_ o57 (N_ zc (L_ vx) Z_) (N_ za (L_ vq) Z_)
abbrev S7:=N_ o70 zZ (N_ uU (L_ za) Z_)
abbrev S8:=N_ o69 (N_ vz (L_ qX) Z_) (N_ uV (L_ qN) Z_)
abbrev S9:=N_ o67 uw (N_ vZ (L_ zm) Z_)
abbrev Ra:=N_ o74 (N_ za (L_ qV) Z_) zZ
abbrev Rb:=N_ o78 (N_ vw (L_ za) Z_) (N_ za (L_ qJ) Z_)
abbrev Rc:=N_ o86 (N_ za (L_ rg) Z_) zZ
abbrev Re:=N_ o76 (N_ w_ (L_ zh) Z_) (N_ uS (L_ ra) Z_)
abbrev Rf:=N_ o84 (N_ vv (L_ tX) Z_) (N_ zh (L_ s_) Z_)
abbrev Rg:=N_ o81 (N_ ud (L_ qT) Z_) (N_ vW (L_ qI) Z_)
abbrev Rh:=N_ o77 (N_ wy (L_ tZ) Z_) (N_ uR (L_ qK) Z_)
abbrev Ri:=N_ o85 (N_ vt (L_ rh) Z_) (N_ vp (L_ s9) Z_)
abbrev Rj:=N_ o71 (N_ zc (L_ rk) Z_) uw
abbrev Rk:=N_ o83 (N_ zc (L_ tY) Z_) uw
abbrev Rm:=N_ o98 (N_ za (L_ qO) Z_) zZ
abbrev Rn:=N_ o94 zZ (N_ vT (L_ za) Z_)
abbrev Ro:=N_ o96 (N_ ua (L_ rc) Z_) (N_ zh (L_ qF) Z_)
abbrev Rp:=N_ o92 (N_ zh (L_ qS) Z_) (N_ vk (L_ zh) Z_)
abbrev Rq:=N_ o97 (N_ v9 (L_ qP) Z_) (N_ vS (L_ qE) Z_)
abbrev Rr:=N_ o91 uw (N_ vm (L_ zm) Z_)
abbrev Rs:=N_ za (N_ zh (L_ qY) Z_) (N_ vY (L_ zh) Z_)
abbrev Rt:=N_ za zZ (N_ vV (L_ za) Z_)
abbrev Ru:=N_ zc (N_ zh (L_ qU) Z_) (N_ vX (L_ zh) Z_)
abbrev Rv:=N_ za (N_ vy (L_ rj) Z_) (N_ zh (L_ qM) Z_)
abbrev Rw:=N_ zc (N_ vx (L_ qW) Z_) (N_ uT (L_ qL) Z_)
abbrev Rx:=N_ za uw (N_ uQ (L_ zm) Z_)
abbrev Ry:=N_ za (N_ va (L_ zm) Z_) (N_ zc (L_ rb) Z_)
abbrev RA:=N_ zc (N_ uc (L_ za) Z_) (N_ za (L_ qH) Z_)
abbrev RB:=N_ za (N_ ub (L_ qR) Z_) (N_ vU (L_ qG) Z_)
abbrev RC:=N_ za (N_ za (L_ z4) Z_) (N_ mr (L_ za) Z_)
abbrev RD:=N_ uc rV (N_ za (L_ e8) Z_)
abbrev RE:=N_ za (N_ qV (L_ md) Z_) (N_ za (L_ l7) Z_)
abbrev RF:=N_ vw (N_ za (L_ n_) Z_) (N_ za (L_ l6) Z_)
abbrev RG:=N_ za (N_ rg (L_ ko) Z_) (N_ za (L_ gf) Z_)
abbrev RH:=N_ zh (N_ qU (L_ ku) Z_) (N_ mt (L_ zc) Z_)
abbrev RI:=N_ w8 (N_ zh (L_ km) Z_) (N_ oK (L_ gd) Z_)
abbrev RJ:=N_ w_ (N_ zh (L_ ma) Z_) (N_ mv (L_ gj) Z_)
abbrev RK:=N_ vv (N_ tX (L_ kq) Z_) (N_ zc (L_ gh) Z_)
abbrev RL:=N_ ud (N_ qT (L_ kr) Z_) (N_ ky (L_ gi) Z_)
abbrev RM:=N_ vq (N_ rd (L_ za) Z_) (N_ oJ (L_ e9) Z_)
abbrev RN:=N_ vt (N_ rh (L_ za) Z_) (N_ oM (L_ gg) Z_)
abbrev RO:=N_ zm (N_ zc (L_ n9) Z_) (N_ oN (L_ za) Z_)
abbrev RP:=N_ w9 (N_ zm (L_ kn) Z_) (N_ mq (L_ ge) Z_)
abbrev RQ:=N_ va Ze xL
abbrev RS:=N_ zc (N_ tY (L_ zh) Z_) (N_ za (L_ db) Z_)
abbrev RT:=N_ za rV (N_ qv (L_ hG) Z_)
abbrev RU:=N_ vV (N_ za (L_ kg) Z_) (N_ za (L_ lV) Z_)
abbrev RV:=N_ za (N_ qH (L_ za) Z_) (N_ oz (L_ za) Z_)
abbrev RW:=N_ vT (N_ za (L_ l_) Z_) xL
abbrev RX:=N_ za (N_ qJ (L_ nV) Z_) (N_ oC (L_ lX) Z_)
abbrev RY:=N_ za zZ (N_ za (L_ lT) Z_)
abbrev RZ:=N_ zh (N_ qF (L_ nP) Z_) (N_ za (L_ lP) Z_)
abbrev R0:=N_ vX (N_ zh (L_ nS) Z_) xL
abbrev R1:=N_ vo (N_ tV (L_ kb) Z_) (N_ qz (L_ zc) Z_)
abbrev R3:=N_ vk (N_ zh (L_ nR) Z_) (N_ qx (L_ lR) Z_)
abbrev R4:=N_ uS (N_ ra (L_ nX) Z_) (N_ mj (L_ za) Z_)
abbrev R5:=N_ zh (N_ s_ (L_ zh) Z_) (N_ qB (L_ hV) Z_)
abbrev R6:=N_ vS (N_ qE (L_ za) Z_) (N_ oy (L_ za) Z_)
abbrev R7:=N_ vW (N_ qI (L_ kh) Z_) (N_ oB (L_ zc) Z_)
abbrev R8:=N_ vn (N_ s8 (L_ ka) Z_) (N_ za (L_ lS) Z_)
abbrev R9:=N_ vU (N_ qG (L_ za) Z_) (N_ za (L_ lQ) Z_)
abbrev R_:=N_ uR (N_ qK (L_ nW) Z_) (N_ oE (L_ hW) Z_)
abbrev Qa:=N_ vp (N_ s9 (L_ kf) Z_) (N_ qA (L_ lU) Z_)
abbrev Qb:=N_ zm (N_ zc (L_ nQ) Z_) (N_ qw (L_ zc) Z_)
abbrev Qc:=N_ uQ (N_ zm (L_ nU) Z_) (N_ za (L_ lW) Z_)
abbrev Qe:=N_ zc (N_ tW (L_ kd) Z_) xL
abbrev Qf:=N_ vm uw (N_ qy (L_ hU) Z_)
abbrev Qg:=N_ zc (N_ rb (L_ ki) Z_) (N_ za (L_ lY) Z_)
abbrev Qh:=N_ zm (N_ zc (L_ z4) Z_) (N_ oA (L_ za) Z_)
abbrev Qi:=N_ zc (N_ mi (L_ bZ) Z_) (N_ i_ (L_ za) Z_)
abbrev Y99:=N_ o53 (N_ o69 (L_ vz) (L_ uV)) (N_ o85 (L_ vt) Z_)
abbrev Y98:=N_ za (N_ o70 (L_ za) (L_ uU)) (N_ o86 (L_ za) Z_)
abbrev Y97:=N_ za (N_ o67 (L_ zm) (L_ vZ)) (N_ o83 (L_ zc) Z_)
abbrev Y96:=N_ o64 (N_ zc (L_ zh) (L_ vX)) (N_ o96 (L_ ua) Z_)
abbrev Y95:=N_ za (N_ o81 (L_ ud) (L_ vW)) (N_ o97 (L_ v9) Z_)
abbrev Y94:=N_ zc (N_ za (L_ zh) (L_ vY)) (N_ o84 (L_ vv) Z_)
abbrev Y93:=N_ zc (N_ za (L_ za) (L_ vV)) (N_ o98 (L_ za) Z_)
abbrev Y92:=N_ o70 (N_ za (L_ za) (L_ mx)) (N_ uU (L_ za) Z_)
abbrev Y91:=N_ o69 (N_ vz (L_ qX) (L_ mz)) (N_ uV (L_ qN) Z_)
abbrev Y90:=N_ o67 (N_ zm (L_ zc) (L_ qD)) (N_ vZ (L_ zm) Z_)
abbrev Y89:=N_ za (N_ zh (L_ qY) (L_ oO)) (N_ vY (L_ zh) Z_)
abbrev Y88:=N_ za (N_ za (L_ mh) (L_ i7)) (N_ mx (L_ l9) Z_)
abbrev Y87:=N_ vy (N_ rj (L_ kv) (L_ e7)) Zf
abbrev Y86:=N_ zh (N_ qY (L_ za) (L_ i9)) (N_ oO (L_ za) Z_)
abbrev Y85:=N_ vx (N_ qW (L_ mf) (L_ eZ)) (N_ mw (L_ zc) Z_)
abbrev Y84:=N_ vz (N_ qX (L_ zc) (L_ i8)) (N_ mz (L_ gk) Z_)
abbrev Y83:=N_ zc (N_ rk (L_ za) (L_ i6)) (N_ zm (L_ l8) Z_)
abbrev Y82:=N_ zm (N_ zc (L_ mi) (L_ i_)) (N_ qD (L_ nO) Z_)
abbrev Y81:=N_ za (N_ qO (L_ n4) (L_ za)) xL
abbrev Y80:=N_ uc (N_ za (L_ zc) (L_ iX)) (N_ za (L_ e8) Z_)
abbrev Y79:=N_ za (N_ za (L_ za) (L_ eP)) (N_ oF (L_ zc) Z_)
abbrev Y78:=N_ za (N_ za (L_ n6) (L_ iV)) (N_ mo (L_ za) Z_)
abbrev Y77:=N_ uU (N_ za (L_ nZ) (L_ iR)) (N_ oH (L_ hZ) Z_)
abbrev Y76:=N_ ua (N_ rc (L_ za) (L_ zc)) (N_ mm (L_ h_) Z_)
abbrev Y75:=N_ zh (N_ qM (L_ zc) (L_ iP)) (N_ za (L_ lZ) Z_)
abbrev Y74:=N_ zh (N_ qS (L_ za) (L_ eT)) (N_ kx (L_ zh) Z_)
abbrev Y73:=N_ vY (N_ zh (L_ kj) (L_ iT)) (N_ za (L_ l5) Z_)
abbrev Y72:=N_ v9 (N_ qP (L_ zc) (L_ iU)) (N_ za (L_ h8) Z_)
abbrev Y71:=N_ uT (N_ qL (L_ nY) (L_ eQ)) xL
abbrev Y70:=N_ ub (N_ qR (L_ kl) (L_ iW)) (N_ za (L_ gc) Z_)
abbrev Y69:=N_ uV (N_ qN (L_ n0) (L_ iS)) (N_ ml (L_ za) Z_)
abbrev Y68:=N_ zc (N_ qQ (L_ n5) (L_ za)) (N_ mn (L_ gb) Z_)
abbrev Y67:=N_ zm (N_ zc (L_ za) (L_ iQ)) (N_ oG (L_ l4) Z_)
abbrev Y66:=N_ zm (N_ zc (L_ n8) (L_ za)) (N_ zh (L_ z4) Z_)
abbrev Y65:=N_ vZ (N_ zm (L_ za) (L_ eS)) (N_ oI (L_ zc) Z_)
abbrev Y64:=N_ o62 (N_ o78 (L_ vw) (L_ za)) (N_ o94 (L_ za) (L_ vT))
abbrev Y63:=N_ o60 (N_ o76 (L_ w_) (L_ uS)) (N_ o92 (L_ zh) (L_ vk))
abbrev Y62:=N_ za (N_ o77 (L_ wy) (L_ uR)) (N_ za (L_ ub) (L_ vU))
abbrev Y61:=N_ zc (N_ za (L_ va) (L_ zc)) (N_ o91 (L_ zm) (L_ vm))
abbrev Y60:=N_ za (N_ za (L_ z4) (L_ zc)) (N_ mr (L_ za) (L_ XQ))
abbrev Y59:=N_ za (N_ rg (L_ ko) (L_ iZ)) (N_ za (L_ gf) (L_ ak))
abbrev Y58:=N_ zh (N_ qU (L_ ku) (L_ eV)) (N_ mt (L_ zc) (L_ aq))
abbrev Y57:=N_ w8 (N_ zh (L_ km) (L_ za)) (N_ oK (L_ gd) (L_ XO))
abbrev Y56:=N_ vv (N_ tX (L_ kq) (L_ za)) (N_ zc (L_ gh) (L_ ao))
abbrev Y55:=N_ ud (N_ qT (L_ kr) (L_ za)) (N_ ky (L_ gi) (L_ za))
abbrev Y54:=N_ vq (N_ rd (L_ za) (L_ zc)) (N_ oJ (L_ e9) (L_ XN))
abbrev Y53:=N_ vt (N_ rh (L_ za) (L_ eU)) (N_ oM (L_ gg) (L_ al))
abbrev Y52:=N_ w9 (N_ zm (L_ kn) (L_ iY)) (N_ mq (L_ ge) (L_ aj))
abbrev Y51:=N_ zc (N_ tY (L_ zh) (L_ i0)) (N_ za (L_ db) (L_ ap))
abbrev Y50:=N_ o56 UG (N_ o88 (L_ w8) (L_ vo))
abbrev Y49:=N_ o55 Us (N_ zh (L_ w9) (L_ zc))
abbrev Y48:=N_ za Ul (N_ zc (L_ uc) (L_ za))
abbrev Y47:=N_ o57 UI (N_ za (L_ vq) (L_ vn))
abbrev Y46:=N_ o53 Ur Uy
abbrev Y45:=N_ za Uo Uu
abbrev Y44:=N_ za Ut Uz
abbrev Y43:=N_ o64 UM UC
abbrev Y42:=N_ za Ux UE
abbrev Y41:=N_ zc UH Uw
abbrev Y40:=N_ zc UK UA
abbrev Y39:=N_ o62 Rb UB
abbrev Y38:=N_ o60 Re UD
abbrev Y37:=N_ za Rh UP
abbrev Y36:=N_ zc Ry UF
abbrev Y35:=N_ za (N_ qO (N_ n4 (L_ XE) Z_) (N_ za (L_ YK) Z_)) (N_ zc (N_ za (L_ Xm) Z_) (L_ zc))
abbrev Y34:=N_ za (N_ za (N_ z4 (L_ bS) Z_) (N_ zc (L_ Vn) Z_)) Sj
abbrev Y33:=N_ uc (N_ za xL (N_ iX (L_ YO) Z_)) Sm
abbrev Y32:=N_ za (N_ za (N_ n6 (L_ za) Z_) (N_ iV (L_ YM) Z_)) (N_ mo rV (L_ ah))
abbrev Y31:=N_ za (N_ rg (N_ ko (L_ bQ) Z_) (N_ iZ (L_ zc) Z_)) Ss
abbrev Y30:=N_ ua (N_ rc (N_ za (L_ bM) Z_) (N_ zc (L_ Vl) Z_)) (N_ mm (N_ h_ (L_ za) Z_) (L_ af))
abbrev Y29:=N_ w8 (N_ zh (N_ km (L_ zc) Z_) zZ) Sy
abbrev Y28:=N_ zh (N_ qS (N_ za (L_ bO) Z_) (N_ eT (L_ za) Z_)) SB
abbrev Y27:=N_ vv (N_ tX (N_ kq (L_ XG) Z_) (N_ za (L_ YR) Z_)) SE
abbrev Y26:=N_ v9 (N_ qP xL (N_ iU (L_ YL) Z_)) (N_ za (N_ h8 (L_ Vv) Z_) (L_ za))
abbrev Y25:=N_ ud (N_ qT (N_ kr (L_ zc) Z_) zZ) SI
abbrev Y24:=N_ vq (N_ rd (N_ za (L_ bP) Z_) (N_ zc (L_ Vm) Z_)) SK
abbrev Y23:=N_ ub (N_ qR (N_ kl (L_ bN) Z_) (N_ iW (L_ zc) Z_)) (N_ za (N_ gc (L_ za) Z_) (L_ za))
abbrev Y22:=N_ vt (N_ rh (N_ za (L_ bR) Z_) (N_ eU (L_ za) Z_)) SQ
abbrev Y21:=N_ zc (N_ qQ (N_ n5 (L_ zc) Z_) zZ) (N_ mn (N_ gb (L_ Xn) Z_) (L_ ag))
abbrev Y20:=N_ w9 (N_ zm (N_ kn (L_ za) Z_) (N_ iY (L_ YQ) Z_)) SV
abbrev Y19:=N_ zm (N_ zc (N_ n8 (L_ XF) Z_) (N_ za (L_ YN) Z_)) SZ
abbrev Y18:=N_ zc (N_ tY Zf (N_ i0 (L_ YS) Z_)) S2
abbrev Y17:=N_ vZ (N_ zm (N_ za (L_ bL) Z_) (N_ eS (L_ za) Z_)) (N_ oI (N_ zc (L_ Xl) Z_) (L_ eA))
abbrev Y16:=N_ o56 Rv (N_ o88 (N_ w8 (L_ zh) Z_) (N_ vo (L_ tV) Z_))
abbrev Y15:=N_ o55 Rj (N_ zh (N_ w9 (L_ zm) Z_) (N_ zc (L_ tW) Z_))
abbrev Y14:=N_ za Ra RA
abbrev Y13:=N_ o57 Rw (N_ za (N_ vq (L_ rd) Z_) (N_ vn (L_ s8) Z_))
abbrev Y12:=N_ o74 (N_ za (N_ qV (N_ md (L_ bW) Z_) (N_ z4 (L_ za) Z_)) Sn) (N_ za (N_ za (N_ za (L_ bI) Z_) (N_ eP (L_ za) Z_)) (N_ oF (N_ zc (L_ Xi) Z_) (L_ f_)))
abbrev Y11:=N_ o78 (N_ vw (N_ za (N_ n_ (L_ XI) Z_) (N_ eX (L_ za) Z_)) Sq) (N_ za (N_ qJ (N_ nV (L_ bG) Z_) (N_ za (L_ Vj) Z_)) (N_ oC (N_ lX (L_ za) Z_) (L_ fY)))
abbrev Y10:=N_ o70 (N_ za (N_ za (N_ mh (L_ bY) Z_) (N_ i7 (L_ YX) Z_)) Su) (N_ uU (N_ za (N_ nZ (L_ zc) Z_) (N_ iR (L_ za) Z_)) (N_ oH (N_ hZ (L_ Xk) Z_) (L_ eo)))
abbrev Y9:=N_ o76 (N_ w_ (N_ zh (N_ ma (L_ bU) Z_) (N_ eY (L_ YV) Z_)) SC) (N_ uS (N_ ra (N_ nX (L_ za) Z_) (N_ zh (L_ YG) Z_)) (N_ mj rV (L_ ad)))
abbrev Y8:=N_ o77 (N_ wy (N_ tZ (N_ ai (L_ bT) Z_) (N_ za (L_ YU) Z_)) SN) (N_ uR (N_ qK (N_ nW (L_ zc) Z_) (N_ eO (L_ za) Z_)) (N_ oE (N_ hW (L_ Xh) Z_) (L_ fZ)))
abbrev Y7:=N_ o69 (N_ vz (N_ qX mW (N_ i8 (L_ YY) Z_)) SR) (N_ uV (N_ qN (N_ n0 (L_ za) Z_) (N_ iS (L_ YJ) Z_)) (N_ ml rV (L_ ae)))
abbrev Y6:=N_ o71 (N_ zc (N_ rk zZ (N_ i6 (L_ za) Z_)) SW) (N_ zm (N_ zc (N_ za (L_ bJ) Z_) (N_ iQ (L_ Vk) Z_)) (N_ oG (N_ l4 (L_ za) Z_) (L_ eh)))
abbrev Y5:=N_ zc (N_ zh (N_ qU (N_ ku (L_ za) Z_) (N_ eV (L_ YT) Z_)) Sw) (N_ vX (N_ zh (N_ nS (L_ XC) Z_) (N_ eM (L_ YE) Z_)) (N_ zc (N_ za (L_ Xg) Z_) (L_ zc)))
abbrev Y4:=N_ za (N_ vy (N_ rj (N_ kv (L_ XJ) Z_) (N_ e7 (L_ zc) Z_)) Sz) (N_ zh (N_ qM xL (N_ iP (L_ YI) Z_)) (N_ za (N_ lZ (L_ Vu) Z_) (L_ za)))
abbrev Y3:=N_ za (N_ zh (N_ qY zZ (N_ i9 (L_ Vp) Z_)) SF) (N_ vY (N_ zh (N_ kj (L_ bK) Z_) (N_ iT (L_ zc) Z_)) (N_ za (N_ l5 (L_ za) Z_) (L_ za)))
abbrev Y2:=N_ zc (N_ vx (N_ qW (N_ mf (L_ bX) Z_) (N_ eZ (L_ YW) Z_)) SL) (N_ uT (N_ qL (N_ nY (L_ XD) Z_) (N_ eQ (L_ YH) Z_)) (N_ zc (N_ za (L_ Xj) Z_) (L_ zc)))
abbrev Y1:=N_ za (N_ zm (N_ zc (N_ n9 (L_ XH) Z_) (N_ eW (L_ zc) Z_)) ST) (N_ uQ (N_ zm (N_ nU (L_ za) Z_) (N_ eN (L_ YF) Z_)) (N_ za (N_ lW (L_ Vs) Z_) (L_ za)))
abbrev Y0:=N_ za (N_ va (N_ zm (N_ za (L_ bV) Z_) (N_ zh (L_ Vo) Z_)) S0) (N_ zc (N_ rb (N_ ki (L_ bH) Z_) (N_ z4 (L_ zc) Z_)) (N_ za (N_ lY (L_ za) Z_) (L_ za)))
def myAs:List Nat:=((nat_lit 2) :: (nat_lit 3) :: (nat_lit 15) :: (nat_lit 17) :: (nat_lit 18) :: (nat_lit 20) :: (nat_lit 21) :: (nat_lit 22) :: (nat_lit 24) :: (nat_lit 25) :: (nat_lit 27) :: (nat_lit 28) :: (nat_lit 29) :: (nat_lit 31) :: (nat_lit 32) :: (nat_lit 34) :: (nat_lit 35) :: (nat_lit 36) :: (nat_lit 38) :: (nat_lit 39) :: (nat_lit 41) :: (nat_lit 42) :: (nat_lit 43) :: (nat_lit 45) :: (nat_lit 46) :: (nat_lit 48) :: (nat_lit 49) :: (nat_lit 50) :: (nat_lit 57) :: (nat_lit 58) :: (nat_lit 59) :: (nat_lit 60) :: (nat_lit 63) :: (nat_lit 70) :: (nat_lit 71) :: (nat_lit 72) :: (nat_lit 75) :: (nat_lit 82) :: (nat_lit 83) :: (nat_lit 84) :: (nat_lit 87) :: (nat_lit 94) :: (nat_lit 95) :: (nat_lit 96) :: (nat_lit 99) :: (nat_lit 106) :: (nat_lit 107) :: (nat_lit 108) :: (nat_lit 111) :: (nat_lit 118) :: (nat_lit 119) :: (nat_lit 120) :: (nat_lit 123) :: (nat_lit 130) :: (nat_lit 131) :: (nat_lit 132) :: (nat_lit 135) :: (nat_lit 142) :: (nat_lit 143) :: (nat_lit 144) :: (nat_lit 147) :: (nat_lit 154) :: (nat_lit 155) :: (nat_lit 156) :: (nat_lit 159) :: (nat_lit 166) :: (nat_lit 167) :: (nat_lit 168) :: (nat_lit 171) :: (nat_lit 178) :: (nat_lit 179) :: (nat_lit 180) :: (nat_lit 183) :: (nat_lit 190) :: (nat_lit 191) :: (nat_lit 192) :: (nat_lit 195) :: (nat_lit 202) :: (nat_lit 203) :: (nat_lit 204) :: (nat_lit 207) :: (nat_lit 209) :: (nat_lit 210) :: (nat_lit 212) :: (nat_lit 213) :: (nat_lit 221) :: (nat_lit 223) :: (nat_lit 224) :: (nat_lit 226) :: (nat_lit 227) :: (nat_lit 228) :: (nat_lit 230) :: (nat_lit 231) :: (nat_lit 233) :: (nat_lit 234) :: (nat_lit 235) :: (nat_lit 237) :: (nat_lit 238) :: (nat_lit 240) :: (nat_lit 241) :: (nat_lit 242) :: (nat_lit 244) :: (nat_lit 245) :: (nat_lit 247) :: (nat_lit 248) :: (nat_lit 249) :: (nat_lit 251) :: (nat_lit 252) :: (nat_lit 254) :: (nat_lit 255) :: (nat_lit 256) :: (nat_lit 258) :: (nat_lit 259) :: (nat_lit 261) :: (nat_lit 262) :: (nat_lit 263) :: (nat_lit 264) :: (nat_lit 265) :: (nat_lit 266) :: (nat_lit 267) :: (nat_lit 270) :: (nat_lit 277) :: (nat_lit 279) :: (nat_lit 280) :: (nat_lit 282) :: (nat_lit 283) :: (nat_lit 284) :: (nat_lit 286) :: (nat_lit 287) :: (nat_lit 289) :: (nat_lit 290) :: (nat_lit 291) :: (nat_lit 293) :: (nat_lit 294) :: (nat_lit 296) :: (nat_lit 297) :: (nat_lit 298) :: (nat_lit 299) :: (nat_lit 300) :: (nat_lit 303) :: (nat_lit 310) :: (nat_lit 312) :: (nat_lit 313) :: (nat_lit 315) :: (nat_lit 316) :: (nat_lit 317) :: (nat_lit 319) :: (nat_lit 320) :: (nat_lit 322) :: (nat_lit 323) :: (nat_lit 324) :: (nat_lit 326) :: (nat_lit 327) :: (nat_lit 329) :: (nat_lit 330) :: (nat_lit 331) :: (nat_lit 333) :: (nat_lit 334) :: (nat_lit 336) :: (nat_lit 337) :: (nat_lit 338) :: (nat_lit 339) :: (nat_lit 340) :: (nat_lit 343) :: (nat_lit 350) :: (nat_lit 352) :: (nat_lit 353) :: (nat_lit 355) :: (nat_lit 356) :: (nat_lit 357) :: (nat_lit 359) :: (nat_lit 360) :: (nat_lit 362) :: (nat_lit 363) :: (nat_lit 364) :: (nat_lit 366) :: (nat_lit 367) :: (nat_lit 369) :: (nat_lit 370) :: (nat_lit 371) :: (nat_lit 373) :: (nat_lit 374) :: (nat_lit 376) :: (nat_lit 377) :: (nat_lit 378) :: (nat_lit 380) :: (nat_lit 381) :: (nat_lit 383) :: (nat_lit 384) :: (nat_lit 385) :: (nat_lit 386) :: (nat_lit 387) :: (nat_lit 390) :: (nat_lit 397) :: (nat_lit 399) :: (nat_lit 400) :: (nat_lit 402) :: (nat_lit 403) :: (nat_lit 404) :: (nat_lit 406) :: (nat_lit 407) :: (nat_lit 409) :: (nat_lit 410) :: (nat_lit 411) :: (nat_lit 413) :: (nat_lit 414) :: (nat_lit 416) :: (nat_lit 417) :: (nat_lit 418) :: (nat_lit 419) :: (nat_lit 420) :: (nat_lit 423) :: (nat_lit 430) :: (nat_lit 432) :: (nat_lit 433) :: (nat_lit 435) :: (nat_lit 436) :: (nat_lit 437) :: (nat_lit 439) :: (nat_lit 440) :: (nat_lit 442) :: (nat_lit 443) :: (nat_lit 444) :: (nat_lit 446) :: (nat_lit 447) :: (nat_lit 449) :: (nat_lit 450) :: (nat_lit 451) :: (nat_lit 453) :: (nat_lit 454) :: (nat_lit 456) :: (nat_lit 457) :: (nat_lit 458) :: (nat_lit 460) :: (nat_lit 461) :: (nat_lit 463) :: (nat_lit 464) :: (nat_lit 465) :: (nat_lit 466) :: (nat_lit 467) :: (nat_lit 470) :: (nat_lit 477) :: (nat_lit 479) :: (nat_lit 480) :: (nat_lit 482) :: (nat_lit 483) :: (nat_lit 484) :: (nat_lit 486) :: (nat_lit 487) :: (nat_lit 489) :: (nat_lit 490) :: (nat_lit 491) :: (nat_lit 493) :: (nat_lit 494) :: (nat_lit 496) :: (nat_lit 497) :: (nat_lit 498) :: (nat_lit 500) :: (nat_lit 501) :: (nat_lit 503) :: (nat_lit 504) :: (nat_lit 505) :: (nat_lit 507) :: (nat_lit 508) :: (nat_lit 510) :: (nat_lit 511) :: (nat_lit 512) :: (nat_lit 514) :: (nat_lit 515) :: (nat_lit 517) :: (nat_lit 518) :: (nat_lit 519) :: (nat_lit 520) :: (nat_lit 521) :: (nat_lit 524) :: (nat_lit 526) :: (nat_lit 527) :: (nat_lit 529) :: (nat_lit 530) :: (nat_lit 531) :: (nat_lit 533) :: (nat_lit 534) :: (nat_lit 536) :: (nat_lit 537) :: (nat_lit 538) :: (nat_lit 540) :: (nat_lit 541) :: (nat_lit 543) :: (nat_lit 544) :: (nat_lit 545) :: (nat_lit 547) :: (nat_lit 548) :: (nat_lit 550) :: (nat_lit 551) :: (nat_lit 552) :: (nat_lit 554) :: (nat_lit 555) :: (nat_lit 557) :: (nat_lit 558) :: (nat_lit 559) :: (nat_lit 561) :: (nat_lit 562) :: (nat_lit 564) :: (nat_lit 565) :: (nat_lit 566) :: (nat_lit 568) :: (nat_lit 569) :: (nat_lit 571) :: (nat_lit 572) :: (nat_lit 573) :: (nat_lit 575) :: (nat_lit 576) :: (nat_lit 578) :: (nat_lit 579) :: (nat_lit 580) :: (nat_lit 582) :: (nat_lit 583) :: (nat_lit 585) :: (nat_lit 586) :: (nat_lit 587) :: (nat_lit 589) :: (nat_lit 590) :: (nat_lit 592) :: (nat_lit 593) :: (nat_lit 594) :: (nat_lit 596) :: (nat_lit 597) :: (nat_lit 599) :: (nat_lit 600) :: (nat_lit 601) :: (nat_lit 603) :: (nat_lit 604) :: (nat_lit 606) :: (nat_lit 607) :: (nat_lit 608) :: (nat_lit 610) :: (nat_lit 611) :: (nat_lit 613) :: (nat_lit 614) :: (nat_lit 615) :: (nat_lit 617) :: (nat_lit 618) :: (nat_lit 620) :: (nat_lit 621) :: (nat_lit 622) :: (nat_lit 624) :: (nat_lit 625) :: (nat_lit 627) :: (nat_lit 628) :: (nat_lit 629) :: (nat_lit 631) :: (nat_lit 632) :: (nat_lit 634) :: (nat_lit 635) :: (nat_lit 636) :: (nat_lit 638) :: (nat_lit 639) :: (nat_lit 641) :: (nat_lit 642) :: (nat_lit 643) :: (nat_lit 645) :: (nat_lit 646) :: (nat_lit 648) :: (nat_lit 649) :: (nat_lit 650) :: (nat_lit 652) :: (nat_lit 653) :: (nat_lit 655) :: (nat_lit 656) :: (nat_lit 657) :: (nat_lit 659) :: (nat_lit 660) :: (nat_lit 662) :: (nat_lit 663) :: (nat_lit 664) :: (nat_lit 666) :: (nat_lit 667) :: (nat_lit 669) :: (nat_lit 670) :: (nat_lit 671) :: (nat_lit 673) :: (nat_lit 674) :: (nat_lit 676) :: (nat_lit 677) :: (nat_lit 678) :: (nat_lit 680) :: (nat_lit 681) :: (nat_lit 683) :: (nat_lit 684) :: (nat_lit 685) :: (nat_lit 688) :: (nat_lit 689) :: (nat_lit 690) :: (nat_lit 692) :: (nat_lit 693) :: (nat_lit 695) :: (nat_lit 696) :: (nat_lit 697) :: (nat_lit 699) :: (nat_lit 700) :: (nat_lit 702) :: (nat_lit 703) :: [])
def h_heap_39:PySem.Params→PySem.W.Frag:=fun x=>
(nat_lit 2,(@W.boot_o_2 x)) ::
(nat_lit 3,(YD x)) ::
(nat_lit 15,(za x)) ::
(nat_lit 17,(o53 x)) ::
(nat_lit 18,(za x)) ::
(nat_lit 20,(o56 x)) ::
(nat_lit 21,(o57 x)) ::
(nat_lit 22,(za x)) ::
(nat_lit 24,(o60 x)) ::
(nat_lit 25,(za x)) ::
(nat_lit 27,(o63 x)) ::
(nat_lit 28,(o64 x)) ::
(nat_lit 29,(za x)) ::
(nat_lit 31,(o67 x)) ::
(nat_lit 32,(za x)) ::
(nat_lit 34,(o70 x)) ::
(nat_lit 35,(o71 x)) ::
(nat_lit 36,(za x)) ::
(nat_lit 38,(o74 x)) ::
(nat_lit 39,(za x)) ::
(nat_lit 41,(o77 x)) ::
(nat_lit 42,(o78 x)) ::
(nat_lit 43,(za x)) ::
(nat_lit 45,(o81 x)) ::
(nat_lit 46,(za x)) ::
(nat_lit 48,(o84 x)) ::
(nat_lit 49,(o85 x)) ::
(nat_lit 50,(o86 x)) ::
(nat_lit 57,(za x)) ::
(nat_lit 58,(o94 x)) ::
(nat_lit 59,(uP x)) ::
(nat_lit 60,(o96 x)) ::
(nat_lit 63,(zm x)) ::
(nat_lit 70,(za x)) ::
(nat_lit 71,(va x)) ::
(nat_lit 72,(w_ x)) ::
(nat_lit 75,(zm x)) ::
(nat_lit 82,(za x)) ::
(nat_lit 83,(w9 x)) ::
(nat_lit 84,(w8 x)) ::
(nat_lit 87,(zm x)) ::
(nat_lit 94,(za x)) ::
(nat_lit 95,(vZ x)) ::
(nat_lit 96,(vY x)) ::
(nat_lit 99,(zm x)) ::
(nat_lit 106,(za x)) ::
(nat_lit 107,(uQ x)) ::
(nat_lit 108,(vX x)) ::
(nat_lit 111,(zm x)) ::
(nat_lit 118,(za x)) ::
(nat_lit 119,(vm x)) ::
(nat_lit 120,(vk x)) ::
(nat_lit 123,(zm x)) ::
(nat_lit 130,(za x)) ::
(nat_lit 131,(rk x)) ::
(nat_lit 132,(rj x)) ::
(nat_lit 135,(zm x)) ::
(nat_lit 142,(za x)) ::
(nat_lit 143,(tY x)) ::
(nat_lit 144,(tX x)) ::
(nat_lit 147,(zm x)) ::
(nat_lit 154,(za x)) ::
(nat_lit 155,(qQ x)) ::
(nat_lit 156,(rc x)) ::
(nat_lit 159,(zm x)) ::
(nat_lit 166,(za x)) ::
(nat_lit 167,(rb x)) ::
(nat_lit 168,(ra x)) ::
(nat_lit 171,(zm x)) ::
(nat_lit 178,(za x)) ::
(nat_lit 179,(tW x)) ::
(nat_lit 180,(tV x)) ::
(nat_lit 183,(zm x)) ::
(nat_lit 190,(za x)) ::
(nat_lit 191,(qD x)) ::
(nat_lit 192,(oO x)) ::
(nat_lit 195,(zm x)) ::
(nat_lit 202,(za x)) ::
(nat_lit 203,(oN x)) ::
(nat_lit 204,(mt x)) ::
(nat_lit 207,(za x)) ::
(nat_lit 209,(oM x)) ::
(nat_lit 210,(za x)) ::
(nat_lit 212,(oK x)) ::
(nat_lit 213,(oJ x)) ::
(nat_lit 221,(za x)) ::
(nat_lit 223,(oI x)) ::
(nat_lit 224,(za x)) ::
(nat_lit 226,(oH x)) ::
(nat_lit 227,(oG x)) ::
(nat_lit 228,(za x)) ::
(nat_lit 230,(oF x)) ::
(nat_lit 231,(za x)) ::
(nat_lit 233,(oE x)) ::
(nat_lit 234,(oC x)) ::
(nat_lit 235,(za x)) ::
(nat_lit 237,(oB x)) ::
(nat_lit 238,(za x)) ::
(nat_lit 240,(qB x)) ::
(nat_lit 241,(qA x)) ::
(nat_lit 242,(za x)) ::
(nat_lit 244,(qz x)) ::
(nat_lit 245,(za x)) ::
(nat_lit 247,(qy x)) ::
(nat_lit 248,(qx x)) ::
(nat_lit 249,(za x)) ::
(nat_lit 251,(qw x)) ::
(nat_lit 252,(za x)) ::
(nat_lit 254,(qv x)) ::
(nat_lit 255,(mi x)) ::
(nat_lit 256,(za x)) ::
(nat_lit 258,(mh x)) ::
(nat_lit 259,(za x)) ::
(nat_lit 261,(mf x)) ::
(nat_lit 262,(md x)) ::
(nat_lit 263,(za x)) ::
(nat_lit 264,(ma x)) ::
(nat_lit 265,(ai x)) ::
(nat_lit 266,(n_ x)) ::
(nat_lit 267,(n9 x)) ::
(nat_lit 270,(z4 x)) ::
(nat_lit 277,(za x)) ::
(nat_lit 279,(n8 x)) ::
(nat_lit 280,(za x)) ::
(nat_lit 282,(n6 x)) ::
(nat_lit 283,(n5 x)) ::
(nat_lit 284,(za x)) ::
(nat_lit 286,(n4 x)) ::
(nat_lit 287,(za x)) ::
(nat_lit 289,(n0 x)) ::
(nat_lit 290,(nZ x)) ::
(nat_lit 291,(za x)) ::
(nat_lit 293,(nY x)) ::
(nat_lit 294,(za x)) ::
(nat_lit 296,(nX x)) ::
(nat_lit 297,(nW x)) ::
(nat_lit 298,(nV x)) ::
(nat_lit 299,(nU x)) ::
(nat_lit 300,(nS x)) ::
(nat_lit 303,(z4 x)) ::
(nat_lit 310,(za x)) ::
(nat_lit 312,(nR x)) ::
(nat_lit 313,(za x)) ::
(nat_lit 315,(nQ x)) ::
(nat_lit 316,(nP x)) ::
(nat_lit 317,(za x)) ::
(nat_lit 319,(nO x)) ::
(nat_lit 320,(za x)) ::
(nat_lit 322,(l9 x)) ::
(nat_lit 323,(l8 x)) ::
(nat_lit 324,(za x)) ::
(nat_lit 326,(l7 x)) ::
(nat_lit 327,(za x)) ::
(nat_lit 329,(nN x)) ::
(nat_lit 330,(l6 x)) ::
(nat_lit 331,(za x)) ::
(nat_lit 333,(gi x)) ::
(nat_lit 334,(za x)) ::
(nat_lit 336,(gh x)) ::
(nat_lit 337,(gg x)) ::
(nat_lit 338,(gf x)) ::
(nat_lit 339,(ge x)) ::
(nat_lit 340,(gd x)) ::
(nat_lit 343,(z4 x)) ::
(nat_lit 350,(za x)) ::
(nat_lit 352,(l5 x)) ::
(nat_lit 353,(za x)) ::
(nat_lit 355,(l4 x)) ::
(nat_lit 356,(lZ x)) ::
(nat_lit 357,(za x)) ::
(nat_lit 359,(lY x)) ::
(nat_lit 360,(za x)) ::
(nat_lit 362,(lX x)) ::
(nat_lit 363,(lW x)) ::
(nat_lit 364,(za x)) ::
(nat_lit 366,(lV x)) ::
(nat_lit 367,(za x)) ::
(nat_lit 369,(lU x)) ::
(nat_lit 370,(lT x)) ::
(nat_lit 371,(za x)) ::
(nat_lit 373,(lS x)) ::
(nat_lit 374,(za x)) ::
(nat_lit 376,(lR x)) ::
(nat_lit 377,(lQ x)) ::
(nat_lit 378,(za x)) ::
(nat_lit 380,(lP x)) ::
(nat_lit 381,(za x)) ::
(nat_lit 383,(i_ x)) ::
(nat_lit 384,(i9 x)) ::
(nat_lit 385,(i8 x)) ::
(nat_lit 386,(i7 x)) ::
(nat_lit 387,(i6 x)) ::
(nat_lit 390,(z4 x)) ::
(nat_lit 397,(za x)) ::
(nat_lit 399,(i0 x)) ::
(nat_lit 400,(za x)) ::
(nat_lit 402,(iZ x)) ::
(nat_lit 403,(iY x)) ::
(nat_lit 404,(za x)) ::
(nat_lit 406,(iX x)) ::
(nat_lit 407,(za x)) ::
(nat_lit 409,(iW x)) ::
(nat_lit 410,(iV x)) ::
(nat_lit 411,(za x)) ::
(nat_lit 413,(iU x)) ::
(nat_lit 414,(za x)) ::
(nat_lit 416,(iT x)) ::
(nat_lit 417,(iS x)) ::
(nat_lit 418,(iR x)) ::
(nat_lit 419,(iQ x)) ::
(nat_lit 420,(iP x)) ::
(nat_lit 423,(z4 x)) ::
(nat_lit 430,(za x)) ::
(nat_lit 432,(iO x)) ::
(nat_lit 433,(za x)) ::
(nat_lit 435,(iN x)) ::
(nat_lit 436,(iM x)) ::
(nat_lit 437,(za x)) ::
(nat_lit 439,(iL x)) ::
(nat_lit 440,(za x)) ::
(nat_lit 442,(iK x)) ::
(nat_lit 443,(iJ x)) ::
(nat_lit 444,(za x)) ::
(nat_lit 446,(iI x)) ::
(nat_lit 447,(za x)) ::
(nat_lit 449,(eI x)) ::
(nat_lit 450,(eG x)) ::
(nat_lit 451,(za x)) ::
(nat_lit 453,(eE x)) ::
(nat_lit 454,(za x)) ::
(nat_lit 456,(eD x)) ::
(nat_lit 457,(eB x)) ::
(nat_lit 458,(za x)) ::
(nat_lit 460,(aq x)) ::
(nat_lit 461,(za x)) ::
(nat_lit 463,(ap x)) ::
(nat_lit 464,(ao x)) ::
(nat_lit 465,(al x)) ::
(nat_lit 466,(ak x)) ::
(nat_lit 467,(aj x)) ::
(nat_lit 470,(z4 x)) ::
(nat_lit 477,(za x)) ::
(nat_lit 479,(eA x)) ::
(nat_lit 480,(za x)) ::
(nat_lit 482,(eo x)) ::
(nat_lit 483,(eh x)) ::
(nat_lit 484,(za x)) ::
(nat_lit 486,(f_ x)) ::
(nat_lit 487,(za x)) ::
(nat_lit 489,(fZ x)) ::
(nat_lit 490,(fY x)) ::
(nat_lit 491,(za x)) ::
(nat_lit 493,(fX x)) ::
(nat_lit 494,(za x)) ::
(nat_lit 496,(fW x)) ::
(nat_lit 497,(fV x)) ::
(nat_lit 498,(za x)) ::
(nat_lit 500,(fU x)) ::
(nat_lit 501,(za x)) ::
(nat_lit 503,(fS x)) ::
(nat_lit 504,(fR x)) ::
(nat_lit 505,(za x)) ::
(nat_lit 507,(fQ x)) ::
(nat_lit 508,(za x)) ::
(nat_lit 510,(fP x)) ::
(nat_lit 511,(bZ x)) ::
(nat_lit 512,(za x)) ::
(nat_lit 514,(bY x)) ::
(nat_lit 515,(za x)) ::
(nat_lit 517,(bX x)) ::
(nat_lit 518,(bW x)) ::
(nat_lit 519,(bV x)) ::
(nat_lit 520,(bU x)) ::
(nat_lit 521,(bT x)) ::
(nat_lit 524,(za x)) ::
(nat_lit 526,(bS x)) ::
(nat_lit 527,(za x)) ::
(nat_lit 529,(bR x)) ::
(nat_lit 530,(bQ x)) ::
(nat_lit 531,(za x)) ::
(nat_lit 533,(bP x)) ::
(nat_lit 534,(za x)) ::
(nat_lit 536,(bO x)) ::
(nat_lit 537,(bN x)) ::
(nat_lit 538,(za x)) ::
(nat_lit 540,(bM x)) ::
(nat_lit 541,(za x)) ::
(nat_lit 543,(bL x)) ::
(nat_lit 544,(bK x)) ::
(nat_lit 545,(za x)) ::
(nat_lit 547,(bJ x)) ::
(nat_lit 548,(za x)) ::
(nat_lit 550,(bI x)) ::
(nat_lit 551,(bH x)) ::
(nat_lit 552,(za x)) ::
(nat_lit 554,(bG x)) ::
(nat_lit 555,(za x)) ::
(nat_lit 557,(bF x)) ::
(nat_lit 558,(bE x)) ::
(nat_lit 559,(za x)) ::
(nat_lit 561,(bD x)) ::
(nat_lit 562,(za x)) ::
(nat_lit 564,(bC x)) ::
(nat_lit 565,(bB x)) ::
(nat_lit 566,(za x)) ::
(nat_lit 568,(bA x)) ::
(nat_lit 569,(za x)) ::
(nat_lit 571,(bz x)) ::
(nat_lit 572,(bx x)) ::
(nat_lit 573,(za x)) ::
(nat_lit 575,(bw x)) ::
(nat_lit 576,(za x)) ::
(nat_lit 578,(Xz x)) ::
(nat_lit 579,(Xy x)) ::
(nat_lit 580,(za x)) ::
(nat_lit 582,(Xx x)) ::
(nat_lit 583,(za x)) ::
(nat_lit 585,(Xw x)) ::
(nat_lit 586,(Xv x)) ::
(nat_lit 587,(za x)) ::
(nat_lit 589,(Xu x)) ::
(nat_lit 590,(za x)) ::
(nat_lit 592,(Xs x)) ::
(nat_lit 593,(Xr x)) ::
(nat_lit 594,(za x)) ::
(nat_lit 596,(Xq x)) ::
(nat_lit 597,(za x)) ::
(nat_lit 599,(Xp x)) ::
(nat_lit 600,(Xo x)) ::
(nat_lit 601,(za x)) ::
(nat_lit 603,(Xn x)) ::
(nat_lit 604,(za x)) ::
(nat_lit 606,(Xm x)) ::
(nat_lit 607,(Xl x)) ::
(nat_lit 608,(za x)) ::
(nat_lit 610,(Xk x)) ::
(nat_lit 611,(za x)) ::
(nat_lit 613,(Xj x)) ::
(nat_lit 614,(Xi x)) ::
(nat_lit 615,(za x)) ::
(nat_lit 617,(Xh x)) ::
(nat_lit 618,(za x)) ::
(nat_lit 620,(Xg x)) ::
(nat_lit 621,(Xf x)) ::
(nat_lit 622,(za x)) ::
(nat_lit 624,(Xe x)) ::
(nat_lit 625,(za x)) ::
(nat_lit 627,(Xd x)) ::
(nat_lit 628,(Xc x)) ::
(nat_lit 629,(za x)) ::
(nat_lit 631,(Xb x)) ::
(nat_lit 632,(za x)) ::
(nat_lit 634,(Xa x)) ::
(nat_lit 635,(Y_ x)) ::
(nat_lit 636,(za x)) ::
(nat_lit 638,(YZ x)) ::
(nat_lit 639,(za x)) ::
(nat_lit 641,(YY x)) ::
(nat_lit 642,(YX x)) ::
(nat_lit 643,(za x)) ::
(nat_lit 645,(YW x)) ::
(nat_lit 646,(za x)) ::
(nat_lit 648,(YV x)) ::
(nat_lit 649,(YU x)) ::
(nat_lit 650,(za x)) ::
(nat_lit 652,(YT x)) ::
(nat_lit 653,(za x)) ::
(nat_lit 655,(YS x)) ::
(nat_lit 656,(YR x)) ::
(nat_lit 657,(za x)) ::
(nat_lit 659,(YQ x)) ::
(nat_lit 660,(za x)) ::
(nat_lit 662,(YO x)) ::
(nat_lit 663,(YN x)) ::
(nat_lit 664,(za x)) ::
(nat_lit 666,(YM x)) ::
(nat_lit 667,(za x)) ::
(nat_lit 669,(YL x)) ::
(nat_lit 670,(YK x)) ::
(nat_lit 671,(za x)) ::
(nat_lit 673,(YJ x)) ::
(nat_lit 674,(za x)) ::
(nat_lit 676,(YI x)) ::
(nat_lit 677,(YH x)) ::
(nat_lit 678,(za x)) ::
(nat_lit 680,(YG x)) ::
(nat_lit 681,(za x)) ::
(nat_lit 683,(YF x)) ::
(nat_lit 684,(YE x)) ::
(nat_lit 685,(za x)) ::
(nat_lit 688,(YC x)) ::
(nat_lit 689,(YB x)) ::
(nat_lit 690,(za x)) ::
(nat_lit 692,(YA x)) ::
(nat_lit 693,(za x)) ::
(nat_lit 695,(Yz x)) ::
(nat_lit 696,(Yy x)) ::
(nat_lit 697,(za x)) ::
(nat_lit 699,(Yx x)) ::
(nat_lit 700,(za x)) ::
(nat_lit 702,(Yw x)) ::
(nat_lit 703,(Yv x)) :: []
def h_view_39:PySem.Program:={ PySem.Challenge.pw_oddbases_k52_moved_refused with main:={ PySem.Challenge.pw_oddbases_k52_moved_refused.main with body:=[My.top 1,My.top 2,My.top 3,My.top 4,My.top 5,My.top 7,My.top 8,My.top 9,My.top 10,My.top 11,My.top 12,My.top 13,My.top 14,My.top 15,My.top 16,My.top 17,My.top 18,My.top 19,My.top 21,My.top 22,My.top 23,My.top 24,My.top 25,My.top 26,My.top 27,My.top 28,My.top 30,My.top 31,My.top 33,My.top 34,My.top 36,My.top 37,My.top 38,My.top 39,My.top 40,My.top 41,My.top 42,My.top 44,My.top 45,My.top 47,My.top 48,My.top 49,My.top 50,My.top 51,My.top 52,My.top 53,My.top 54,My.top 55,My.top 56,My.top 57,My.top 58,My.top 59] } }
def xj:((x:@Params)→@Heap):=(fun x=>(@Heap.mk (@Array.mk @Obj ((@W.boot_o_0 x) :: (@W.boot_o_1 x) :: (@W.boot_o_2 x) :: (YD x) :: (@W.boot_o_4 x) :: (@W.boot_o_5 x) :: (@W.boot_o_6 x) :: (@W.boot_o_7 x) :: (@W.boot_o_8 x) :: (@W.boot_o_9 x) :: (@W.boot_o_10 x) :: (za x) :: (Vi x) :: (o45 x) :: (o46 x) :: (za x) :: (zc x) :: (o53 x) :: (za x) :: (o55 x) :: (o56 x) :: (o57 x) :: (za x) :: (zc x) :: (o60 x) :: (za x) :: (o62 x) :: (o63 x) :: (o64 x) :: (za x) :: (zc x) :: (o67 x) :: (za x) :: (o69 x) :: (o70 x) :: (o71 x) :: (za x) :: (zc x) :: (o74 x) :: (za x) :: (o76 x) :: (o77 x) :: (o78 x) :: (za x) :: (zc x) :: (o81 x) :: (za x) :: (o83 x) :: (o84 x) :: (o85 x) :: (o86 x) :: (zh x) :: (o88 x) :: (za x) :: (zc x) :: (o91 x) :: (o92 x) :: (za x) :: (o94 x) :: (uP x) :: (o96 x) :: (o97 x) :: (o98 x) :: (zm x) :: (zh x) :: (vz x) :: (za x) :: (zc x) :: (vy x) :: (vx x) :: (za x) :: (va x) :: (w_ x) :: (wy x) :: (vw x) :: (zm x) :: (zh x) :: (ud x) :: (za x) :: (zc x) :: (vv x) :: (vt x) :: (za x) :: (w9 x) :: (w8 x) :: (vq x) :: (uc x) :: (zm x) :: (zh x) :: (ub x) :: (za x) :: (zc x) :: (ua x) :: (v9 x) :: (za x) :: (vZ x) :: (vY x) :: (uV x) :: (uU x) :: (zm x) :: (zh x) :: (uT x) :: (za x) :: (zc x) :: (uS x) :: (uR x) :: (za x) :: (uQ x) :: (vX x) :: (vW x) :: (vV x) :: (zm x) :: (zh x) :: (vp x) :: (za x) :: (zc x) :: (vo x) :: (vn x) :: (za x) :: (vm x) :: (vk x) :: (vU x) :: (vT x) :: (zm x) :: (zh x) :: (vS x) :: (za x) :: (zc x) :: (qY x) :: (qX x) :: (za x) :: (rk x) :: (rj x) :: (qW x) :: (qV x) :: (zm x) :: (zh x) :: (tZ x) :: (za x) :: (zc x) :: (qU x) :: (qT x) :: (za x) :: (tY x) :: (tX x) :: (rh x) :: (rg x) :: (zm x) :: (zh x) :: (rd x) :: (za x) :: (zc x) :: (qS x) :: (qR x) :: (za x) :: (qQ x) :: (rc x) :: (qP x) :: (qO x) :: (zm x) :: (zh x) :: (qN x) :: (za x) :: (zc x) :: (qM x) :: (qL x) :: (za x) :: (rb x) :: (ra x) :: (qK x) :: (qJ x) :: (zm x) :: (zh x) :: (qI x) :: (za x) :: (zc x) :: (s_ x) :: (s9 x) :: (za x) :: (tW x) :: (tV x) :: (s8 x) :: (qH x) :: (zm x) :: (zh x) :: (qG x) :: (za x) :: (zc x) :: (qF x) :: (qE x) :: (za x) :: (qD x) :: (oO x) :: (mz x) :: (mx x) :: (zm x) :: (zh x) :: (mw x) :: (za x) :: (zc x) :: (mv x) :: (qC x) :: (za x) :: (oN x) :: (mt x) :: (ky x) :: (mr x) :: (za x) :: (zc x) :: (oM x) :: (za x) :: (mq x) :: (oK x) :: (oJ x) :: (za x) :: (zh x) :: (kx x) :: (za x) :: (mo x) :: (mn x) :: (mm x) :: (za x) :: (zc x) :: (oI x) :: (za x) :: (ml x) :: (oH x) :: (oG x) :: (za x) :: (zc x) :: (oF x) :: (za x) :: (mj x) :: (oE x) :: (oC x) :: (za x) :: (zc x) :: (oB x) :: (za x) :: (oA x) :: (qB x) :: (qA x) :: (za x) :: (zc x) :: (qz x) :: (za x) :: (oz x) :: (qy x) :: (qx x) :: (za x) :: (zc x) :: (qw x) :: (za x) :: (oy x) :: (qv x) :: (mi x) :: (za x) :: (zc x) :: (mh x) :: (za x) :: (kv x) :: (mf x) :: (md x) :: (za x) :: (ma x) :: (ai x) :: (n_ x) :: (n9 x) :: (ku x) :: (kr x) :: (z4 x) :: (zh x) :: (kq x) :: (za x) :: (ko x) :: (kn x) :: (km x) :: (za x) :: (zc x) :: (n8 x) :: (za x) :: (kl x) :: (n6 x) :: (n5 x) :: (za x) :: (zc x) :: (n4 x) :: (za x) :: (kj x) :: (n0 x) :: (nZ x) :: (za x) :: (zc x) :: (nY x) :: (za x) :: (ki x) :: (nX x) :: (nW x) :: (nV x) :: (nU x) :: (nS x) :: (kh x) :: (kg x) :: (z4 x) :: (zh x) :: (kf x) :: (za x) :: (kd x) :: (kb x) :: (ka x) :: (za x) :: (zc x) :: (nR x) :: (za x) :: (l_ x) :: (nQ x) :: (nP x) :: (za x) :: (zc x) :: (nO x) :: (za x) :: (gk x) :: (l9 x) :: (l8 x) :: (za x) :: (zc x) :: (l7 x) :: (za x) :: (gj x) :: (nN x) :: (l6 x) :: (za x) :: (zc x) :: (gi x) :: (za x) :: (db x) :: (gh x) :: (gg x) :: (gf x) :: (ge x) :: (gd x) :: (e9 x) :: (e8 x) :: (z4 x) :: (zh x) :: (gc x) :: (za x) :: (gb x) :: (h_ x) :: (h8 x) :: (za x) :: (zc x) :: (l5 x) :: (za x) :: (hZ x) :: (l4 x) :: (lZ x) :: (za x) :: (zc x) :: (lY x) :: (za x) :: (hW x) :: (lX x) :: (lW x) :: (za x) :: (zc x) :: (lV x) :: (za x) :: (hV x) :: (lU x) :: (lT x) :: (za x) :: (zc x) :: (lS x) :: (za x) :: (hU x) :: (lR x) :: (lQ x) :: (za x) :: (zc x) :: (lP x) :: (za x) :: (hG x) :: (i_ x) :: (i9 x) :: (i8 x) :: (i7 x) :: (i6 x) :: (e7 x) :: (eZ x) :: (z4 x) :: (zh x) :: (eY x) :: (za x) :: (eX x) :: (eW x) :: (eV x) :: (za x) :: (zc x) :: (i0 x) :: (za x) :: (eU x) :: (iZ x) :: (iY x) :: (za x) :: (zc x) :: (iX x) :: (za x) :: (eT x) :: (iW x) :: (iV x) :: (za x) :: (zc x) :: (iU x) :: (za x) :: (eS x) :: (iT x) :: (iS x) :: (iR x) :: (iQ x) :: (iP x) :: (eQ x) :: (eP x) :: (z4 x) :: (zh x) :: (eO x) :: (za x) :: (eN x) :: (eM x) :: (eL x) :: (za x) :: (zc x) :: (iO x) :: (za x) :: (eK x) :: (iN x) :: (iM x) :: (za x) :: (zc x) :: (iL x) :: (za x) :: (eJ x) :: (iK x) :: (iJ x) :: (za x) :: (zc x) :: (iI x) :: (za x) :: (av x) :: (eI x) :: (eG x) :: (za x) :: (zc x) :: (eE x) :: (za x) :: (au x) :: (eD x) :: (eB x) :: (za x) :: (zc x) :: (aq x) :: (za x) :: (XQ x) :: (ap x) :: (ao x) :: (al x) :: (ak x) :: (aj x) :: (XO x) :: (XN x) :: (z4 x) :: (zh x) :: (XM x) :: (za x) :: (ah x) :: (ag x) :: (af x) :: (za x) :: (zc x) :: (eA x) :: (za x) :: (ae x) :: (eo x) :: (eh x) :: (za x) :: (zc x) :: (f_ x) :: (za x) :: (ad x) :: (fZ x) :: (fY x) :: (za x) :: (zc x) :: (fX x) :: (za x) :: (ac x) :: (fW x) :: (fV x) :: (za x) :: (zc x) :: (fU x) :: (za x) :: (aa x) :: (fS x) :: (fR x) :: (za x) :: (zc x) :: (fQ x) :: (za x) :: (b_ x) :: (fP x) :: (bZ x) :: (za x) :: (zc x) :: (bY x) :: (za x) :: (XJ x) :: (bX x) :: (bW x) :: (bV x) :: (bU x) :: (bT x) :: (XI x) :: (XH x) :: (za x) :: (zc x) :: (bS x) :: (za x) :: (XG x) :: (bR x) :: (bQ x) :: (za x) :: (zc x) :: (bP x) :: (za x) :: (XF x) :: (bO x) :: (bN x) :: (za x) :: (zc x) :: (bM x) :: (za x) :: (XE x) :: (bL x) :: (bK x) :: (za x) :: (zc x) :: (bJ x) :: (za x) :: (XD x) :: (bI x) :: (bH x) :: (za x) :: (zc x) :: (bG x) :: (za x) :: (XC x) :: (bF x) :: (bE x) :: (za x) :: (zc x) :: (bD x) :: (za x) :: (XB x) :: (bC x) :: (bB x) :: (za x) :: (zc x) :: (bA x) :: (za x) :: (XA x) :: (bz x) :: (bx x) :: (za x) :: (zc x) :: (bw x) :: (za x) :: (VA x) :: (Xz x) :: (Xy x) :: (za x) :: (zc x) :: (Xx x) :: (za x) :: (Vz x) :: (Xw x) :: (Xv x) :: (za x) :: (zc x) :: (Xu x) :: (za x) :: (Vy x) :: (Xs x) :: (Xr x) :: (za x) :: (zc x) :: (Xq x) :: (za x) :: (Vx x) :: (Xp x) :: (Xo x) :: (za x) :: (zc x) :: (Xn x) :: (za x) :: (Vv x) :: (Xm x) :: (Xl x) :: (za x) :: (zc x) :: (Xk x) :: (za x) :: (Vu x) :: (Xj x) :: (Xi x) :: (za x) :: (zc x) :: (Xh x) :: (za x) :: (Vs x) :: (Xg x) :: (Xf x) :: (za x) :: (zc x) :: (Xe x) :: (za x) :: (Vr x) :: (Xd x) :: (Xc x) :: (za x) :: (zc x) :: (Xb x) :: (za x) :: (Vq x) :: (Xa x) :: (Y_ x) :: (za x) :: (zc x) :: (YZ x) :: (za x) :: (Vp x) :: (YY x) :: (YX x) :: (za x) :: (zc x) :: (YW x) :: (za x) :: (Vo x) :: (YV x) :: (YU x) :: (za x) :: (zc x) :: (YT x) :: (za x) :: (Vn x) :: (YS x) :: (YR x) :: (za x) :: (zc x) :: (YQ x) :: (za x) :: (Vm x) :: (YO x) :: (YN x) :: (za x) :: (zc x) :: (YM x) :: (za x) :: (Vl x) :: (YL x) :: (YK x) :: (za x) :: (zc x) :: (YJ x) :: (za x) :: (Vk x) :: (YI x) :: (YH x) :: (za x) :: (zc x) :: (YG x) :: (za x) :: (Vj x) :: (YF x) :: (YE x) :: (za x) :: (zc x) :: (Vh x) :: (YC x) :: (YB x) :: (za x) :: (zc x) :: (YA x) :: (za x) :: (Vg x) :: (Yz x) :: (Yy x) :: (za x) :: (zc x) :: (Yx x) :: (za x) :: (Vf x) :: (Yw x) :: (Yv x) :: [])) (@Life.mk [] [] [] 0 (@List.nil (@Prod @Nat @Nat)) [] @Bool.false #[] [] 0 @Bool.false @Bool.false @Bool.false (0:Int) [(2000:Int),(10:Int),(10:Int)] @Bool.false 0 @Bool.true [] [] 0 @Bool.false)))
def zl:@Env:=(@Env.mk (@Module.scope (@Program.main ((@W.OpenRow.toRowW (@W.OpenLaw.row @Challenge.rw_oddbases_k52_moved_refused))).1)) @mainNs @mainNs (@List.nil (@Prod @Str @Addr)) @Str.empty (@Option.none @Addr) (r_ 13) (@some @Addr (@OfNat.ofNat @Addr 14 (@instOfNatNat 14))) (@OfNat.ofNat @Addr 0 (@instOfNatNat 0)))
def kE:=N_ W.boot_o_0 (N_ W.boot_o_1 (N_ YD (N_ W.boot_o_7 (N_ za (N_ o67 (N_ zm Qi (N_ qD (N_ nO (L_ bw) Z_) (N_ za (L_ Yv) Z_))) Y17) (N_ o83 Y18 (N_ zm (N_ zc (N_ z4 (L_ za) Z_) (N_ zc (L_ Vh) Z_)) S1))) (N_ zc Y0 (N_ o91 Y19 (N_ vm (N_ zm mW (N_ iL (L_ Yz) Z_)) SY)))) (N_ za (N_ o55 Y6 (N_ zh Y20 (N_ zc (N_ tW (N_ kd (L_ XB) Z_) (N_ iN (L_ zc) Z_)) SU))) (N_ o63 Y1 (N_ uP Y21 (N_ zm (N_ zc (N_ nQ (L_ bz) Z_) (N_ iJ (L_ Yx) Z_)) SS))))) (N_ W.boot_o_5 (N_ W.boot_o_9 (N_ o53 Y7 (N_ o85 Y22 (N_ vp (N_ s9 (N_ kf (L_ bD) Z_) (N_ za (L_ YB) Z_)) SO))) (N_ za Y8 (N_ za Y23 (N_ vU (N_ qG zZ (N_ eJ (L_ za) Z_)) SM)))) (N_ o45 (N_ o57 Y2 (N_ za Y24 (N_ vn (N_ s8 (N_ ka (L_ bB) Z_) zZ) SJ))) (N_ za (N_ o81 Y25 (N_ vW (N_ qI (N_ kh (L_ bF) Z_) (N_ eL (L_ za) Z_)) SH)) (N_ o97 Y26 (N_ vS (N_ qE zZ (N_ zc (L_ Vf) Z_)) SG)))))) (N_ W.boot_o_2 (N_ W.boot_o_4 (N_ W.boot_o_8 (N_ zc Y3 (N_ o84 Y27 (N_ zh (N_ s_ (N_ zh (L_ zc) Z_) (N_ iO (L_ YC) Z_)) SD))) (N_ o60 Y9 (N_ o92 Y28 (N_ vk (N_ zh (N_ nR (L_ bA) Z_) (N_ za (L_ Yy) Z_)) SA)))) (N_ Vi (N_ o56 Y4 (N_ o88 Y29 (N_ vo (N_ tV (N_ kb (L_ bC) Z_) (N_ iM (L_ YA) Z_)) Sx))) (N_ o64 Y5 (N_ o96 Y30 (N_ zh (N_ qF (N_ nP (L_ bx) Z_) zZ) Sv))))) (N_ W.boot_o_6 (N_ W.boot_o_10 (N_ za Y10 (N_ o86 Y31 (N_ za (N_ za zZ (N_ eK (L_ za) Z_)) Sr))) (N_ o62 Y11 (N_ o94 Y32 (N_ vT (N_ za (N_ l_ (L_ XA) Z_) (N_ iK (L_ zc) Z_)) So)))) (N_ o46 (N_ za Y12 (N_ zc Y33 (N_ za (N_ qH zZ (N_ zc (L_ Vg) Z_)) Sk))) (N_ zc (N_ za Y34 (N_ vV (N_ za (N_ kg (L_ bE) Z_) rV) Si)) (N_ o98 Y35 (N_ za (N_ za mW (N_ iI (L_ Yw) Z_)) Sh))))))
def y3:(@List @Stmt):=[My.top 57,My.top 58,My.top 59]
def kF:=N_ W.boot_o_0 (N_ W.boot_o_1 (N_ QJ (N_ W.boot_o_7 (N_ za (N_ o67 (N_ zm Qi Sg) Y17) (N_ o83 Y18 (N_ zm Sf S1))) (N_ zc Y0 (N_ o91 Y19 (N_ vm Se SY)))) (N_ za (N_ o55 Y6 (N_ zh Y20 (N_ zc Sd SU))) (N_ o63 Y1 (N_ uP Y21 (N_ zm Sc SS))))) (N_ W.boot_o_5 (N_ W.boot_o_9 (N_ o53 Y7 (N_ o85 Y22 (N_ vp Sb SO))) (N_ za Y8 (N_ za Y23 (N_ vU Sa SM)))) (N_ o45 (N_ o57 Y2 (N_ za Y24 (N_ vn T_ SJ))) (N_ za (N_ o81 Y25 (N_ vW T9 SH)) (N_ o97 Y26 (N_ vS T8 SG)))))) (N_ W.boot_o_2 (N_ W.boot_o_4 (N_ W.boot_o_8 (N_ zc Y3 (N_ o84 Y27 (N_ zh T7 SD))) (N_ o60 Y9 (N_ o92 Y28 (N_ vk T6 SA)))) (N_ QI (N_ o56 Y4 (N_ o88 Y29 (N_ vo T5 Sx))) (N_ o64 Y5 (N_ o96 Y30 (N_ zh T4 Sv))))) (N_ W.boot_o_6 (N_ W.boot_o_10 (N_ za Y10 (N_ o86 Y31 (N_ za T3 Sr))) (N_ o62 Y11 (N_ o94 Y32 (N_ vT T0 So)))) (N_ o46 (N_ za Y12 (N_ zc Y33 (N_ za TZ Sk))) (N_ zc (N_ za Y34 (N_ vV TY Si)) (N_ o98 Y35 (N_ za TX Sh))))))
def xC:(@List @Stmt):=[My.top 44,My.top 45,My.top 46,My.top 47,My.top 48,My.top 49,My.top 50,My.top 51,My.top 52,My.top 53,My.top 54,My.top 55,My.top 56]
def kG:=N_ W.boot_o_0 (N_ W.boot_o_1 (N_ QL (N_ W.boot_o_7 (N_ za (N_ o67 (N_ zm TW Sg) (N_ vZ (N_ zm (N_ za (L_ bL) Z_) (L_ eS)) (N_ oI (L_ zc) (L_ eA)))) (N_ o83 (N_ zc (N_ tY Zf (L_ i0)) S2) (N_ zm Sf (N_ oA (L_ za) (L_ ac))))) (N_ zc (N_ za (N_ va TV S0) (N_ zc (N_ rb (N_ ki (L_ bH) Z_) (L_ z4)) (N_ za (L_ lY) (L_ za)))) (N_ o91 (N_ zm (N_ zc (N_ n8 (L_ XF) Z_) (L_ za)) SZ) (N_ vm Se (N_ qy (L_ hU) (L_ fS)))))) (N_ za (N_ o55 (N_ o71 (N_ zc TU SW) (N_ zm (N_ zc (N_ za (L_ bJ) Z_) (L_ iQ)) (N_ oG (L_ l4) (L_ eh)))) (N_ zh (N_ w9 (N_ zm (N_ kn (L_ za) Z_) (L_ iY)) SV) (N_ zc Sd q8))) (N_ o63 (N_ za (N_ zm TR ST) (N_ uQ (N_ zm (N_ nU (L_ za) Z_) (L_ eN)) (N_ za (L_ lW) (L_ za)))) (N_ uP (N_ zc (N_ qQ (N_ n5 (L_ zc) Z_) (L_ za)) (N_ mn (L_ gb) (L_ ag))) (N_ zm Sc (N_ qw (L_ zc) (L_ fQ))))))) (N_ W.boot_o_5 (N_ W.boot_o_9 (N_ o53 (N_ o69 (N_ vz TQ SR) (N_ uV (N_ qN (N_ n0 (L_ za) Z_) (L_ iS)) (N_ ml (L_ za) (L_ ae)))) (N_ o85 (N_ vt (N_ rh (N_ za (L_ bR) Z_) (L_ eU)) SQ) (N_ vp Sb (N_ qA (L_ lU) (L_ fV))))) (N_ za (N_ o77 (N_ wy TN SN) (N_ uR (N_ qK (N_ nW (L_ zc) Z_) (L_ eO)) (N_ oE (L_ hW) (L_ fZ)))) (N_ za (N_ ub (N_ qR (N_ kl (L_ bN) Z_) (L_ iW)) (N_ za (L_ gc) (L_ za))) (N_ vU Sa (N_ za (L_ lQ) (L_ za)))))) (N_ o45 (N_ o57 (N_ zc (N_ vx TM SL) (N_ uT (N_ qL (N_ nY (L_ XD) Z_) (L_ eQ)) q8)) (N_ za (N_ vq (N_ rd (N_ za (L_ bP) Z_) (L_ zc)) SK) (N_ vn T_ (N_ za (L_ lS) (L_ za))))) (N_ za (N_ o81 (N_ ud (N_ qT (N_ kr (L_ zc) Z_) (L_ za)) SI) (N_ vW T9 (N_ oB (L_ zc) (L_ fX)))) (N_ o97 (N_ v9 (N_ qP xL (L_ iU)) (N_ za (L_ h8) (L_ za))) (N_ vS T8 (N_ oy (L_ za) (L_ b_)))))))) (N_ W.boot_o_2 (N_ W.boot_o_4 (N_ W.boot_o_8 (N_ zc (N_ za (N_ zh TL SF) (N_ vY (N_ zh (N_ kj (L_ bK) Z_) (L_ iT)) (N_ za (L_ l5) (L_ za)))) (N_ o84 (N_ vv (N_ tX (N_ kq (L_ XG) Z_) (L_ za)) SE) (N_ zh T7 (N_ qB (L_ hV) (L_ fW))))) (N_ o60 (N_ o76 (N_ w_ TK SC) (N_ uS (N_ ra (N_ nX (L_ za) Z_) (L_ zh)) (N_ mj (L_ za) (L_ ad)))) (N_ o92 (N_ zh (N_ qS (N_ za (L_ bO) Z_) (L_ eT)) SB) (N_ vk T6 (N_ qx (L_ lR) (L_ fR)))))) (N_ QK (N_ o56 (N_ za (N_ vy TJ Sz) (N_ zh (N_ qM xL (L_ iP)) (N_ za (L_ lZ) (L_ za)))) (N_ o88 (N_ w8 (N_ zh (N_ km (L_ zc) Z_) (L_ za)) Sy) (N_ vo T5 (N_ qz (L_ zc) (L_ fU))))) (N_ o64 (N_ zc (N_ zh (N_ qU (N_ ku (L_ za) Z_) (L_ eV)) Sw) (N_ vX (N_ zh (N_ nS (L_ XC) Z_) (L_ eM)) q8)) (N_ o96 (N_ ua (N_ rc (N_ za (L_ bM) Z_) (L_ zc)) (N_ mm (L_ h_) (L_ af))) (N_ zh T4 (N_ za (L_ lP) (L_ za))))))) (N_ W.boot_o_6 (N_ W.boot_o_10 (N_ za (N_ o70 (N_ za TH Su) (N_ uU (N_ za (N_ nZ (L_ zc) Z_) (L_ iR)) (N_ oH (L_ hZ) (L_ eo)))) (N_ o86 (N_ za (N_ rg (N_ ko (L_ bQ) Z_) (L_ iZ)) Ss) (N_ za T3 (N_ za (L_ lT) (L_ za))))) (N_ o62 (N_ o78 (N_ vw TF Sq) (N_ za (N_ qJ (N_ nV (L_ bG) Z_) (L_ za)) (N_ oC (L_ lX) (L_ fY)))) (N_ o94 (N_ za (N_ za (N_ n6 (L_ za) Z_) (L_ iV)) (N_ mo (L_ za) (L_ ah))) (N_ vT T0 q8)))) (N_ o46 (N_ za (N_ o74 (N_ za TD Sn) (N_ za (N_ za (N_ za (L_ bI) Z_) (L_ eP)) (N_ oF (L_ zc) (L_ f_)))) (N_ zc (N_ uc (N_ za xL (L_ iX)) Sm) (N_ za TZ (N_ oz (L_ za) (L_ aa))))) (N_ zc (N_ za (N_ za (N_ za (N_ z4 (L_ bS) Z_) (L_ zc)) Sj) (N_ vV TY (N_ za (L_ lV) (L_ za)))) (N_ o98 (N_ za (N_ qO (N_ n4 (L_ XE) Z_) (L_ za)) q8) (N_ za TX (N_ qv (L_ hG) (L_ fP))))))))
def y4:(@List @Stmt):=[My.top 29,My.top 30,My.top 31,My.top 32,My.top 33,My.top 34,My.top 35,My.top 36,My.top 37,My.top 38,My.top 39,My.top 40,My.top 41,My.top 42,My.top 43]
def kH:=N_ W.boot_o_0 (N_ W.boot_o_1 (N_ QN (N_ W.boot_o_7 (N_ za (N_ o67 (N_ zm TW (N_ qD (L_ nO) (L_ za))) (N_ vZ (N_ zm (L_ za) (L_ eS)) (N_ oI (L_ zc) (L_ eA)))) (N_ o83 Y51 (N_ zm (N_ zc (L_ z4) (L_ zc)) (N_ oA (L_ za) (L_ ac))))) (N_ zc (N_ za (N_ va TV (N_ zc (L_ za) (L_ au))) (N_ zc (N_ rb (L_ ki) (L_ z4)) (N_ za (L_ lY) (L_ za)))) (N_ o91 (N_ zm (N_ zc (L_ n8) (L_ za)) (N_ zh (L_ z4) (L_ zh))) (N_ vm (N_ zm (L_ zc) (L_ iL)) (N_ qy (L_ hU) (L_ fS)))))) (N_ za (N_ o55 (N_ o71 (N_ zc TU (N_ zm (L_ l8) (L_ za))) (N_ zm (N_ zc (L_ za) (L_ iQ)) (N_ oG (L_ l4) (L_ eh)))) (N_ zh Y52 (N_ zc (N_ tW (L_ kd) (L_ iN)) q8))) (N_ o63 (N_ za (N_ zm TR (N_ oN (L_ za) (L_ zc))) (N_ uQ (N_ zm (L_ nU) (L_ eN)) (N_ za (L_ lW) (L_ za)))) (N_ uP (N_ zc (N_ qQ (L_ n5) (L_ za)) (N_ mn (L_ gb) (L_ ag))) (N_ zm (N_ zc (L_ nQ) (L_ iJ)) (N_ qw (L_ zc) (L_ fQ))))))) (N_ W.boot_o_5 (N_ W.boot_o_9 (N_ o53 (N_ o69 (N_ vz TQ (N_ mz (L_ gk) (L_ eI))) (N_ uV (N_ qN (L_ n0) (L_ iS)) (N_ ml (L_ za) (L_ ae)))) (N_ o85 Y53 (N_ vp (N_ s9 (L_ kf) (L_ za)) (N_ qA (L_ lU) (L_ fV))))) (N_ za (N_ o77 (N_ wy TN (N_ qC (L_ nN) (L_ eB))) (N_ uR (N_ qK (L_ nW) (L_ eO)) (N_ oE (L_ hW) (L_ fZ)))) (N_ za (N_ ub (N_ qR (L_ kl) (L_ iW)) (N_ za (L_ gc) (L_ za))) (N_ vU (N_ qG (L_ za) (L_ eJ)) (N_ za (L_ lQ) (L_ za)))))) (N_ o45 (N_ o57 (N_ zc (N_ vx TM (N_ mw (L_ zc) (L_ eE))) (N_ uT (N_ qL (L_ nY) (L_ eQ)) q8)) (N_ za Y54 (N_ vn (N_ s8 (L_ ka) (L_ za)) (N_ za (L_ lS) (L_ za))))) (N_ za (N_ o81 Y55 (N_ vW (N_ qI (L_ kh) (L_ eL)) (N_ oB (L_ zc) (L_ fX)))) (N_ o97 (N_ v9 (N_ qP (L_ zc) (L_ iU)) (N_ za (L_ h8) (L_ za))) (N_ vS (N_ qE (L_ za) (L_ zc)) (N_ oy (L_ za) (L_ b_)))))))) (N_ W.boot_o_2 (N_ W.boot_o_4 (N_ W.boot_o_8 (N_ zc (N_ za (N_ zh TL (N_ oO (L_ za) (L_ av))) (N_ vY (N_ zh (L_ kj) (L_ iT)) (N_ za (L_ l5) (L_ za)))) (N_ o84 Y56 (N_ zh (N_ s_ (L_ zh) (L_ iO)) (N_ qB (L_ hV) (L_ fW))))) (N_ o60 (N_ o76 (N_ w_ TK (N_ mv (L_ gj) (L_ eD))) (N_ uS (N_ ra (L_ nX) (L_ zh)) (N_ mj (L_ za) (L_ ad)))) (N_ o92 (N_ zh (N_ qS (L_ za) (L_ eT)) (N_ kx (L_ zh) (L_ XM))) (N_ vk (N_ zh (L_ nR) (L_ za)) (N_ qx (L_ lR) (L_ fR)))))) (N_ QM (N_ o56 (N_ za (N_ vy TJ (N_ zh (L_ za) (L_ zc))) (N_ zh (N_ qM (L_ zc) (L_ iP)) (N_ za (L_ lZ) (L_ za)))) (N_ o88 Y57 (N_ vo (N_ tV (L_ kb) (L_ iM)) (N_ qz (L_ zc) (L_ fU))))) (N_ o64 (N_ zc Y58 (N_ vX (N_ zh (L_ nS) (L_ eM)) q8)) (N_ o96 (N_ ua (N_ rc (L_ za) (L_ zc)) (N_ mm (L_ h_) (L_ af))) (N_ zh (N_ qF (L_ nP) (L_ za)) (N_ za (L_ lP) (L_ za))))))) (N_ W.boot_o_6 (N_ W.boot_o_10 (N_ za (N_ o70 (N_ za TH (N_ mx (L_ l9) (L_ eG))) (N_ uU (N_ za (L_ nZ) (L_ iR)) (N_ oH (L_ hZ) (L_ eo)))) (N_ o86 Y59 (N_ za (N_ za (L_ za) (L_ eK)) (N_ za (L_ lT) (L_ za))))) (N_ o62 (N_ o78 (N_ vw TF (N_ za (L_ l6) (L_ za))) (N_ za (N_ qJ (L_ nV) (L_ za)) (N_ oC (L_ lX) (L_ fY)))) (N_ o94 (N_ za (N_ za (L_ n6) (L_ iV)) (N_ mo (L_ za) (L_ ah))) (N_ vT (N_ za (L_ l_) (L_ iK)) q8)))) (N_ o46 (N_ za (N_ o74 (N_ za TD (N_ za (L_ l7) (L_ za))) (N_ za (N_ za (L_ za) (L_ eP)) (N_ oF (L_ zc) (L_ f_)))) (N_ zc (N_ uc (N_ za (L_ zc) (L_ iX)) (N_ za (L_ e8) (L_ z4))) (N_ za (N_ qH (L_ za) (L_ zc)) (N_ oz (L_ za) (L_ aa))))) (N_ zc (N_ za Y60 (N_ vV (N_ za (L_ kg) (L_ za)) (N_ za (L_ lV) (L_ za)))) (N_ o98 (N_ za (N_ qO (L_ n4) (L_ za)) q8) (N_ za (N_ za (L_ zc) (L_ iI)) (N_ qv (L_ hG) (L_ fP))))))))
def xD:(@List @Stmt):=[My.top 28]
def kI:=N_ W.boot_o_0 (N_ W.boot_o_1 (N_ QQ (N_ W.boot_o_7 (N_ za (N_ o67 (N_ zm (N_ zc (L_ mi) (L_ i_)) (N_ qD (L_ nO) (L_ za))) Y65) (N_ o83 Y51 (N_ zm (N_ zc (L_ z4) (L_ zc)) (N_ oA (L_ za) Z_)))) (N_ zc (N_ za (N_ va (N_ zm (L_ za) (L_ zh)) (N_ zc (L_ za) (L_ au))) (N_ zc (N_ rb (L_ ki) (L_ z4)) (N_ za (L_ lY) Z_))) (N_ o91 Y66 (N_ vm (N_ zm (L_ zc) (L_ iL)) (N_ qy (L_ hU) Z_))))) (N_ za (N_ o55 (N_ o71 (N_ zc (N_ rk (L_ za) (L_ i6)) (N_ zm (L_ l8) (L_ za))) Y67) (N_ zh Y52 (N_ zc (N_ tW (L_ kd) (L_ iN)) xL))) (N_ o63 (N_ za (N_ zm (N_ zc (L_ n9) (L_ eW)) (N_ oN (L_ za) (L_ zc))) (N_ uQ (N_ zm (L_ nU) (L_ eN)) (N_ za (L_ lW) Z_))) (N_ uP Y68 (N_ zm (N_ zc (L_ nQ) (L_ iJ)) (N_ qw (L_ zc) Z_)))))) (N_ W.boot_o_5 (N_ W.boot_o_9 (N_ o53 (N_ o69 (N_ vz (N_ qX (L_ zc) (L_ i8)) (N_ mz (L_ gk) (L_ eI))) Y69) (N_ o85 Y53 (N_ vp (N_ s9 (L_ kf) (L_ za)) (N_ qA (L_ lU) Z_)))) (N_ za (N_ o77 (N_ wy (N_ tZ (L_ QO) (L_ za)) (N_ qC (L_ nN) (L_ eB))) (N_ uR (N_ qK (L_ nW) (L_ eO)) (N_ oE (L_ hW) Z_))) (N_ za Y70 (N_ vU (N_ qG (L_ za) (L_ eJ)) (N_ za (L_ lQ) Z_))))) (N_ o45 (N_ o57 (N_ zc (N_ vx (N_ qW (L_ mf) (L_ eZ)) (N_ mw (L_ zc) (L_ eE))) Y71) (N_ za Y54 (N_ vn (N_ s8 (L_ ka) (L_ za)) (N_ za (L_ lS) Z_)))) (N_ za (N_ o81 Y55 (N_ vW (N_ qI (L_ kh) (L_ eL)) (N_ oB (L_ zc) Z_))) (N_ o97 Y72 (N_ vS (N_ qE (L_ za) (L_ zc)) (N_ oy (L_ za) Z_))))))) (N_ W.boot_o_2 (N_ W.boot_o_4 (N_ W.boot_o_8 (N_ zc (N_ za (N_ zh (N_ qY (L_ za) (L_ i9)) (N_ oO (L_ za) (L_ av))) Y73) (N_ o84 Y56 (N_ zh (N_ s_ (L_ zh) (L_ iO)) (N_ qB (L_ hV) Z_)))) (N_ o60 (N_ o76 (N_ w_ (N_ zh (L_ ma) (L_ eY)) (N_ mv (L_ gj) (L_ eD))) (N_ uS (N_ ra (L_ nX) (L_ zh)) (N_ mj (L_ za) Z_))) (N_ o92 Y74 (N_ vk (N_ zh (L_ nR) (L_ za)) (N_ qx (L_ lR) Z_))))) (N_ QP (N_ o56 (N_ za (N_ vy (N_ rj (L_ kv) (L_ e7)) (N_ zh (L_ za) (L_ zc))) Y75) (N_ o88 Y57 (N_ vo (N_ tV (L_ kb) (L_ iM)) (N_ qz (L_ zc) Z_)))) (N_ o64 (N_ zc Y58 (N_ vX (N_ zh (L_ nS) (L_ eM)) xL)) (N_ o96 Y76 (N_ zh (N_ qF (L_ nP) (L_ za)) (N_ za (L_ lP) Z_)))))) (N_ W.boot_o_6 (N_ W.boot_o_10 (N_ za (N_ o70 (N_ za (N_ za (L_ mh) (L_ i7)) (N_ mx (L_ l9) (L_ eG))) Y77) (N_ o86 Y59 (N_ za (N_ za (L_ za) (L_ eK)) (N_ za (L_ lT) Z_)))) (N_ o62 (N_ o78 (N_ vw (N_ za (L_ n_) (L_ eX)) (N_ za (L_ l6) (L_ za))) (N_ za (N_ qJ (L_ nV) (L_ za)) (N_ oC (L_ lX) Z_))) (N_ o94 Y78 (N_ vT (N_ za (L_ l_) (L_ iK)) xL)))) (N_ o46 (N_ za (N_ o74 (N_ za (N_ qV (L_ md) (L_ z4)) (N_ za (L_ l7) (L_ za))) Y79) (N_ zc Y80 (N_ za (N_ qH (L_ za) (L_ zc)) (N_ oz (L_ za) Z_)))) (N_ zc (N_ za Y60 (N_ vV (N_ za (L_ kg) (L_ za)) (N_ za (L_ lV) Z_))) (N_ o98 Y81 (N_ za (N_ za (L_ zc) (L_ iI)) (N_ qv (L_ hG) Z_)))))))
def wQ:(@List @Stmt):=[My.top 27]
def kJ:=N_ W.boot_o_0 (N_ W.boot_o_1 (N_ QT (N_ W.boot_o_7 (N_ za (N_ o67 Y82 Y65) (N_ o83 (N_ zc (N_ tY (L_ zh) (L_ i0)) (N_ za (L_ db) Z_)) Qh)) (N_ zc (N_ za (N_ va (N_ zm (L_ za) (L_ zh)) xL) Qg) (N_ o91 Y66 Qf))) (N_ za (N_ o55 (N_ o71 Y83 Y67) (N_ zh (N_ w9 (N_ zm (L_ kn) (L_ iY)) (N_ mq (L_ ge) Z_)) Qe)) (N_ o63 (N_ za (N_ zm (N_ zc (L_ n9) (L_ eW)) (N_ oN (L_ za) Z_)) Qc) (N_ uP Y68 Qb)))) (N_ W.boot_o_5 (N_ W.boot_o_9 (N_ o53 (N_ o69 Y84 Y69) (N_ o85 (N_ vt (N_ rh (L_ za) (L_ eU)) (N_ oM (L_ gg) Z_)) Qa)) (N_ za (N_ o77 (N_ wy (N_ tZ (L_ QR) (L_ za)) (N_ qC (L_ nN) Z_)) R_) (N_ za Y70 R9))) (N_ o45 (N_ o57 (N_ zc Y85 Y71) (N_ za (N_ vq (N_ rd (L_ za) (L_ zc)) (N_ oJ (L_ e9) Z_)) R8)) (N_ za (N_ o81 (N_ ud (N_ qT (L_ kr) (L_ za)) (N_ ky (L_ gi) Z_)) R7) (N_ o97 Y72 R6))))) (N_ W.boot_o_2 (N_ W.boot_o_4 (N_ W.boot_o_8 (N_ zc (N_ za Y86 Y73) (N_ o84 (N_ vv (N_ tX (L_ kq) (L_ za)) (N_ zc (L_ gh) Z_)) R5)) (N_ o60 (N_ o76 (N_ w_ (N_ zh (L_ ma) (L_ eY)) (N_ mv (L_ gj) Z_)) R4) (N_ o92 Y74 R3))) (N_ QS (N_ o56 (N_ za Y87 Y75) (N_ o88 (N_ w8 (N_ zh (L_ km) (L_ za)) (N_ oK (L_ gd) Z_)) R1)) (N_ o64 (N_ zc (N_ zh (N_ qU (L_ ku) (L_ eV)) (N_ mt (L_ zc) Z_)) R0) (N_ o96 Y76 RZ)))) (N_ W.boot_o_6 (N_ W.boot_o_10 (N_ za (N_ o70 Y88 Y77) (N_ o86 (N_ za (N_ rg (L_ ko) (L_ iZ)) (N_ za (L_ gf) Z_)) RY)) (N_ o62 (N_ o78 (N_ vw (N_ za (L_ n_) (L_ eX)) (N_ za (L_ l6) Z_)) RX) (N_ o94 Y78 RW))) (N_ o46 (N_ za (N_ o74 (N_ za (N_ qV (L_ md) (L_ z4)) (N_ za (L_ l7) Z_)) Y79) (N_ zc Y80 RV)) (N_ zc (N_ za (N_ za (N_ za (L_ z4) (L_ zc)) (N_ mr (L_ za) Z_)) RU) (N_ o98 Y81 RT)))))
def y6:(@List @Stmt):=[My.top 26]
def kK:=N_ W.boot_o_0 (N_ W.boot_o_1 (N_ QW (N_ W.boot_o_7 (N_ za (N_ o67 Y82 (N_ vZ Ze (N_ oI (L_ zc) Z_))) (N_ o83 RS Qh)) (N_ zc (N_ za RQ Qg) (N_ o91 (N_ zm (N_ zc (L_ n8) Z_) (N_ zh (L_ z4) Z_)) Qf))) (N_ za (N_ o55 (N_ o71 Y83 (N_ zm xL (N_ oG (L_ l4) Z_))) (N_ zh RP Qe)) (N_ o63 (N_ za RO Qc) (N_ uP (N_ zc (N_ qQ (L_ n5) Z_) (N_ mn (L_ gb) Z_)) Qb)))) (N_ W.boot_o_5 (N_ W.boot_o_9 (N_ o53 (N_ o69 Y84 (N_ uV (N_ qN (L_ n0) Z_) (N_ ml (L_ za) Z_))) (N_ o85 RN Qa)) (N_ za (N_ o77 (N_ wy (N_ tZ (L_ QU) Z_) (N_ qC (L_ nN) Z_)) R_) (N_ za (N_ ub (N_ qR (L_ kl) Z_) (N_ za (L_ gc) Z_)) R9))) (N_ o45 (N_ o57 (N_ zc Y85 (N_ uT (N_ qL (L_ nY) Z_) xL)) (N_ za RM R8)) (N_ za (N_ o81 RL R7) (N_ o97 (N_ v9 (N_ qP (L_ zc) Z_) (N_ za (L_ h8) Z_)) R6))))) (N_ W.boot_o_2 (N_ W.boot_o_4 (N_ W.boot_o_8 (N_ zc (N_ za Y86 (N_ vY (N_ zh (L_ kj) Z_) (N_ za (L_ l5) Z_))) (N_ o84 RK R5)) (N_ o60 (N_ o76 RJ R4) (N_ o92 (N_ zh (N_ qS (L_ za) Z_) (N_ kx (L_ zh) Z_)) R3))) (N_ QV (N_ o56 (N_ za Y87 (N_ zh (N_ qM (L_ zc) Z_) (N_ za (L_ lZ) Z_))) (N_ o88 RI R1)) (N_ o64 (N_ zc RH R0) (N_ o96 (N_ ua (N_ rc (L_ za) Z_) (N_ mm (L_ h_) Z_)) RZ)))) (N_ W.boot_o_6 (N_ W.boot_o_10 (N_ za (N_ o70 Y88 (N_ uU (N_ za (L_ nZ) Z_) (N_ oH (L_ hZ) Z_))) (N_ o86 RG RY)) (N_ o62 (N_ o78 RF RX) (N_ o94 (N_ za (N_ za (L_ n6) Z_) (N_ mo (L_ za) Z_)) RW))) (N_ o46 (N_ za (N_ o74 RE (N_ za zZ (N_ oF (L_ zc) Z_))) (N_ zc RD RV)) (N_ zc (N_ za RC RU) (N_ o98 (N_ za (N_ qO (L_ n4) Z_) xL) RT)))))
def xE:(@List @Stmt):=[My.top 25]
def kL:=N_ W.boot_o_0 (N_ W.boot_o_1 (N_ QZ (N_ W.boot_o_7 (N_ za (N_ o67 (N_ zm (N_ zc (L_ mi) Z_) (N_ qD (L_ nO) Z_)) TC) (N_ o83 RS (N_ zm (N_ zc (L_ z4) Z_) (L_ oA)))) (N_ zc (N_ za RQ Tz) (N_ o91 Ty (N_ vm uw (L_ qy))))) (N_ za (N_ o55 (N_ o71 (N_ zc (N_ rk (L_ za) Z_) (N_ zm (L_ l8) Z_)) Tx) (N_ zh RP (N_ zc (N_ tW (L_ kd) Z_) (L_ zc)))) (N_ o63 (N_ za RO Tw) (N_ uP Tv (N_ zm (N_ zc (L_ nQ) Z_) (L_ qw)))))) (N_ W.boot_o_5 (N_ W.boot_o_9 (N_ o53 (N_ o69 (N_ vz (N_ qX (L_ zc) Z_) (N_ mz (L_ gk) Z_)) Tu) (N_ o85 RN (N_ vp (N_ s9 (L_ kf) Z_) (L_ qA)))) (N_ za (N_ o77 (N_ wy (N_ tZ (L_ QX) Z_) (N_ qC (L_ nN) Z_)) Tt) (N_ za Ts (N_ vU (N_ qG (L_ za) Z_) (L_ za))))) (N_ o45 (N_ o57 (N_ zc (N_ vx (N_ qW (L_ mf) Z_) (N_ mw (L_ zc) Z_)) Tr) (N_ za RM (N_ vn (N_ s8 (L_ ka) Z_) (L_ za)))) (N_ za (N_ o81 RL Tq) (N_ o97 Tp (N_ vS (N_ qE (L_ za) Z_) (L_ oy))))))) (N_ W.boot_o_2 (N_ W.boot_o_4 (N_ W.boot_o_8 (N_ zc (N_ za (N_ zh (N_ qY (L_ za) Z_) (N_ oO (L_ za) Z_)) To) (N_ o84 RK (N_ zh (N_ s_ (L_ zh) Z_) (L_ qB)))) (N_ o60 (N_ o76 RJ Tn) (N_ o92 Tm (N_ vk (N_ zh (L_ nR) Z_) (L_ qx))))) (N_ QY (N_ o56 (N_ za (N_ vy (N_ rj (L_ kv) Z_) Zf) Tl) (N_ o88 RI (N_ vo (N_ tV (L_ kb) Z_) (L_ qz)))) (N_ o64 (N_ zc RH Tk) (N_ o96 Tj (N_ zh (N_ qF (L_ nP) Z_) (L_ za)))))) (N_ W.boot_o_6 (N_ W.boot_o_10 (N_ za (N_ o70 (N_ za (N_ za (L_ mh) Z_) (N_ mx (L_ l9) Z_)) Ti) (N_ o86 RG (N_ za zZ (L_ za)))) (N_ o62 (N_ o78 RF Th) (N_ o94 Tg (N_ vT (N_ za (L_ l_) Z_) (L_ zc))))) (N_ o46 (N_ za (N_ o74 RE Tf) (N_ zc RD (N_ za (N_ qH (L_ za) Z_) (L_ oz)))) (N_ zc (N_ za RC Te) (N_ o98 Td (N_ za rV (L_ qv)))))))
def wR:(@List @Stmt):=[My.top 24]
def kM:=N_ W.boot_o_0 (N_ W.boot_o_1 (N_ Q3 (N_ W.boot_o_7 (N_ za (N_ o67 Tc TC) (N_ o83 (N_ zc (N_ tY (L_ zh) Z_) (L_ za)) (N_ zm (L_ zc) (L_ oA)))) (N_ zc (N_ za Tb Tz) (N_ o91 Ty (N_ vm (L_ zm) (L_ qy))))) (N_ za (N_ o55 (N_ o71 Ta Tx) (N_ zh (N_ w9 (N_ zm (L_ kn) Z_) (L_ mq)) (N_ zc (L_ tW) (L_ zc)))) (N_ o63 (N_ za U_ Tw) (N_ uP Tv (N_ zm (L_ zc) (L_ qw)))))) (N_ W.boot_o_5 (N_ W.boot_o_9 (N_ o53 (N_ o69 UZ Tu) (N_ o85 (N_ vt (N_ rh (L_ za) Z_) (L_ oM)) (N_ vp (L_ s9) (L_ qA)))) (N_ za (N_ o77 (N_ wy (N_ tZ (L_ Q0) Z_) (L_ qC)) Tt) (N_ za Ts (N_ vU (L_ qG) (L_ za))))) (N_ o45 (N_ o57 (N_ zc UY Tr) (N_ za (N_ vq (N_ rd (L_ za) Z_) (L_ oJ)) (N_ vn (L_ s8) (L_ za)))) (N_ za (N_ o81 UX Tq) (N_ o97 Tp (N_ vS (L_ qE) (L_ oy))))))) (N_ W.boot_o_2 (N_ W.boot_o_4 (N_ W.boot_o_8 (N_ zc (N_ za UW To) (N_ o84 (N_ vv (N_ tX (L_ kq) Z_) (L_ zc)) (N_ zh (L_ s_) (L_ qB)))) (N_ o60 (N_ o76 UV Tn) (N_ o92 Tm (N_ vk (L_ zh) (L_ qx))))) (N_ Q2 (N_ o56 (N_ za UU Tl) (N_ o88 (N_ w8 (N_ zh (L_ km) Z_) (L_ oK)) (N_ vo (L_ tV) (L_ qz)))) (N_ o64 (N_ zc UT Tk) (N_ o96 Tj (N_ zh (L_ qF) (L_ za)))))) (N_ W.boot_o_6 (N_ W.boot_o_10 (N_ za (N_ o70 US Ti) (N_ o86 (N_ za (N_ rg (L_ ko) Z_) (L_ za)) (N_ za (L_ za) (L_ za)))) (N_ o62 (N_ o78 UR Th) (N_ o94 Tg (N_ vT (L_ za) (L_ zc))))) (N_ o46 (N_ za (N_ o74 UQ Tf) (N_ zc (N_ uc rV (L_ za)) (N_ za (L_ qH) (L_ oz)))) (N_ zc (N_ za (N_ za (N_ za (L_ z4) Z_) (L_ mr)) Te) (N_ o98 Td (N_ za (L_ za) (L_ qv)))))))
def xF:(@List @Stmt):=[My.top 23]
def kN:=N_ W.boot_o_0 (N_ W.boot_o_1 (N_ Q6 (N_ W.boot_o_7 (N_ za (N_ o67 Tc (N_ vZ (L_ zm) (L_ oI))) (N_ o83 (N_ zc (L_ tY) (L_ za)) (N_ zm (L_ zc) (L_ oA)))) (N_ zc (N_ za Tb (N_ zc (L_ rb) (L_ za))) (N_ o91 (N_ zm (L_ zc) (L_ zh)) (N_ vm (L_ zm) (L_ qy))))) (N_ za (N_ o55 (N_ o71 Ta (N_ zm (L_ zc) (L_ oG))) (N_ zh (N_ w9 (L_ zm) (L_ mq)) (N_ zc (L_ tW) (L_ zc)))) (N_ o63 (N_ za U_ (N_ uQ (L_ zm) (L_ za))) (N_ uP (N_ zc (L_ qQ) (L_ mn)) (N_ zm (L_ zc) (L_ qw)))))) (N_ W.boot_o_5 (N_ W.boot_o_9 (N_ o53 (N_ o69 UZ (N_ uV (L_ qN) (L_ ml))) (N_ o85 (N_ vt (L_ rh) (L_ oM)) (N_ vp (L_ s9) (L_ qA)))) (N_ za (N_ o77 (N_ wy (N_ tZ (L_ Q4) Z_) (L_ qC)) (N_ uR (L_ qK) (L_ oE))) (N_ za (N_ ub (L_ qR) (L_ za)) (N_ vU (L_ qG) (L_ za))))) (N_ o45 (N_ o57 (N_ zc UY (N_ uT (L_ qL) (L_ zc))) (N_ za (N_ vq (L_ rd) (L_ oJ)) (N_ vn (L_ s8) (L_ za)))) (N_ za (N_ o81 UX (N_ vW (L_ qI) (L_ oB))) (N_ o97 (N_ v9 (L_ qP) (L_ za)) (N_ vS (L_ qE) (L_ oy))))))) (N_ W.boot_o_2 (N_ W.boot_o_4 (N_ W.boot_o_8 (N_ zc (N_ za UW (N_ vY (L_ zh) (L_ za))) (N_ o84 (N_ vv (L_ tX) (L_ zc)) (N_ zh (L_ s_) (L_ qB)))) (N_ o60 (N_ o76 UV (N_ uS (L_ ra) (L_ mj))) (N_ o92 (N_ zh (L_ qS) (L_ kx)) (N_ vk (L_ zh) (L_ qx))))) (N_ Q5 (N_ o56 (N_ za UU (N_ zh (L_ qM) (L_ za))) (N_ o88 (N_ w8 (L_ zh) (L_ oK)) (N_ vo (L_ tV) (L_ qz)))) (N_ o64 (N_ zc UT (N_ vX (L_ zh) (L_ zc))) (N_ o96 (N_ ua (L_ rc) (L_ mm)) (N_ zh (L_ qF) (L_ za)))))) (N_ W.boot_o_6 (N_ W.boot_o_10 (N_ za (N_ o70 US (N_ uU (L_ za) (L_ oH))) (N_ o86 (N_ za (L_ rg) (L_ za)) (N_ za (L_ za) (L_ za)))) (N_ o62 (N_ o78 UR (N_ za (L_ qJ) (L_ oC))) (N_ o94 (N_ za (L_ za) (L_ mo)) (N_ vT (L_ za) (L_ zc))))) (N_ o46 (N_ za (N_ o74 UQ (N_ za (L_ za) (L_ oF))) (N_ zc (N_ uc (L_ za) (L_ za)) (N_ za (L_ qH) (L_ oz)))) (N_ zc (N_ za (N_ za (L_ za) (L_ mr)) (N_ vV (L_ za) (L_ za))) (N_ o98 (N_ za (L_ qO) (L_ zc)) (N_ za (L_ za) (L_ qv)))))))
def wS:(@List @Stmt):=[My.top 22]
def kO:=N_ W.boot_o_0 (N_ W.boot_o_1 (N_ Q8 (N_ W.boot_o_7 (N_ za Y90 (N_ o83 (N_ zc (L_ tY) (L_ za)) uw)) (N_ zc (N_ za (N_ va (L_ zm) (L_ zc)) (N_ zc (L_ rb) Z_)) Rr)) (N_ za (N_ o55 (N_ o71 (N_ zc (L_ rk) (L_ zm)) uw) (N_ zh (N_ w9 (L_ zm) (L_ mq)) (N_ zc (L_ tW) Z_))) (N_ o63 (N_ za (N_ zm (L_ zc) (L_ oN)) (N_ uQ (L_ zm) Z_)) (N_ uP cB uw)))) (N_ W.boot_o_5 (N_ W.boot_o_9 (N_ o53 Y91 (N_ o85 (N_ vt (L_ rh) (L_ oM)) (N_ vp (L_ s9) Z_))) (N_ za (N_ o77 (N_ wy (L_ tZ) (L_ qC)) (N_ uR (L_ qK) Z_)) RB)) (N_ o45 (N_ o57 (N_ zc (N_ vx (L_ qW) (L_ mw)) (N_ uT (L_ qL) Z_)) (N_ za (N_ vq (L_ rd) (L_ oJ)) (N_ vn (L_ s8) Z_))) (N_ za (N_ o81 (N_ ud (L_ qT) (L_ ky)) (N_ vW (L_ qI) Z_)) Rq)))) (N_ W.boot_o_2 (N_ W.boot_o_4 (N_ W.boot_o_8 (N_ zc Y89 (N_ o84 (N_ vv (L_ tX) (L_ zc)) (N_ zh (L_ s_) Z_))) (N_ o60 (N_ o76 (N_ w_ (L_ zh) (L_ mv)) (N_ uS (L_ ra) Z_)) Rp)) (N_ Q7 (N_ o56 (N_ za (N_ vy (L_ rj) (L_ zh)) (N_ zh (L_ qM) Z_)) (N_ o88 (N_ w8 (L_ zh) (L_ oK)) (N_ vo (L_ tV) Z_))) (N_ o64 (N_ zc (N_ zh (L_ qU) (L_ mt)) (N_ vX (L_ zh) Z_)) Ro))) (N_ W.boot_o_6 (N_ W.boot_o_10 (N_ za Y92 (N_ o86 (N_ za (L_ rg) (L_ za)) zZ)) (N_ o62 (N_ o78 (N_ vw (L_ za) (L_ za)) (N_ za (L_ qJ) Z_)) Rn)) (N_ o46 (N_ za (N_ o74 (N_ za (L_ qV) (L_ za)) zZ) RA) (N_ zc (N_ za (N_ za (L_ za) (L_ mr)) (N_ vV (L_ za) Z_)) Rm))))
def u3:(@List @Stmt):=[My.top 19,My.top 20,My.top 21]
def kP:=N_ W.boot_o_0 (N_ W.boot_o_1 (N_ Pa (N_ W.boot_o_7 (N_ za Y90 Rk) (N_ zc Ry Rr)) (N_ za Y15 (N_ o63 Rx (N_ Q9 cB uw)))) (N_ W.boot_o_5 (N_ W.boot_o_9 (N_ o53 Y91 Ri) (N_ za Rh RB)) (N_ o45 Y13 (N_ za Rg Rq)))) (N_ W.boot_o_2 (N_ W.boot_o_4 (N_ W.boot_o_8 (N_ zc Y89 Rf) (N_ o60 Re Rp)) (N_ Q_ Y16 (N_ o64 Ru Ro))) (N_ W.boot_o_6 (N_ W.boot_o_10 (N_ za Y92 Rc) (N_ o62 Rb Rn)) (N_ o46 Y14 (N_ zc Rt Rm))))
def y7:(@List @Stmt):=[My.top 18]
def kQ:=N_ W.boot_o_0 (N_ W.boot_o_1 (N_ Pd (N_ W.boot_o_7 (N_ za S9 Rk) Y36) (N_ za Y15 (N_ o63 Rx (N_ Pb cB (L_ zm))))) (N_ W.boot_o_5 (N_ W.boot_o_9 (N_ o53 S8 Ri) Y37) (N_ o45 Y13 (N_ za Rg UE)))) (N_ W.boot_o_2 (N_ W.boot_o_4 (N_ W.boot_o_8 (N_ zc Rs Rf) Y38) (N_ Pc Y16 (N_ o64 Ru UC))) (N_ W.boot_o_6 (N_ W.boot_o_10 (N_ za S7 Rc) Y39) (N_ o46 Y14 (N_ zc Rt UA))))
def xG:(@List @Stmt):=[My.top 17]
def kR:=N_ W.boot_o_0 (N_ W.boot_o_1 (N_ Pg (N_ W.boot_o_7 (N_ za S9 Uz) Y36) (N_ za (N_ o55 Rj UO) (N_ o63 Wp (N_ Pe cB (L_ zm))))) (N_ W.boot_o_5 (N_ W.boot_o_9 (N_ o53 S8 Uy) Y37) (N_ o45 (N_ o57 Rw UN) Y42))) (N_ W.boot_o_2 (N_ W.boot_o_4 (N_ W.boot_o_8 (N_ zc Rs Uw) Y38) (N_ Pf (N_ o56 Rv Uv) Y43)) (N_ W.boot_o_6 (N_ W.boot_o_10 (N_ za S7 Uu) Y39) (N_ o46 (N_ za Ra UL) Y40)))
def wT:(@List @Stmt):=[My.top 16]
def kS:=N_ W.boot_o_0 (N_ W.boot_o_1 (N_ Pj (N_ W.boot_o_7 Y44 (N_ zc UJ UF)) (N_ za (N_ o55 Us UO) (N_ o63 Wp (N_ Ph cB (L_ zm))))) (N_ W.boot_o_5 (N_ W.boot_o_9 Y46 (N_ za Uq UP)) (N_ o45 (N_ o57 UI UN) Y42))) (N_ W.boot_o_2 (N_ W.boot_o_4 (N_ W.boot_o_8 Y41 (N_ o60 Up UD)) (N_ Pi (N_ o56 UG Uv) Y43)) (N_ W.boot_o_6 (N_ W.boot_o_10 Y45 (N_ o62 Um UB)) (N_ o46 (N_ za Ul UL) Y40)))
def xH:(@List @Stmt):=[My.top 15]
def kT:=N_ W.boot_o_0 (N_ W.boot_o_1 (N_ Pm (N_ W.boot_o_7 Y44 (N_ zc UJ (N_ o91 (L_ zm) (L_ vm)))) (N_ za Y49 (N_ o63 Wp (N_ Pk (L_ zc) (L_ zm))))) (N_ W.boot_o_5 (N_ W.boot_o_9 Y46 (N_ za Uq (N_ za (L_ ub) (L_ vU)))) (N_ o45 Y47 (N_ za Ux (N_ o97 (L_ v9) (L_ vS)))))) (N_ W.boot_o_2 (N_ W.boot_o_4 (N_ W.boot_o_8 Y41 (N_ o60 Up (N_ o92 (L_ zh) (L_ vk)))) (N_ Pl Y50 (N_ o64 UM (N_ o96 (L_ ua) (L_ zh))))) (N_ W.boot_o_6 (N_ W.boot_o_10 Y45 (N_ o62 Um (N_ o94 (L_ za) (L_ vT)))) (N_ o46 Y48 (N_ zc UK (N_ o98 (L_ za) (L_ za))))))
def wU:(@List @Stmt):=[My.top 14]
def kU:=N_ W.boot_o_0 (N_ W.boot_o_1 (N_ Pp (N_ W.boot_o_7 (N_ za Ut (N_ o83 (L_ zc) (L_ zm))) Y61) (N_ za Y49 (N_ o63 Wo (N_ Pn (L_ zc) (L_ zm))))) (N_ W.boot_o_5 (N_ W.boot_o_9 (N_ o53 Ur (N_ o85 (L_ vt) (L_ vp))) Y62) (N_ o45 Y47 (N_ za (N_ o81 (L_ ud) (L_ vW)) (N_ o97 (L_ v9) (L_ vS)))))) (N_ W.boot_o_2 (N_ W.boot_o_4 (N_ W.boot_o_8 (N_ zc UH (N_ o84 (L_ vv) (L_ zh))) Y63) (N_ Po Y50 (N_ o64 (N_ zc (L_ zh) (L_ vX)) (N_ o96 (L_ ua) (L_ zh))))) (N_ W.boot_o_6 (N_ W.boot_o_10 (N_ za Uo (N_ o86 (L_ za) (L_ za))) Y64) (N_ o46 Y48 (N_ zc (N_ za (L_ za) (L_ vV)) (N_ o98 (L_ za) (L_ za))))))
def u4:(@List @Stmt):=[My.top 13]
def kW:=N_ W.boot_o_0 (N_ W.boot_o_1 (N_ Ps (N_ W.boot_o_7 (N_ za (N_ o67 (L_ zm) (L_ vZ)) (N_ o83 (L_ zc) (L_ zm))) Y61) (N_ za (N_ o55 (N_ o71 (L_ zc) (L_ zm)) (N_ zh (L_ w9) (L_ zc))) (N_ o63 Wo (N_ Pq (L_ zc) Z_)))) (N_ W.boot_o_5 (N_ W.boot_o_9 (N_ o53 (N_ o69 (L_ vz) (L_ uV)) (N_ o85 (L_ vt) (L_ vp))) Y62) (N_ o45 (N_ o57 (N_ zc (L_ vx) (L_ uT)) (N_ za (L_ vq) (L_ vn))) Y95))) (N_ W.boot_o_2 (N_ W.boot_o_4 (N_ W.boot_o_8 (N_ zc (N_ za (L_ zh) (L_ vY)) (N_ o84 (L_ vv) (L_ zh))) Y63) (N_ Pr (N_ o56 (N_ za (L_ vy) (L_ zh)) (N_ o88 (L_ w8) (L_ vo))) Y96)) (N_ W.boot_o_6 (N_ W.boot_o_10 (N_ za (N_ o70 (L_ za) (L_ uU)) (N_ o86 (L_ za) (L_ za))) Y64) (N_ o46 (N_ za (N_ o74 (L_ za) (L_ za)) (N_ zc (L_ uc) (L_ za))) Y93)))
def xI:(@List @Stmt):=[My.top 12]
def kX:=N_ W.boot_o_0 (N_ W.boot_o_1 (N_ Pw (N_ W.boot_o_7 Y97 (N_ zc (N_ za (L_ va) (L_ zc)) (N_ o91 (L_ zm) Z_))) (N_ za (N_ o55 (N_ o71 (L_ zc) (L_ zm)) (N_ zh (L_ w9) Z_)) (N_ o63 Wo (N_ Pt (L_ zc) Z_)))) (N_ W.boot_o_5 (N_ W.boot_o_9 Y99 (N_ za (N_ o77 (L_ wy) (L_ uR)) (N_ za (L_ ub) Z_))) (N_ o45 (N_ o57 (N_ zc (L_ vx) (L_ uT)) (N_ za (L_ vq) Z_)) Y95))) (N_ W.boot_o_2 (N_ W.boot_o_4 (N_ W.boot_o_8 Y94 (N_ o60 (N_ o76 (L_ w_) (L_ uS)) (N_ o92 (L_ zh) Z_))) (N_ Pu (N_ o56 (N_ za (L_ vy) (L_ zh)) (N_ o88 (L_ w8) Z_)) Y96)) (N_ W.boot_o_6 (N_ W.boot_o_10 Y98 (N_ o62 (N_ o78 (L_ vw) (L_ za)) (N_ o94 (L_ za) Z_))) (N_ o46 (N_ za (N_ o74 (L_ za) (L_ za)) (N_ zc (L_ uc) Z_)) Y93)))
def wV:(@List @Stmt):=[My.top 11]
def kY:=N_ W.boot_o_0 (N_ W.boot_o_1 (N_ Pz (N_ W.boot_o_7 Y97 (N_ zc (N_ za (L_ va) Z_) (N_ o91 (L_ zm) Z_))) (N_ za S4 (N_ o63 (N_ za (L_ zm) Z_) (N_ Px (L_ zc) Z_)))) (N_ W.boot_o_5 (N_ W.boot_o_9 Y99 (N_ za (N_ o77 (L_ wy) Z_) (N_ za (L_ ub) Z_))) (N_ o45 S6 (N_ za (N_ o81 (L_ ud) Z_) (N_ o97 (L_ v9) Z_))))) (N_ W.boot_o_2 (N_ W.boot_o_4 (N_ W.boot_o_8 Y94 (N_ o60 (N_ o76 (L_ w_) Z_) (N_ o92 (L_ zh) Z_))) (N_ Py S3 (N_ o64 (N_ zc (L_ zh) Z_) (N_ o96 (L_ ua) Z_)))) (N_ W.boot_o_6 (N_ W.boot_o_10 Y98 (N_ o62 (N_ o78 (L_ vw) Z_) (N_ o94 (L_ za) Z_))) (N_ o46 S5 (N_ zc zZ (N_ o98 (L_ za) Z_)))))
def u5:(@List @Stmt):=[My.top 10]
def kZ:=N_ W.boot_o_0 (N_ W.boot_o_1 (N_ PH (N_ W.boot_o_7 (N_ za (N_ o67 (L_ zm) Z_) (N_ o83 (L_ zc) Z_)) Uk) (N_ za S4 (N_ o63 (N_ za (L_ zm) Z_) (L_ PD)))) (N_ W.boot_o_5 (N_ W.boot_o_9 (N_ o53 (N_ o69 (L_ vz) Z_) (N_ o85 (L_ vt) Z_)) Uj) (N_ o45 S6 (N_ za (N_ o81 (L_ ud) Z_) (L_ o97))))) (N_ W.boot_o_2 (N_ W.boot_o_4 (N_ W.boot_o_8 (N_ zc (N_ za (L_ zh) Z_) (N_ o84 (L_ vv) Z_)) Ui) (N_ PF S3 (N_ o64 (N_ zc (L_ zh) Z_) (L_ o96)))) (N_ W.boot_o_6 (N_ W.boot_o_10 (N_ za (N_ o70 (L_ za) Z_) (N_ o86 (L_ za) Z_)) Uh) (N_ o46 S5 (N_ zc zZ (L_ o98)))))
def wW:(@List @Stmt):=[My.top 9]
def k_:=N_ W.boot_o_0 (N_ W.boot_o_1 (N_ o99 (N_ W.boot_o_7 (N_ za (N_ o67 (L_ zm) Z_) (L_ o83)) Uk) (N_ za (N_ o55 (N_ o71 (L_ zc) Z_) (L_ zh)) (N_ o63 (L_ za) (L_ PJ)))) (N_ W.boot_o_5 (N_ W.boot_o_9 (N_ o53 (N_ o69 (L_ vz) Z_) (L_ o85)) Uj) (N_ o45 (N_ o57 (N_ zc (L_ vx) Z_) (L_ za)) (N_ za (L_ o81) (L_ o97))))) (N_ W.boot_o_2 (N_ W.boot_o_4 (N_ W.boot_o_8 (N_ zc (N_ za (L_ zh) Z_) (L_ o84)) Ui) (N_ PK (N_ o56 (N_ za (L_ vy) Z_) (L_ o88)) (N_ o64 (L_ zc) (L_ o96)))) (N_ W.boot_o_6 (N_ W.boot_o_10 (N_ za (N_ o70 (L_ za) Z_) (L_ o86)) Uh) (N_ o46 (N_ za (N_ o74 (L_ za) Z_) (L_ zc)) (N_ zc (L_ za) (L_ o98)))))
def rE:(@List @Stmt):=[My.top 8]
def gA:=N_ W.boot_o_0 (N_ W.boot_o_1 (N_ o49 (N_ W.boot_o_7 (N_ za (L_ o67) (L_ o83)) (N_ zc (L_ za) (L_ o91))) (N_ za (N_ o55 (L_ o71) (L_ zh)) (N_ o63 (L_ za) (L_ o95)))) (N_ W.boot_o_5 (N_ W.boot_o_9 (N_ o53 (L_ o69) (L_ o85)) (N_ za (L_ o77) (L_ za))) (N_ o45 (N_ o57 (L_ zc) (L_ za)) (N_ za (L_ o81) (L_ o97))))) (N_ W.boot_o_2 (N_ W.boot_o_4 (N_ W.boot_o_8 (N_ zc (L_ za) (L_ o84)) (N_ o60 (L_ o76) (L_ o92))) (N_ o50 (N_ o56 (L_ za) (L_ o88)) (N_ o64 (L_ zc) (L_ o96)))) (N_ W.boot_o_6 (N_ W.boot_o_10 (N_ za (L_ o70) (L_ o86)) (N_ o62 (L_ o78) (L_ o94))) (N_ o46 (N_ za (L_ o74) (L_ zc)) (N_ zc (L_ za) (L_ o98)))))
def mG:(@List @Stmt):=[My.top 0,My.top 1,My.top 2,My.top 3,My.top 4,My.top 5,My.top 6,My.top 7]
def gB:=N_ W.boot_o_0 (N_ W.boot_o_1 (N_ W.boot_o_3 (L_ W.boot_o_7) (L_ za)) (N_ W.boot_o_5 (L_ W.boot_o_9) (L_ o45))) (N_ W.boot_o_2 (N_ W.boot_o_4 (L_ W.boot_o_8) (L_ zc)) (N_ W.boot_o_6 (L_ W.boot_o_10) (L_ o46)))
def gC:((x:@Params)→@Heap):=(fun x=>(@Heap.mk (@Array.mk @Obj [(@W.boot_o_0 x),(@W.boot_o_1 x),(@W.boot_o_2 x),(@W.boot_o_3 x),(@W.boot_o_4 x),(@W.boot_o_5 x),(@W.boot_o_6 x),(@W.boot_o_7 x),(@W.boot_o_8 x),(@W.boot_o_9 x),(@W.boot_o_10 x),(za x),(zc x),(o45 x),(o46 x)]) (@Life.mk [] [] [] 0 (@List.nil (@Prod @Nat @Nat)) [] @Bool.false #[] [] 0 @Bool.false @Bool.false @Bool.false (0:Int) [(2000:Int),(10:Int),(10:Int)] @Bool.false 0 @Bool.true [] [] 0 @Bool.false)))
abbrev k0:=(@Life.mk [] [] [] 0 (@List.nil (@Prod @Nat @Nat)) [] @Bool.false #[] [] 0 @Bool.false @Bool.false @Bool.false (0:Int) [(2000:Int),(10:Int),(10:Int)] @Bool.false 0 @Bool.true [] [] 0 @Bool.false)
abbrev S_ (t:Params→W.BT) (n k:Nat) (w:World) (o:OsState):W.SharedT:=W.SharedT.mk (t w.params) n k0 g_ d_ k o
abbrev k1:=(@Code.body (@W.behindTheImports ((@W.OpenRow.toRowW (@W.OpenLaw.row @Challenge.rw_oddbases_k52_moved_refused))).1) @zl)
abbrev k2:=(@HAppend.hAppend (@List @Stmt) (@List @Stmt) (@List @Stmt) (@instHAppendOfAppend (@List @Stmt) (@List.instAppend @Stmt)) @u3 (@HAppend.hAppend (@List @Stmt) (@List @Stmt) (@List @Stmt) (@instHAppendOfAppend (@List @Stmt) (@List.instAppend @Stmt)) @wS (@HAppend.hAppend (@List @Stmt) (@List @Stmt) (@List @Stmt) (@instHAppendOfAppend (@List @Stmt) (@List.instAppend @Stmt)) @xF (@HAppend.hAppend (@List @Stmt) (@List @Stmt) (@List @Stmt) (@instHAppendOfAppend (@List @Stmt) (@List.instAppend @Stmt)) @wR (@HAppend.hAppend (@List @Stmt) (@List @Stmt) (@List @Stmt) (@instHAppendOfAppend (@List @Stmt) (@List.instAppend @Stmt)) @xE (@HAppend.hAppend (@List @Stmt) (@List @Stmt) (@List @Stmt) (@instHAppendOfAppend (@List @Stmt) (@List.instAppend @Stmt)) @y6 (@HAppend.hAppend (@List @Stmt) (@List @Stmt) (@List @Stmt) (@instHAppendOfAppend (@List @Stmt) (@List.instAppend @Stmt)) @wQ (@HAppend.hAppend (@List @Stmt) (@List @Stmt) (@List @Stmt) (@instHAppendOfAppend (@List @Stmt) (@List.instAppend @Stmt)) @xD (@HAppend.hAppend (@List @Stmt) (@List @Stmt) (@List @Stmt) (@instHAppendOfAppend (@List @Stmt) (@List.instAppend @Stmt)) @y4 (@HAppend.hAppend (@List @Stmt) (@List @Stmt) (@List @Stmt) (@instHAppendOfAppend (@List @Stmt) (@List.instAppend @Stmt)) @xC (@HAppend.hAppend (@List @Stmt) (@List @Stmt) (@List @Stmt) (@instHAppendOfAppend (@List @Stmt) (@List.instAppend @Stmt)) @y3 [])))))))))))
abbrev k3 (x0:World) (x1:OsState):=(@Shared.mk (@xj x0.params) g_ d_ 1115 x1)
abbrev k4:=(@W.OpenRow.toRowW (@W.OpenLaw.row @Challenge.rw_oddbases_k52_moved_refused))
abbrev k5:=(@instHAppendOfAppend (@List @Stmt) (@List.instAppend @Stmt))
abbrev k6:=(@Prod (@Prod (@List (@Option @FnShape)) @Bool) (@Prod (@List (@Option @PyProof.Rows.PlainShape)) (@Prod (@List (@Option (@Prod @PyProof.Rows.PlainShape @Bool))) (@Prod (@Prod (@List (@Option @FnShape)) @Bool) (@List (@Prod (@Option (@Prod (@List (@Option @FnShape)) @Bool)) (@Option (@Prod @PyProof.Rows.PlainShape @Bool))))))))
abbrev k7:=(@Prod @Flow (@Prod @W.SharedT (@Prod @Code @Pos)))
abbrev k8:=(@Prod @Flow (@Prod @Shared (@Prod @Code @Pos)))
abbrev k9:=(@Nat.add 214 (@Nat.add 214 (@Nat.add 214 (@Nat.add 214 (@Nat.add 254 (@Nat.add 388 (@Nat.add 310 (@Nat.add 342 (@Nat.add 374 (@Nat.add 310 (@Nat.add 380 (@Nat.add 410 (@Nat.add 382 (@Nat.add 392 (@Nat.add 102 2)))))))))))))))
abbrev k10:=(@HAppend.hAppend (@List @Stmt) (@List @Stmt) (@List @Stmt) k5 @u4 (@HAppend.hAppend (@List @Stmt) (@List @Stmt) (@List @Stmt) k5 @wU (@HAppend.hAppend (@List @Stmt) (@List @Stmt) (@List @Stmt) k5 @xH (@HAppend.hAppend (@List @Stmt) (@List @Stmt) (@List @Stmt) k5 @wT (@HAppend.hAppend (@List @Stmt) (@List @Stmt) (@List @Stmt) k5 @xG (@HAppend.hAppend (@List @Stmt) (@List @Stmt) (@List @Stmt) k5 @y7 k2))))))
abbrev k11:=(@HAppend.hAppend (@List @Stmt) (@List @Stmt) (@List @Stmt) k5 @wQ (@HAppend.hAppend (@List @Stmt) (@List @Stmt) (@List @Stmt) k5 @xD (@HAppend.hAppend (@List @Stmt) (@List @Stmt) (@List @Stmt) k5 @y4 (@HAppend.hAppend (@List @Stmt) (@List @Stmt) (@List @Stmt) k5 @xC (@HAppend.hAppend (@List @Stmt) (@List @Stmt) (@List @Stmt) k5 @y3 [])))))
abbrev k12 (x0:World) (x1:OsState):=(@ite @Bool (@Eq @Bool @Bool.true @Bool.true) (@instDecidableEqBool @Bool.true @Bool.true) (@BEq.beq @Nat (@instBEqOfDecidableEq @Nat @instDecidableEqNat) (@Array.size @GenState (@Shared.gens (k3 x0 x1))) 0) (@Bool.not (@leftWithCleanup (@Shared.gens (k3 x0 x1)))))
abbrev k13:=(@Bool.true,((@pinGoodD (@PyProof.Rows.drecsOf @h_view_39)),((@PyProof.Rows.plainGoodE @h_view_39 (@W.looseW @h_view_39 [])),((@PyProof.Rows.plainGoodD @h_view_39 []),((@W.wideGood @h_view_39),(@W.clsGoodW @h_view_39 []))))))
abbrev k14:=(@List (@Prod (@Option (@Prod (@List (@Option @FnShape)) @Bool)) (@Option (@Prod @PyProof.Rows.PlainShape @Bool))))
abbrev k15 (x0:World) (x1:OsState):=(@Bool.and (@Bool.and (@Bool.and (@W.staticsOk (@importedModules (@Module.body (@Program.main (k4).1))) (@W.boot_heap x0.params) (@xj x0.params)) (@W.namesBound (k4).1 (@xj x0.params))) (@W.gensDone (k3 x0 x1))) (@W.laidKept (@W.boot_heap x0.params) (@xj x0.params)))
abbrev k16:=(@Prod (@Prod (@Option @Str) (@List (@Prod @Str @Value))) (@Prod @Bool (@Prod @Bool k6)))
abbrev k17:=(@Nat.add 356 (@Nat.add 214 (@Nat.add 214 (@Nat.add 214 (@Nat.add 214 (@Nat.add 214 (@Nat.add 214 (@Nat.add 214 k9))))))))
abbrev k18 (x0:World) (x1:OsState):=(@PyProof.Rows.plainSeenE @h_view_39 (@W.looseW @h_view_39 []) (k3 x0 x1))
abbrev k19:=(@Eq.refl (@List @Addr) My.myAs)
abbrev k20:=(@Nat.add 374 (@Nat.add 310 (@Nat.add 380 (@Nat.add 410 (@Nat.add 382 (@Nat.add 392 (@Nat.add 102 2)))))))
abbrev k21:=(@HAppend.hAppend (@List @Stmt) (@List @Stmt) (@List @Stmt) k5 @u5 (@HAppend.hAppend (@List @Stmt) (@List @Stmt) (@List @Stmt) k5 @wV (@HAppend.hAppend (@List @Stmt) (@List @Stmt) (@List @Stmt) k5 @xI k10)))
abbrev k22:=(@HAppend.hAppend (@List @Stmt) (@List @Stmt) (@List @Stmt) k5 @wR (@HAppend.hAppend (@List @Stmt) (@List @Stmt) (@List @Stmt) k5 @xE (@HAppend.hAppend (@List @Stmt) (@List @Stmt) (@List @Stmt) k5 @y6 k11)))
abbrev k23:=(@HAppend.hAppend (@List @Stmt) (@List @Stmt) (@List @Stmt) k5 @wT (@HAppend.hAppend (@List @Stmt) (@List @Stmt) (@List @Stmt) k5 @xG (@HAppend.hAppend (@List @Stmt) (@List @Stmt) (@List @Stmt) k5 @y7 k2)))
abbrev k24:=(@importedModules (@Module.body (@Program.main (k4).1)))
abbrev k25 (x0:World) (x1:OsState):=(@pinSeenD @h_view_39 (@PyProof.Rows.drecsOf @h_view_39) (k3 x0 x1))
abbrev k26 (x0:World) (x1:OsState):=(@PyProof.Rows.plainSeenD @h_view_39 [] (k3 x0 x1))
abbrev k27:=(@Prod (@List (@Option @FnShape)) @Bool)
abbrev k28 (x0:World) (x1:OsState):=(@W.clsSeenW @h_view_39 [] (k3 x0 x1))
abbrev k29:=(@List.nil (@Prod @Str @W.WData))
abbrev k30 (x0:World) (x1:OsState):=(@W.wideSeen @h_view_39 (k3 x0 x1))
abbrev k31:=(@HAppend.hAppend (@List @Stmt) (@List @Stmt) (@List @Stmt) k5 @xC (@HAppend.hAppend (@List @Stmt) (@List @Stmt) (@List @Stmt) k5 @y3 []))
abbrev k32:=(@W.piecesOf @y3 @zl k1 (P_ 336 0 343 70) [(@W.topFrame (P_ 0 0 0 0))])
abbrev k33:=(@W.piecesOf @y4 @zl k1 (P_ 154 0 176 30) [(@W.topFrame (P_ 0 0 0 0))])
abbrev k34:=(@W.piecesOf @xD @zl k1 (P_ 130 0 153 63) [(@W.topFrame (P_ 0 0 0 0))])
abbrev k35:=(@W.piecesOf @wQ @zl k1 (P_ 120 0 129 33) [(@W.topFrame (P_ 0 0 0 0))])
abbrev k36:=(@W.piecesOf @y6 @zl k1 (P_ 104 0 119 31) [(@W.topFrame (P_ 0 0 0 0))])
abbrev k37:=(@W.piecesOf @xC @zl k1 (P_ 245 0 245 8) [(@W.topFrame (P_ 0 0 0 0))])
abbrev k38:=(@W.piecesOf @xE @zl k1 (P_ 91 0 103 31) [(@W.topFrame (P_ 0 0 0 0))])
abbrev k39:=(@W.piecesOf @wR @zl k1 (P_ 81 0 90 24) [(@W.topFrame (P_ 0 0 0 0))])
abbrev k40:=(@W.piecesOf @xF @zl k1 (P_ 54 0 80 47) [(@W.topFrame (P_ 0 0 0 0))])
abbrev k41:=(@W.piecesOf @wS @zl k1 (P_ 50 0 53 17) [(@W.topFrame (P_ 0 0 0 0))])
abbrev k42:=(@W.piecesOf @u3 @zl k1 (P_ 45 0 46 8) [(@W.topFrame (P_ 0 0 0 0))])
abbrev k43:=(@W.piecesOf @y7 @zl k1 (P_ 43 0 44 8) [(@W.topFrame (P_ 0 0 0 0))])
abbrev k44:=(@W.piecesOf @xG @zl k1 (P_ 41 0 42 8) [(@W.topFrame (P_ 0 0 0 0))])
abbrev k45:=(@W.piecesOf @wT @zl k1 (P_ 39 0 40 8) [(@W.topFrame (P_ 0 0 0 0))])
abbrev k46:=(@W.piecesOf @xH @zl k1 (P_ 37 0 38 8) [(@W.topFrame (P_ 0 0 0 0))])
abbrev k47:=(@W.piecesOf @wU @zl k1 (P_ 35 0 36 8) [(@W.topFrame (P_ 0 0 0 0))])
abbrev k48:=(@W.piecesOf @u4 @zl k1 (P_ 33 0 34 8) [(@W.topFrame (P_ 0 0 0 0))])
abbrev k49:=(@W.piecesOf @xI @zl k1 (P_ 31 0 32 8) [(@W.topFrame (P_ 0 0 0 0))])
abbrev k50:=(@W.piecesOf @wV @zl k1 (P_ 29 0 30 8) [(@W.topFrame (P_ 0 0 0 0))])
abbrev k51:=(@W.piecesOf @u5 @zl k1 (P_ 27 0 28 8) [(@W.topFrame (P_ 0 0 0 0))])
abbrev k52:=(@W.piecesOf @wW @zl k1 (P_ 25 0 26 8) [(@W.topFrame (P_ 0 0 0 0))])
abbrev k53:=(@List (@Option (@Prod @PyProof.Rows.PlainShape @Bool)))
abbrev k54:=(@W.piecesOf @rE @zl k1 (P_ 23 0 24 8) [(@W.topFrame (P_ 0 0 0 0))])
abbrev k55:=(@W.piecesOf @mG @zl k1 (P_ 0 0 0 0) [(@W.topFrame (P_ 0 0 0 0))])
abbrev k56:=(@PyProof.Rows.plainGoodE @h_view_39 (@W.looseW @h_view_39 []))
abbrev k57 (x0:World) (x1:OsState):=(S_ kF 685 1078 x0 x1)
abbrev k58 (x0:World) (x1:OsState):=(S_ kG 601 958 x0 x1)
abbrev k59 (x0:World) (x1:OsState):=(S_ kH 524 847 x0 x1)
abbrev k60 (x0:World) (x1:OsState):=(S_ kI 470 778 x0 x1)
abbrev k61 (x0:World) (x1:OsState):=(S_ kJ 423 715 x0 x1)
abbrev k62 (x0:World) (x1:OsState):=(S_ kK 390 674 x0 x1)
abbrev k63 (x0:World) (x1:OsState):=(S_ kL 343 617 x0 x1)
abbrev k64 (x0:World) (x1:OsState):=(S_ kM 303 568 x0 x1)
abbrev k65 (x0:World) (x1:OsState):=(S_ kN 270 527 x0 x1)
abbrev k66 (x0:World) (x1:OsState):=(S_ kO 214 453 x0 x1)
abbrev k67 (x0:World) (x1:OsState):=(S_ kP 195 426 x0 x1)
abbrev k68 (x0:World) (x1:OsState):=(S_ kQ 183 410 x0 x1)
abbrev k69 (x0:World) (x1:OsState):=(S_ kR 171 394 x0 x1)
abbrev k70 (x0:World) (x1:OsState):=(S_ kS 159 378 x0 x1)
abbrev k71 (x0:World) (x1:OsState):=(S_ kT 147 362 x0 x1)
abbrev k72 (x0:World) (x1:OsState):=(S_ kU 135 346 x0 x1)
abbrev k73 (x0:World) (x1:OsState):=(S_ kW 123 330 x0 x1)
abbrev k74 (x0:World) (x1:OsState):=(S_ kX 111 314 x0 x1)
abbrev k75:=(@PyProof.Rows.clssOf @h_view_39 (@W.looseW @h_view_39 []))
abbrev k76 (x0:World) (x1:OsState):=(S_ kY 99 298 x0 x1)
abbrev k77 (x0:World) (x1:OsState):=(S_ kZ 87 282 x0 x1)
abbrev k78 (x0:World) (x1:OsState):=(S_ k_ 75 266 x0 x1)
abbrev k79 (x0:World) (x1:OsState):=(S_ gA 63 250 x0 x1)
abbrev k80 (x0:World) (x1:OsState):=(S_ gB 15 187 x0 x1)
abbrev k81 (x0:World) (x1:OsState):=(@Shared.mk (@gC x0.params) g_ d_ 187 x1)
abbrev k82 (x0:World) (x1:OsState):=(@PyProof.Rows.tablesOk @h_view_39 (@Shared.heap (k3 x0 x1)))
abbrev k83 (x0:World) (x1:OsState):=(@PyProof.Rows.tabsOk @h_view_39 (k3 x0 x1))
abbrev k84:=(@PyProof.Rows.plainGoodD @h_view_39 [])
abbrev k85 (x0:World) (x1:OsState):=(@Heap.accountedOkI (@Shared.heap (k3 x0 x1)) k24)
abbrev k86 (x0:World) (x1:OsState):=(S_ kE 704 1115 x0 x1)
abbrev k87 (x0:World) (x1:OsState):=(@Heap.isNs (@Shared.heap (k3 x0 x1)) @mainGlobals)
abbrev k88 (x0:World) (x1:OsState):=(@Heap.isNs (@Shared.heap (k3 x0 x1)) @builtinsNs)
abbrev k89 (x0:World) (x1:OsState):=(@Shared.mk (@W.boot_heap x0.params) g_ @W.boot_drawn @W.boot_toks x1)
abbrev k90:=(@Thread.mk (@denote @treeTable k1) k1 (P_ 0 0 0 0) [(@W.topFrame (P_ 0 0 0 0))])
abbrev kh0:=(@W.kHook @h_heap_39 My.myAs (fun x0=>(@id (@Eq (@List @Addr) My.myAs (@List.map (@Prod @Addr @Obj) @Addr (fun (x1:(@Prod @Addr @Obj))=>(@Prod.fst @Addr @Obj x1)) (@h_heap_39 x0))) k19)))
theorem pf_837:((x0:World)→(@Eq ((x1:OsState)→(@W.Hook.α kh0)) (fun x1=>(@W.Hook.obs kh0 (k3 x0 x1))) (fun x1=>(@W.Hook.val kh0 x0)))):=by intros; kernel_rfl
theorem pf_827:((x0:World)→(@Eq ((x1:OsState)→k14) (fun x1=>(k28 x0 x1)) (fun x1=>(@W.clsGoodW @h_view_39 [])))):=by intros; kernel_rfl
theorem pf_825:((x0:World)→(@Eq ((x1:OsState)→k27) (fun x1=>(k30 x0 x1)) (fun x1=>(@W.wideGood @h_view_39)))):=by intros; kernel_rfl
theorem pf_828:((x0:World)→((x1:OsState)→(@Eq (@Prod k27 k14) ((k30 x0 x1),(k28 x0 x1)) ((@W.wideGood @h_view_39),(@W.clsGoodW @h_view_39 []))))):=(fun x0=>(fun x1=>(@W.looks_pair k27 k14 (k30 x0 x1) (@W.wideGood @h_view_39) (k28 x0 x1) (@W.clsGoodW @h_view_39 []) ((fun x2=>(fun x3=>(congrFun (My.pf_825 x2) x3))) x0 x1) ((fun x2=>(fun x3=>(congrFun (My.pf_827 x2) x3))) x0 x1))))
theorem pf_823:((x0:World)→(@Eq ((x1:OsState)→k53) (fun x1=>(k26 x0 x1)) (fun x1=>k84))):=by intros; kernel_rfl
theorem pf_829:((x0:World)→((x1:OsState)→(@Eq (@Prod k53 (@Prod k27 k14)) ((k26 x0 x1),((k30 x0 x1),(k28 x0 x1))) (k84,((@W.wideGood @h_view_39),(@W.clsGoodW @h_view_39 [])))))):=(fun x0=>(fun x1=>(@W.looks_pair k53 (@Prod k27 k14) (k26 x0 x1) k84 ((k30 x0 x1),(k28 x0 x1)) ((@W.wideGood @h_view_39),(@W.clsGoodW @h_view_39 [])) ((fun x2=>(fun x3=>(congrFun (My.pf_823 x2) x3))) x0 x1) (@My.pf_828 x0 x1))))
theorem pf_821:((x0:World)→(@Eq ((x1:OsState)→(@List (@Option @PyProof.Rows.PlainShape))) (fun x1=>(k18 x0 x1)) (fun x1=>k56))):=by intros; kernel_rfl
theorem pf_830:((x0:World)→((x1:OsState)→(@Eq (@Prod (@List (@Option @PyProof.Rows.PlainShape)) (@Prod k53 (@Prod k27 k14))) ((k18 x0 x1),((k26 x0 x1),((k30 x0 x1),(k28 x0 x1)))) (k56,(k84,((@W.wideGood @h_view_39),(@W.clsGoodW @h_view_39 []))))))):=(fun x0=>(fun x1=>(@W.looks_pair (@List (@Option @PyProof.Rows.PlainShape)) (@Prod k53 (@Prod k27 k14)) (k18 x0 x1) k56 ((k26 x0 x1),((k30 x0 x1),(k28 x0 x1))) (k84,((@W.wideGood @h_view_39),(@W.clsGoodW @h_view_39 []))) ((fun x2=>(fun x3=>(congrFun (My.pf_821 x2) x3))) x0 x1) (@My.pf_829 x0 x1))))
theorem pf_819:((x0:World)→(@Eq ((x1:OsState)→k27) (fun x1=>(k25 x0 x1)) (fun x1=>(@pinGoodD (@PyProof.Rows.drecsOf @h_view_39))))):=by intros; kernel_rfl
theorem pf_831:((x0:World)→((x1:OsState)→(@Eq k6 ((k25 x0 x1),((k18 x0 x1),((k26 x0 x1),((k30 x0 x1),(k28 x0 x1))))) ((@pinGoodD (@PyProof.Rows.drecsOf @h_view_39)),(k56,(k84,((@W.wideGood @h_view_39),(@W.clsGoodW @h_view_39 [])))))))):=(fun x0=>(fun x1=>(@W.looks_pair k27 (@Prod (@List (@Option @PyProof.Rows.PlainShape)) (@Prod k53 (@Prod k27 k14))) (k25 x0 x1) (@pinGoodD (@PyProof.Rows.drecsOf @h_view_39)) ((k18 x0 x1),((k26 x0 x1),((k30 x0 x1),(k28 x0 x1)))) (k56,(k84,((@W.wideGood @h_view_39),(@W.clsGoodW @h_view_39 [])))) ((fun x2=>(fun x3=>(congrFun (My.pf_819 x2) x3))) x0 x1) (@My.pf_830 x0 x1))))
theorem pf_817:((x0:World)→(@Eq ((x1:OsState)→@Bool) (fun x1=>(k83 x0 x1)) (fun x1=>@Bool.true))):=by intros; kernel_rfl
theorem pf_832:((x0:World)→((x1:OsState)→(@Eq (@Prod @Bool k6) ((k83 x0 x1),((k25 x0 x1),((k18 x0 x1),((k26 x0 x1),((k30 x0 x1),(k28 x0 x1)))))) k13))):=(fun x0=>(fun x1=>(@W.looks_pair @Bool k6 (k83 x0 x1) @Bool.true ((k25 x0 x1),((k18 x0 x1),((k26 x0 x1),((k30 x0 x1),(k28 x0 x1))))) ((@pinGoodD (@PyProof.Rows.drecsOf @h_view_39)),(k56,(k84,((@W.wideGood @h_view_39),(@W.clsGoodW @h_view_39 []))))) ((fun x2=>(fun x3=>(congrFun (My.pf_817 x2) x3))) x0 x1) (@My.pf_831 x0 x1))))
theorem pf_815:((x0:World)→(@Eq ((x1:OsState)→@Bool) (fun x1=>(@Bool.and (@Bool.and (@Bool.and (@Bool.and (@Bool.and (@Bool.and (@Heap.keysOk (@Shared.heap (k3 x0 x1)) (@W.looseW @h_view_39 []) (@List.map @DefRec @Str (fun (x2:@DefRec)=>(@DefRec.name x2)) (@PyProof.Rows.recsOf @h_view_39)) (@List.map (@Prod @Str @PyData) @Str (fun (x2:(@Prod @Str @PyData))=>(@Prod.fst @Str @PyData x2)) (@PyProof.Rows.litsOf @h_view_39)) (@List.map @ClsRec @Str (fun (x2:@ClsRec)=>(@ClsRec.name x2)) k75)) (k85 x0 x1)) (k87 x0 x1)) (k88 x0 x1)) (k82 x0 x1)) ((fun (x2:@Shared)=>(@Bool.and (@W.xlAt @h_view_39 k29 x2) (@W.recOk (@W.RowW.records k4) x2))) (k3 x0 x1))) (k12 x0 x1))) (fun x1=>@Bool.true))):=by intros; kernel_rfl
theorem pf_833:((x0:World)→((x1:OsState)→(@Eq (@Prod @Bool (@Prod @Bool k6)) ((@Bool.and (@Bool.and (@Bool.and (@Bool.and (@Bool.and (@Bool.and (@Heap.keysOk (@Shared.heap (k3 x0 x1)) (@W.looseW @h_view_39 []) (@List.map @DefRec @Str (fun (x2:@DefRec)=>(@DefRec.name x2)) (@PyProof.Rows.recsOf @h_view_39)) (@List.map (@Prod @Str @PyData) @Str (fun (x2:(@Prod @Str @PyData))=>(@Prod.fst @Str @PyData x2)) (@PyProof.Rows.litsOf @h_view_39)) (@List.map @ClsRec @Str (fun (x2:@ClsRec)=>(@ClsRec.name x2)) k75)) (k85 x0 x1)) (k87 x0 x1)) (k88 x0 x1)) (k82 x0 x1)) ((fun (x2:@Shared)=>(@Bool.and (@W.xlAt @h_view_39 k29 x2) (@W.recOk (@W.RowW.records k4) x2))) (k3 x0 x1))) (k12 x0 x1)),((k83 x0 x1),((k25 x0 x1),((k18 x0 x1),((k26 x0 x1),((k30 x0 x1),(k28 x0 x1))))))) (@Bool.true,k13)))):=(fun x0=>(fun x1=>(@W.looks_pair @Bool (@Prod @Bool k6) (@Bool.and (@Bool.and (@Bool.and (@Bool.and (@Bool.and (@Bool.and (@Heap.keysOk (@Shared.heap (k3 x0 x1)) (@W.looseW @h_view_39 []) (@List.map @DefRec @Str (fun (x2:@DefRec)=>(@DefRec.name x2)) (@PyProof.Rows.recsOf @h_view_39)) (@List.map (@Prod @Str @PyData) @Str (fun (x2:(@Prod @Str @PyData))=>(@Prod.fst @Str @PyData x2)) (@PyProof.Rows.litsOf @h_view_39)) (@List.map @ClsRec @Str (fun (x2:@ClsRec)=>(@ClsRec.name x2)) k75)) (k85 x0 x1)) (k87 x0 x1)) (k88 x0 x1)) (k82 x0 x1)) ((fun (x2:@Shared)=>(@Bool.and (@W.xlAt @h_view_39 k29 x2) (@W.recOk (@W.RowW.records k4) x2))) (k3 x0 x1))) (k12 x0 x1)) @Bool.true ((k83 x0 x1),((k25 x0 x1),((k18 x0 x1),((k26 x0 x1),((k30 x0 x1),(k28 x0 x1)))))) k13 ((fun x2=>(fun x3=>(congrFun (My.pf_815 x2) x3))) x0 x1) (@My.pf_832 x0 x1))))
theorem pf_813:((x0:World)→(@Eq ((x1:OsState)→(@Prod (@Option @Str) (@List (@Prod @Str @Value)))) (fun x1=>(@Heap.bltView (@Shared.heap (k3 x0 x1)))) (fun x1=>@bltViewBooted))):=by intros; kernel_rfl
theorem pf_834:((x0:World)→((x1:OsState)→(@Eq k16 ((@Heap.bltView (@Shared.heap (k3 x0 x1))),((@Bool.and (@Bool.and (@Bool.and (@Bool.and (@Bool.and (@Bool.and (@Heap.keysOk (@Shared.heap (k3 x0 x1)) (@W.looseW @h_view_39 []) (@List.map @DefRec @Str (fun (x2:@DefRec)=>(@DefRec.name x2)) (@PyProof.Rows.recsOf @h_view_39)) (@List.map (@Prod @Str @PyData) @Str (fun (x2:(@Prod @Str @PyData))=>(@Prod.fst @Str @PyData x2)) (@PyProof.Rows.litsOf @h_view_39)) (@List.map @ClsRec @Str (fun (x2:@ClsRec)=>(@ClsRec.name x2)) k75)) (k85 x0 x1)) (k87 x0 x1)) (k88 x0 x1)) (k82 x0 x1)) ((fun (x2:@Shared)=>(@Bool.and (@W.xlAt @h_view_39 k29 x2) (@W.recOk (@W.RowW.records k4) x2))) (k3 x0 x1))) (k12 x0 x1)),((k83 x0 x1),((k25 x0 x1),((k18 x0 x1),((k26 x0 x1),((k30 x0 x1),(k28 x0 x1)))))))) (@bltViewBooted,(@Bool.true,k13))))):=(fun x0=>(fun x1=>(@W.looks_pair (@Prod (@Option @Str) (@List (@Prod @Str @Value))) (@Prod @Bool (@Prod @Bool k6)) (@Heap.bltView (@Shared.heap (k3 x0 x1))) @bltViewBooted ((@Bool.and (@Bool.and (@Bool.and (@Bool.and (@Bool.and (@Bool.and (@Heap.keysOk (@Shared.heap (k3 x0 x1)) (@W.looseW @h_view_39 []) (@List.map @DefRec @Str (fun (x2:@DefRec)=>(@DefRec.name x2)) (@PyProof.Rows.recsOf @h_view_39)) (@List.map (@Prod @Str @PyData) @Str (fun (x2:(@Prod @Str @PyData))=>(@Prod.fst @Str @PyData x2)) (@PyProof.Rows.litsOf @h_view_39)) (@List.map @ClsRec @Str (fun (x2:@ClsRec)=>(@ClsRec.name x2)) k75)) (k85 x0 x1)) (k87 x0 x1)) (k88 x0 x1)) (k82 x0 x1)) ((fun (x2:@Shared)=>(@Bool.and (@W.xlAt @h_view_39 k29 x2) (@W.recOk (@W.RowW.records k4) x2))) (k3 x0 x1))) (k12 x0 x1)),((k83 x0 x1),((k25 x0 x1),((k18 x0 x1),((k26 x0 x1),((k30 x0 x1),(k28 x0 x1))))))) (@Bool.true,k13) ((fun x2=>(fun x3=>(congrFun (My.pf_813 x2) x3))) x0 x1) (@My.pf_833 x0 x1))))
theorem pf_811:((x0:World)→(@Eq ((x1:OsState)→@PyProof.Rows.Seen) (fun x1=>(@PyProof.Rows.seen (@List.map @DefRec @Str (fun (x2:@DefRec)=>(@DefRec.name x2)) (@PyProof.Rows.recsOf @h_view_39)) (@PyProof.Rows.ownsOf @h_view_39) [] (@Shared.mk (@Shared.heap (k3 x0 x1)) #[] (@Shared.drawn (k3 x0 x1)) (@Shared.toks (k3 x0 x1)) (@Shared.os (k3 x0 x1))))) (fun x1=>(@PyProof.Rows.expectedOf @h_view_39)))):=by intros; kernel_rfl
theorem pf_835:((x0:World)→((x1:OsState)→(@Eq (@Prod @PyProof.Rows.Seen k16) (@W.openSeen @h_view_39 [] k24 (fun (x2:@Shared)=>(@Bool.and (@W.xlAt @h_view_39 k29 x2) (@W.recOk (@W.RowW.records k4) x2))) @Bool.true (k3 x0 x1)) (@W.openGood @h_view_39 [])))):=(fun x0=>(fun x1=>(@W.looks_pair @PyProof.Rows.Seen k16 (@PyProof.Rows.seen (@List.map @DefRec @Str (fun (x2:@DefRec)=>(@DefRec.name x2)) (@PyProof.Rows.recsOf @h_view_39)) (@PyProof.Rows.ownsOf @h_view_39) [] (@Shared.mk (@Shared.heap (k3 x0 x1)) #[] (@Shared.drawn (k3 x0 x1)) (@Shared.toks (k3 x0 x1)) (@Shared.os (k3 x0 x1)))) (@PyProof.Rows.expectedOf @h_view_39) ((@Heap.bltView (@Shared.heap (k3 x0 x1))),((@Bool.and (@Bool.and (@Bool.and (@Bool.and (@Bool.and (@Bool.and (@Heap.keysOk (@Shared.heap (k3 x0 x1)) (@W.looseW @h_view_39 []) (@List.map @DefRec @Str (fun (x2:@DefRec)=>(@DefRec.name x2)) (@PyProof.Rows.recsOf @h_view_39)) (@List.map (@Prod @Str @PyData) @Str (fun (x2:(@Prod @Str @PyData))=>(@Prod.fst @Str @PyData x2)) (@PyProof.Rows.litsOf @h_view_39)) (@List.map @ClsRec @Str (fun (x2:@ClsRec)=>(@ClsRec.name x2)) k75)) (k85 x0 x1)) (k87 x0 x1)) (k88 x0 x1)) (k82 x0 x1)) ((fun (x2:@Shared)=>(@Bool.and (@W.xlAt @h_view_39 k29 x2) (@W.recOk (@W.RowW.records k4) x2))) (k3 x0 x1))) (k12 x0 x1)),((k83 x0 x1),((k25 x0 x1),((k18 x0 x1),((k26 x0 x1),((k30 x0 x1),(k28 x0 x1)))))))) (@bltViewBooted,(@Bool.true,k13)) ((fun x2=>(fun x3=>(congrFun (My.pf_811 x2) x3))) x0 x1) (@My.pf_834 x0 x1))))
theorem pf_838:((x0:World)→((x1:OsState)→(@Eq (@Prod (@Prod @PyProof.Rows.Seen k16) (@W.Hook.α kh0)) ((@W.openSeen @h_view_39 [] k24 (fun (x2:@Shared)=>(@Bool.and (@W.xlAt @h_view_39 k29 x2) (@W.recOk (@W.RowW.records k4) x2))) @Bool.true (k3 x0 x1)),(@W.Hook.obs kh0 (k3 x0 x1))) ((@W.openGood @h_view_39 []),(@W.Hook.val kh0 x0))))):=(fun x0=>(fun x1=>(@W.looks_pair (@Prod @PyProof.Rows.Seen k16) (@W.Hook.α kh0) (@W.openSeen @h_view_39 [] k24 (fun (x2:@Shared)=>(@Bool.and (@W.xlAt @h_view_39 k29 x2) (@W.recOk (@W.RowW.records k4) x2))) @Bool.true (k3 x0 x1)) (@W.openGood @h_view_39 []) (@W.Hook.obs kh0 (k3 x0 x1)) (@W.Hook.val kh0 x0) (@My.pf_835 x0 x1) ((fun x2=>(fun x3=>(congrFun (My.pf_837 x2) x3))) x0 x1))))
theorem pf_809:((x0:World)→(@Eq ((x1:OsState)→@Bool) (fun x1=>(k15 x0 x1)) (fun x1=>@Bool.true))):=by intros; kernel_rfl
theorem pf_839:((x0:World)→((x1:OsState)→(@Eq (@Prod @Bool (@Prod (@Prod @PyProof.Rows.Seen k16) (@W.Hook.α kh0))) ((k15 x0 x1),((@W.openSeen @h_view_39 [] k24 (fun (x2:@Shared)=>(@Bool.and (@W.xlAt @h_view_39 k29 x2) (@W.recOk (@W.RowW.records k4) x2))) @Bool.true (k3 x0 x1)),(@W.Hook.obs kh0 (k3 x0 x1)))) (@Bool.true,((@W.openGood @h_view_39 []),(@W.Hook.val kh0 x0)))))):=(fun x0=>(fun x1=>(@W.looks_pair @Bool (@Prod (@Prod @PyProof.Rows.Seen k16) (@W.Hook.α kh0)) (k15 x0 x1) @Bool.true ((@W.openSeen @h_view_39 [] k24 (fun (x2:@Shared)=>(@Bool.and (@W.xlAt @h_view_39 k29 x2) (@W.recOk (@W.RowW.records k4) x2))) @Bool.true (k3 x0 x1)),(@W.Hook.obs kh0 (k3 x0 x1))) ((@W.openGood @h_view_39 []),(@W.Hook.val kh0 x0)) ((fun x2=>(fun x3=>(congrFun (My.pf_809 x2) x3))) x0 x1) (@My.pf_838 x0 x1))))
theorem pf_804:((x0:World)→(@Eq ((x1:OsState)→(@Option @Shared)) (fun x1=>(@W.topRun @treeTable (k4).1 x0 11 v_ 2 (@W.SharedT.abs (k86 x0 x1)) (@Thread.mk (@W.doneF @Flow.next) k1 (P_ 363 0 391 34) [(@W.topFrame (P_ 0 0 0 0))]))) (fun x1=>(@some @Shared (k3 x0 x1))))):=by intros; kernel_rfl
theorem pf_802:((x0:World)→(@Eq ((x1:OsState)→(@Option k7)) (fun x1=>(@W.segRunT @treeTable (k4).1 x0 11 v_ 1 102 (k57 x0 x1) k32)) (fun x1=>(@some k7 (@Flow.next,((k86 x0 x1),(k1,(P_ 363 0 391 34)))))))):=by intros; kernel_rfl
theorem pf_781:((x0:World)→(@Eq ((x1:OsState)→(@Option k7)) (fun x1=>(@W.segRunT @treeTable (k4).1 x0 11 v_ 1 392 (k58 x0 x1) k37)) (fun x1=>(@some k7 (@Flow.next,((k57 x0 x1),(k1,(P_ 336 0 343 70)))))))):=by intros; kernel_rfl
theorem pf_695:((x0:World)→(@Eq ((x1:OsState)→(@Option k7)) (fun x1=>(@W.segRunT @treeTable (k4).1 x0 11 v_ 1 382 (k59 x0 x1) k33)) (fun x1=>(@some k7 (@Flow.next,((k58 x0 x1),(k1,(P_ 245 0 245 8)))))))):=by intros; kernel_rfl
theorem pf_616:((x0:World)→(@Eq ((x1:OsState)→(@Option k7)) (fun x1=>(@W.segRunT @treeTable (k4).1 x0 11 v_ 1 410 (k60 x0 x1) k34)) (fun x1=>(@some k7 (@Flow.next,((k59 x0 x1),(k1,(P_ 154 0 176 30)))))))):=by intros; kernel_rfl
theorem pf_559:((x0:World)→(@Eq ((x1:OsState)→(@Option k7)) (fun x1=>(@W.segRunT @treeTable (k4).1 x0 11 v_ 1 380 (k61 x0 x1) k35)) (fun x1=>(@some k7 (@Flow.next,((k60 x0 x1),(k1,(P_ 130 0 153 63)))))))):=by intros; kernel_rfl
theorem pf_509:((x0:World)→(@Eq ((x1:OsState)→(@Option k7)) (fun x1=>(@W.segRunT @treeTable (k4).1 x0 11 v_ 1 310 (k62 x0 x1) k36)) (fun x1=>(@some k7 (@Flow.next,((k61 x0 x1),(k1,(P_ 120 0 129 33)))))))):=by intros; kernel_rfl
theorem pf_473:((x0:World)→(@Eq ((x1:OsState)→(@Option k7)) (fun x1=>(@W.segRunT @treeTable (k4).1 x0 11 v_ 1 374 (k63 x0 x1) k38)) (fun x1=>(@some k7 (@Flow.next,((k62 x0 x1),(k1,(P_ 104 0 119 31)))))))):=by intros; kernel_rfl
theorem pf_423:((x0:World)→(@Eq ((x1:OsState)→(@Option k7)) (fun x1=>(@W.segRunT @treeTable (k4).1 x0 11 v_ 1 342 (k64 x0 x1) k39)) (fun x1=>(@some k7 (@Flow.next,((k63 x0 x1),(k1,(P_ 91 0 103 31)))))))):=by intros; kernel_rfl
theorem pf_380:((x0:World)→(@Eq ((x1:OsState)→(@Option k7)) (fun x1=>(@W.segRunT @treeTable (k4).1 x0 11 v_ 1 310 (k65 x0 x1) k40)) (fun x1=>(@some k7 (@Flow.next,((k64 x0 x1),(k1,(P_ 81 0 90 24)))))))):=by intros; kernel_rfl
theorem pf_344:((x0:World)→(@Eq ((x1:OsState)→(@Option k7)) (fun x1=>(@W.segRunT @treeTable (k4).1 x0 11 v_ 1 388 (k66 x0 x1) k41)) (fun x1=>(@some k7 (@Flow.next,((k65 x0 x1),(k1,(P_ 54 0 80 47)))))))):=by intros; kernel_rfl
theorem pf_286:((x0:World)→(@Eq ((x1:OsState)→(@Option k7)) (fun x1=>(@W.segRunT @treeTable (k4).1 x0 11 v_ 1 254 (k67 x0 x1) k42)) (fun x1=>(@some k7 (@Flow.next,((k66 x0 x1),(k1,(P_ 50 0 53 17)))))))):=by intros; kernel_rfl
theorem pf_264:((x0:World)→(@Eq ((x1:OsState)→(@Option k7)) (fun x1=>(@W.segRunT @treeTable (k4).1 x0 11 v_ 1 214 (k68 x0 x1) k43)) (fun x1=>(@some k7 (@Flow.next,((k67 x0 x1),(k1,(P_ 45 0 46 8)))))))):=by intros; kernel_rfl
theorem pf_249:((x0:World)→(@Eq ((x1:OsState)→(@Option k7)) (fun x1=>(@W.segRunT @treeTable (k4).1 x0 11 v_ 1 214 (k69 x0 x1) k44)) (fun x1=>(@some k7 (@Flow.next,((k68 x0 x1),(k1,(P_ 43 0 44 8)))))))):=by intros; kernel_rfl
theorem pf_234:((x0:World)→(@Eq ((x1:OsState)→(@Option k7)) (fun x1=>(@W.segRunT @treeTable (k4).1 x0 11 v_ 1 214 (k70 x0 x1) k45)) (fun x1=>(@some k7 (@Flow.next,((k69 x0 x1),(k1,(P_ 41 0 42 8)))))))):=by intros; kernel_rfl
theorem pf_219:((x0:World)→(@Eq ((x1:OsState)→(@Option k7)) (fun x1=>(@W.segRunT @treeTable (k4).1 x0 11 v_ 1 214 (k71 x0 x1) k46)) (fun x1=>(@some k7 (@Flow.next,((k70 x0 x1),(k1,(P_ 39 0 40 8)))))))):=by intros; kernel_rfl
theorem pf_204:((x0:World)→(@Eq ((x1:OsState)→(@Option k7)) (fun x1=>(@W.segRunT @treeTable (k4).1 x0 11 v_ 1 214 (k72 x0 x1) k47)) (fun x1=>(@some k7 (@Flow.next,((k71 x0 x1),(k1,(P_ 37 0 38 8)))))))):=by intros; kernel_rfl
theorem pf_189:((x0:World)→(@Eq ((x1:OsState)→(@Option k7)) (fun x1=>(@W.segRunT @treeTable (k4).1 x0 11 v_ 1 214 (k73 x0 x1) k48)) (fun x1=>(@some k7 (@Flow.next,((k72 x0 x1),(k1,(P_ 35 0 36 8)))))))):=by intros; kernel_rfl
theorem pf_174:((x0:World)→(@Eq ((x1:OsState)→(@Option k7)) (fun x1=>(@W.segRunT @treeTable (k4).1 x0 11 v_ 1 214 (k74 x0 x1) k49)) (fun x1=>(@some k7 (@Flow.next,((k73 x0 x1),(k1,(P_ 33 0 34 8)))))))):=by intros; kernel_rfl
theorem pf_159:((x0:World)→(@Eq ((x1:OsState)→(@Option k7)) (fun x1=>(@W.segRunT @treeTable (k4).1 x0 11 v_ 1 214 (k76 x0 x1) k50)) (fun x1=>(@some k7 (@Flow.next,((k74 x0 x1),(k1,(P_ 31 0 32 8)))))))):=by intros; kernel_rfl
theorem pf_144:((x0:World)→(@Eq ((x1:OsState)→(@Option k7)) (fun x1=>(@W.segRunT @treeTable (k4).1 x0 11 v_ 1 214 (k77 x0 x1) k51)) (fun x1=>(@some k7 (@Flow.next,((k76 x0 x1),(k1,(P_ 29 0 30 8)))))))):=by intros; kernel_rfl
theorem pf_129:((x0:World)→(@Eq ((x1:OsState)→(@Option k7)) (fun x1=>(@W.segRunT @treeTable (k4).1 x0 11 v_ 1 214 (k78 x0 x1) k52)) (fun x1=>(@some k7 (@Flow.next,((k77 x0 x1),(k1,(P_ 27 0 28 8)))))))):=by intros; kernel_rfl
theorem pf_114:((x0:World)→(@Eq ((x1:OsState)→(@Option k7)) (fun x1=>(@W.segRunT @treeTable (k4).1 x0 11 v_ 1 214 (k79 x0 x1) k54)) (fun x1=>(@some k7 (@Flow.next,((k78 x0 x1),(k1,(P_ 25 0 26 8)))))))):=by intros; kernel_rfl
theorem pf_99:((x0:World)→(@Eq ((x1:OsState)→(@Option k7)) (fun x1=>(@W.segRunT @treeTable (k4).1 x0 11 v_ 1 356 (k80 x0 x1) k55)) (fun x1=>(@some k7 (@Flow.next,((k79 x0 x1),(k1,(P_ 23 0 24 8)))))))):=by intros; kernel_rfl
theorem pf_49:((x0:World)→(@Eq ((x1:OsState)→(@Option k8)) (fun x1=>(@W.segRun @treeTable (k4).1 x0 11 v_ 1 1 (k81 x0 x1) (@W.blockOf (@W.behindTheImports (k4).1) @zl k1 (P_ 0 0 0 0) [(@W.topFrame (P_ 0 0 0 0))]))) (fun x1=>(@some k8 (@Flow.next,((@W.SharedT.abs (k80 x0 x1)),(k1,(P_ 0 0 0 0)))))))):=by intros; kernel_rfl
theorem pf_47:((x0:World)→(@Eq ((x1:OsState)→(@Option (@Prod @Shared @Thread))) (fun x1=>(@W.topGo @treeTable (k4).1 x0 11 v_ 12 (k89 x0 x1) (@W.topStub (k4).1))) (fun x1=>(@some (@Prod @Shared @Thread) ((k81 x0 x1),k90))))):=by intros; kernel_rfl
theorem pf_805:((x0:World)→((x1:OsState)→(@Eq (@Option @Shared) (@W.topRun @treeTable (k4).1 x0 11 v_ (@Nat.add 12 (@Nat.add 1 k17)) (k89 x0 x1) (@W.topStub (k4).1)) (@some @Shared (k3 x0 x1))))):=(fun x0=>(fun x1=>(@W.go_top @treeTable (k4).1 x0 11 v_ 12 (@Nat.add 1 k17) (k89 x0 x1) (k81 x0 x1) (k3 x0 x1) (@W.topStub (k4).1) k90 (congrFun (My.pf_47 x0) x1) (@W.piece_block @treeTable (k4).1 x0 11 v_ @zl (P_ 0 0 0 0) 1 k17 (k81 x0 x1) (@W.SharedT.abs (k80 x0 x1)) (k3 x0 x1) (@W.behindTheImports (k4).1) k1 (P_ 0 0 0 0) (P_ 0 0 0 0) (congrFun (My.pf_49 x0) x1) (@W.piece_app @treeTable (k4).1 x0 11 v_ @zl (P_ 0 0 0 0) 356 (@Nat.add 214 (@Nat.add 214 (@Nat.add 214 (@Nat.add 214 (@Nat.add 214 (@Nat.add 214 (@Nat.add 214 k9))))))) (@W.SharedT.abs (k80 x0 x1)) (@W.SharedT.abs (k79 x0 x1)) (k3 x0 x1) @mG (@HAppend.hAppend (@List @Stmt) (@List @Stmt) (@List @Stmt) k5 @rE (@HAppend.hAppend (@List @Stmt) (@List @Stmt) (@List @Stmt) k5 @wW k21)) k1 (P_ 0 0 0 0) (P_ 23 0 24 8) (sg_ (congrFun (My.pf_99 x0) x1)) (@W.piece_app @treeTable (k4).1 x0 11 v_ @zl (P_ 0 0 0 0) 214 (@Nat.add 214 (@Nat.add 214 (@Nat.add 214 (@Nat.add 214 (@Nat.add 214 (@Nat.add 214 k9)))))) (@W.SharedT.abs (k79 x0 x1)) (@W.SharedT.abs (k78 x0 x1)) (k3 x0 x1) @rE (@HAppend.hAppend (@List @Stmt) (@List @Stmt) (@List @Stmt) k5 @wW k21) k1 (P_ 23 0 24 8) (P_ 25 0 26 8) (sg_ (congrFun (My.pf_114 x0) x1)) (@W.piece_app @treeTable (k4).1 x0 11 v_ @zl (P_ 0 0 0 0) 214 (@Nat.add 214 (@Nat.add 214 (@Nat.add 214 (@Nat.add 214 (@Nat.add 214 k9))))) (@W.SharedT.abs (k78 x0 x1)) (@W.SharedT.abs (k77 x0 x1)) (k3 x0 x1) @wW k21 k1 (P_ 25 0 26 8) (P_ 27 0 28 8) (sg_ (congrFun (My.pf_129 x0) x1)) (@W.piece_app @treeTable (k4).1 x0 11 v_ @zl (P_ 0 0 0 0) 214 (@Nat.add 214 (@Nat.add 214 (@Nat.add 214 (@Nat.add 214 k9)))) (@W.SharedT.abs (k77 x0 x1)) (@W.SharedT.abs (k76 x0 x1)) (k3 x0 x1) @u5 (@HAppend.hAppend (@List @Stmt) (@List @Stmt) (@List @Stmt) k5 @wV (@HAppend.hAppend (@List @Stmt) (@List @Stmt) (@List @Stmt) k5 @xI k10)) k1 (P_ 27 0 28 8) (P_ 29 0 30 8) (sg_ (congrFun (My.pf_144 x0) x1)) (@W.piece_app @treeTable (k4).1 x0 11 v_ @zl (P_ 0 0 0 0) 214 (@Nat.add 214 (@Nat.add 214 (@Nat.add 214 k9))) (@W.SharedT.abs (k76 x0 x1)) (@W.SharedT.abs (k74 x0 x1)) (k3 x0 x1) @wV (@HAppend.hAppend (@List @Stmt) (@List @Stmt) (@List @Stmt) k5 @xI k10) k1 (P_ 29 0 30 8) (P_ 31 0 32 8) (sg_ (congrFun (My.pf_159 x0) x1)) (@W.piece_app @treeTable (k4).1 x0 11 v_ @zl (P_ 0 0 0 0) 214 (@Nat.add 214 (@Nat.add 214 k9)) (@W.SharedT.abs (k74 x0 x1)) (@W.SharedT.abs (k73 x0 x1)) (k3 x0 x1) @xI k10 k1 (P_ 31 0 32 8) (P_ 33 0 34 8) (sg_ (congrFun (My.pf_174 x0) x1)) (@W.piece_app @treeTable (k4).1 x0 11 v_ @zl (P_ 0 0 0 0) 214 (@Nat.add 214 k9) (@W.SharedT.abs (k73 x0 x1)) (@W.SharedT.abs (k72 x0 x1)) (k3 x0 x1) @u4 (@HAppend.hAppend (@List @Stmt) (@List @Stmt) (@List @Stmt) k5 @wU (@HAppend.hAppend (@List @Stmt) (@List @Stmt) (@List @Stmt) k5 @xH k23)) k1 (P_ 33 0 34 8) (P_ 35 0 36 8) (sg_ (congrFun (My.pf_189 x0) x1)) (@W.piece_app @treeTable (k4).1 x0 11 v_ @zl (P_ 0 0 0 0) 214 k9 (@W.SharedT.abs (k72 x0 x1)) (@W.SharedT.abs (k71 x0 x1)) (k3 x0 x1) @wU (@HAppend.hAppend (@List @Stmt) (@List @Stmt) (@List @Stmt) k5 @xH k23) k1 (P_ 35 0 36 8) (P_ 37 0 38 8) (sg_ (congrFun (My.pf_204 x0) x1)) (@W.piece_app @treeTable (k4).1 x0 11 v_ @zl (P_ 0 0 0 0) 214 (@Nat.add 214 (@Nat.add 214 (@Nat.add 214 (@Nat.add 254 (@Nat.add 388 (@Nat.add 310 (@Nat.add 342 k20))))))) (@W.SharedT.abs (k71 x0 x1)) (@W.SharedT.abs (k70 x0 x1)) (k3 x0 x1) @xH k23 k1 (P_ 37 0 38 8) (P_ 39 0 40 8) (sg_ (congrFun (My.pf_219 x0) x1)) (@W.piece_app @treeTable (k4).1 x0 11 v_ @zl (P_ 0 0 0 0) 214 (@Nat.add 214 (@Nat.add 214 (@Nat.add 254 (@Nat.add 388 (@Nat.add 310 (@Nat.add 342 k20)))))) (@W.SharedT.abs (k70 x0 x1)) (@W.SharedT.abs (k69 x0 x1)) (k3 x0 x1) @wT (@HAppend.hAppend (@List @Stmt) (@List @Stmt) (@List @Stmt) k5 @xG (@HAppend.hAppend (@List @Stmt) (@List @Stmt) (@List @Stmt) k5 @y7 k2)) k1 (P_ 39 0 40 8) (P_ 41 0 42 8) (sg_ (congrFun (My.pf_234 x0) x1)) (@W.piece_app @treeTable (k4).1 x0 11 v_ @zl (P_ 0 0 0 0) 214 (@Nat.add 214 (@Nat.add 254 (@Nat.add 388 (@Nat.add 310 (@Nat.add 342 k20))))) (@W.SharedT.abs (k69 x0 x1)) (@W.SharedT.abs (k68 x0 x1)) (k3 x0 x1) @xG (@HAppend.hAppend (@List @Stmt) (@List @Stmt) (@List @Stmt) k5 @y7 k2) k1 (P_ 41 0 42 8) (P_ 43 0 44 8) (sg_ (congrFun (My.pf_249 x0) x1)) (@W.piece_app @treeTable (k4).1 x0 11 v_ @zl (P_ 0 0 0 0) 214 (@Nat.add 254 (@Nat.add 388 (@Nat.add 310 (@Nat.add 342 k20)))) (@W.SharedT.abs (k68 x0 x1)) (@W.SharedT.abs (k67 x0 x1)) (k3 x0 x1) @y7 k2 k1 (P_ 43 0 44 8) (P_ 45 0 46 8) (sg_ (congrFun (My.pf_264 x0) x1)) (@W.piece_app @treeTable (k4).1 x0 11 v_ @zl (P_ 0 0 0 0) 254 (@Nat.add 388 (@Nat.add 310 (@Nat.add 342 k20))) (@W.SharedT.abs (k67 x0 x1)) (@W.SharedT.abs (k66 x0 x1)) (k3 x0 x1) @u3 (@HAppend.hAppend (@List @Stmt) (@List @Stmt) (@List @Stmt) k5 @wS (@HAppend.hAppend (@List @Stmt) (@List @Stmt) (@List @Stmt) k5 @xF k22)) k1 (P_ 45 0 46 8) (P_ 50 0 53 17) (sg_ (congrFun (My.pf_286 x0) x1)) (@W.piece_app @treeTable (k4).1 x0 11 v_ @zl (P_ 0 0 0 0) 388 (@Nat.add 310 (@Nat.add 342 k20)) (@W.SharedT.abs (k66 x0 x1)) (@W.SharedT.abs (k65 x0 x1)) (k3 x0 x1) @wS (@HAppend.hAppend (@List @Stmt) (@List @Stmt) (@List @Stmt) k5 @xF k22) k1 (P_ 50 0 53 17) (P_ 54 0 80 47) (sg_ (congrFun (My.pf_344 x0) x1)) (@W.piece_app @treeTable (k4).1 x0 11 v_ @zl (P_ 0 0 0 0) 310 (@Nat.add 342 k20) (@W.SharedT.abs (k65 x0 x1)) (@W.SharedT.abs (k64 x0 x1)) (k3 x0 x1) @xF k22 k1 (P_ 54 0 80 47) (P_ 81 0 90 24) (sg_ (congrFun (My.pf_380 x0) x1)) (@W.piece_app @treeTable (k4).1 x0 11 v_ @zl (P_ 0 0 0 0) 342 k20 (@W.SharedT.abs (k64 x0 x1)) (@W.SharedT.abs (k63 x0 x1)) (k3 x0 x1) @wR (@HAppend.hAppend (@List @Stmt) (@List @Stmt) (@List @Stmt) k5 @xE (@HAppend.hAppend (@List @Stmt) (@List @Stmt) (@List @Stmt) k5 @y6 k11)) k1 (P_ 81 0 90 24) (P_ 91 0 103 31) (sg_ (congrFun (My.pf_423 x0) x1)) (@W.piece_app @treeTable (k4).1 x0 11 v_ @zl (P_ 0 0 0 0) 374 (@Nat.add 310 (@Nat.add 380 (@Nat.add 410 (@Nat.add 382 (@Nat.add 392 (@Nat.add 102 2)))))) (@W.SharedT.abs (k63 x0 x1)) (@W.SharedT.abs (k62 x0 x1)) (k3 x0 x1) @xE (@HAppend.hAppend (@List @Stmt) (@List @Stmt) (@List @Stmt) k5 @y6 k11) k1 (P_ 91 0 103 31) (P_ 104 0 119 31) (sg_ (congrFun (My.pf_473 x0) x1)) (@W.piece_app @treeTable (k4).1 x0 11 v_ @zl (P_ 0 0 0 0) 310 (@Nat.add 380 (@Nat.add 410 (@Nat.add 382 (@Nat.add 392 (@Nat.add 102 2))))) (@W.SharedT.abs (k62 x0 x1)) (@W.SharedT.abs (k61 x0 x1)) (k3 x0 x1) @y6 k11 k1 (P_ 104 0 119 31) (P_ 120 0 129 33) (sg_ (congrFun (My.pf_509 x0) x1)) (@W.piece_app @treeTable (k4).1 x0 11 v_ @zl (P_ 0 0 0 0) 380 (@Nat.add 410 (@Nat.add 382 (@Nat.add 392 (@Nat.add 102 2)))) (@W.SharedT.abs (k61 x0 x1)) (@W.SharedT.abs (k60 x0 x1)) (k3 x0 x1) @wQ (@HAppend.hAppend (@List @Stmt) (@List @Stmt) (@List @Stmt) k5 @xD (@HAppend.hAppend (@List @Stmt) (@List @Stmt) (@List @Stmt) k5 @y4 k31)) k1 (P_ 120 0 129 33) (P_ 130 0 153 63) (sg_ (congrFun (My.pf_559 x0) x1)) (@W.piece_app @treeTable (k4).1 x0 11 v_ @zl (P_ 0 0 0 0) 410 (@Nat.add 382 (@Nat.add 392 (@Nat.add 102 2))) (@W.SharedT.abs (k60 x0 x1)) (@W.SharedT.abs (k59 x0 x1)) (k3 x0 x1) @xD (@HAppend.hAppend (@List @Stmt) (@List @Stmt) (@List @Stmt) k5 @y4 k31) k1 (P_ 130 0 153 63) (P_ 154 0 176 30) (sg_ (congrFun (My.pf_616 x0) x1)) (@W.piece_app @treeTable (k4).1 x0 11 v_ @zl (P_ 0 0 0 0) 382 (@Nat.add 392 (@Nat.add 102 2)) (@W.SharedT.abs (k59 x0 x1)) (@W.SharedT.abs (k58 x0 x1)) (k3 x0 x1) @y4 k31 k1 (P_ 154 0 176 30) (P_ 245 0 245 8) (sg_ (congrFun (My.pf_695 x0) x1)) (@W.piece_app @treeTable (k4).1 x0 11 v_ @zl (P_ 0 0 0 0) 392 (@Nat.add 102 2) (@W.SharedT.abs (k58 x0 x1)) (@W.SharedT.abs (k57 x0 x1)) (k3 x0 x1) @xC (@HAppend.hAppend (@List @Stmt) (@List @Stmt) (@List @Stmt) k5 @y3 []) k1 (P_ 245 0 245 8) (P_ 336 0 343 70) (sg_ (congrFun (My.pf_781 x0) x1)) (@W.piece_app @treeTable (k4).1 x0 11 v_ @zl (P_ 0 0 0 0) 102 2 (@W.SharedT.abs (k57 x0 x1)) (@W.SharedT.abs (k86 x0 x1)) (k3 x0 x1) @y3 [] k1 (P_ 336 0 343 70) (P_ 363 0 391 34) (sg_ (congrFun (My.pf_802 x0) x1)) (congrFun (My.pf_804 x0) x1))))))))))))))))))))))))))))
theorem pf_807:((x0:World)→(@Eq (@Prod @Bool (@Prod @Nat (@Option @Value))) ((@Bool.and (@Heap.isNs (@W.boot_heap x0.params) @mainGlobals) (@BEq.beq @Nat (@instBEqOfDecidableEq @Nat @instDecidableEqNat) (@Array.size @GenState g_) 0)),((@Array.size @Obj (@Heap.objs (@W.boot_heap x0.params))),(@Heap.nsMap (@W.boot_heap x0.params) @mainGlobals (.ofString "__annotations__")))) (@Bool.true,(11,v_)))):=by intros; kernel_rfl
theorem pf_43:((x0:@Shared)→(@Eq (@Option @Shared) (@fenceModules? (k4).1 x0) (@some @Shared x0))):=by intros; kernel_rfl
theorem pf_42:(@Eq @Program (@W.opening (k4).1) (@W.plainProg (@Scope.names (@Module.scope (@Program.main (k4).1))))):=by intros; kernel_rfl
theorem left:(@W.LeftO (k4).1 @h_view_39 [] (fun (x0:@Shared)=>(@Bool.and (@W.xlAt @h_view_39 k29 x0) (@W.recOk (@W.RowW.records k4) x0))) (@W.Hook.α kh0) (@W.Hook.obs kh0) (@W.Hook.val kh0) 12788 @Bool.true):=(@W.LeftO.of_pieces (k4).1 @h_view_39 [] (fun (x0:@Shared)=>(@Bool.and (@W.xlAt @h_view_39 k29 x0) (@W.recOk (@W.RowW.records k4) x0))) (@W.Hook.α kh0) (@W.Hook.obs kh0) (@W.Hook.val kh0) 12788 @Bool.true @W.boot_heap @xj g_ g_ @W.boot_drawn d_ @W.boot_toks 1115 11 v_ (@Nat.add 12 (@Nat.add 1 k17)) (@W.boot_open (k4).1 12788 @My.pf_42 (@of_decide_eq_true (@Eq @Bool (@Nat.ble 600 12788) @Bool.true) (@instDecidableEqBool (@Nat.ble 600 12788) @Bool.true) (@id (@Eq @Bool (@Decidable.decide (@Eq @Bool (@Nat.ble 600 12788) @Bool.true) (@instDecidableEqBool (@Nat.ble 600 12788) @Bool.true)) @Bool.true) (@Eq.refl @Bool @Bool.true))) @My.pf_43) @My.pf_807 @My.pf_805 (@of_decide_eq_true (@Eq @Bool (@Nat.ble (@Nat.add 12 (@Nat.add 1 k17)) 12788) @Bool.true) (@instDecidableEqBool (@Nat.ble (@Nat.add 12 (@Nat.add 1 k17)) 12788) @Bool.true) (@id (@Eq @Bool (@Decidable.decide (@Eq @Bool (@Nat.ble (@Nat.add 12 (@Nat.add 1 k17)) 12788) @Bool.true) (@instDecidableEqBool (@Nat.ble (@Nat.add 12 (@Nat.add 1 k17)) 12788) @Bool.true)) @Bool.true) (@Eq.refl @Bool @Bool.true))) (fun x0=>(@funext @OsState (fun x1=>(@Prod @Bool (@Prod (@Prod @PyProof.Rows.Seen k16) (@W.Hook.α kh0)))) (fun x1=>((k15 x0 x1),((@W.openSeen @h_view_39 [] k24 (fun (x2:@Shared)=>(@Bool.and (@W.xlAt @h_view_39 k29 x2) (@W.recOk (@W.RowW.records k4) x2))) @Bool.true (k3 x0 x1)),(@W.Hook.obs kh0 (k3 x0 x1))))) (fun x1=>(@Bool.true,((@W.openGood @h_view_39 []),(@W.Hook.val kh0 x0)))) (fun x1=>(@My.pf_839 x0 x1)))))
end My
end
theorem My.myE:∀ P,My.myAs=(My.h_heap_39 P).map (·.1):=fun _=>by kernel_rfl
set_option maxRecDepth 100000
set_option maxHeartbeats 4000000
namespace OD
open PySem PySem.Spec PyProof.Rows L2
abbrev St:=L2.St
noncomputable def Zx (X:Cx):Hp:=if X.stack.length=X.outer.length∨X.fn ""=false then (fun _=>none) else X.H₀
theorem gL {CX:CXT} {P:Program} {w:World} {K:PySem.W.Frag} {mg:Str→Option Value} {base:Heap} {N:List Str} {qual:Str} {scope:Scope} {f:Addr} {cd:Value} {A:Around} {outer:List Env} {s:Shared} {H:Hp} {E:XK}:Zx (yC CX P w K mg base N qual scope f cd A outer s H E)=H:=if_neg (fun z=>z.elim (Nat.succ_ne_self _) (fun z=>Bool.noConfusion z))
theorem sI {X:Cx} (h:X.stack.length ≠ X.outer.length) (hf:X.fn ""=true:=by rfl):Zx X=X.H₀:=if_neg (fun z=>z.elim h (fun z=>by rw [hf] at z; cases z))
variable {Z:Hp}
inductive Dt where
 | non | bl (b:Bool) | int (i:Int) | str (x:Str) | tup (ds:List Dt) | lst (ds:List Dt) | scr (ns:List Int) | way (C:Addr) (f:Str) (n:Int) | exc (C:Addr)
def excAt (a C:Addr):Heap→Prop:=fun h=>∃ o,h.get? a=some o∧o.cls=.ref C
mutual
def Is (K:PySem.W.Frag) (H:Hp):Dt→V→Prop
 | .non,v=>v=.non
 | .bl b,v=>v=.bl b
 | .int i,v=>v=.int i
 | .str x,v=>v=.str x
 | .tup ds,v=>∃ a xs,v=.ref a∧H a=some (.tup xs)∧AllIs K H ds xs
 | .lst ds,v=>∃ a xs,v=.ref a∧H a=some (.lst xs)∧AllIs K H ds xs
 | .scr ns,v=>∃ a,v=.ref a∧SqL K H a (ns.map V.int)
 | .way C f n,v=>∃ a dx,v=.ref a∧H a=some (.ins C dx [(f,.int n)])
 | .exc C,v=>∃ a,v=.ref a∧H a=some (.ext (excAt a C))
def AllIs (K:PySem.W.Frag) (H:Hp):List Dt→List V→Prop
 | [],xs=>xs=[]
 | d :: ds,xs=>∃ x r,xs=x :: r∧Is K H d x∧AllIs K H ds r
end
variable {K:PySem.W.Frag} {H H' H1 H2:Hp}
theorem is_non {v:V}:Is K H .non v ↔ v=.non:=by unfold Is; exact Iff.rfl
theorem is_bl {b:Bool} {v:V}:Is K H (.bl b) v ↔ v=.bl b:=by unfold Is; exact Iff.rfl
theorem is_int {i:Int} {v:V}:Is K H (.int i) v ↔ v=.int i:=by unfold Is; exact Iff.rfl
theorem is_str {x:Str} {v:V}:Is K H (.str x) v ↔ v=.str x:=by unfold Is; exact Iff.rfl
theorem is_tup {ds:List Dt} {v:V}:Is K H (.tup ds) v ↔ ∃ a xs,v=.ref a∧H a=some (.tup xs)∧AllIs K H ds xs:=by
 constructor
 ·intro h; unfold Is at h; exact h
 ·intro h; unfold Is; exact h
theorem is_lst {ds:List Dt} {v:V}:Is K H (.lst ds) v ↔ ∃ a xs,v=.ref a∧H a=some (.lst xs)∧AllIs K H ds xs:=by
 constructor
 ·intro h; unfold Is at h; exact h
 ·intro h; unfold Is; exact h
theorem is_scr {ns:List Int} {v:V}:Is K H (.scr ns) v ↔ ∃ a,v=.ref a∧SqL K H a (ns.map V.int):=by
 constructor
 ·intro h; unfold Is at h; exact h
 ·intro h; unfold Is; exact h
theorem is_way {C:Addr} {f:Str} {n:Int} {v:V}:Is K H (.way C f n) v ↔ ∃ a dx,v=.ref a∧H a=some (.ins C dx [(f,.int n)]):=by
 constructor
 ·intro h; unfold Is at h; exact h
 ·intro h; unfold Is; exact h
theorem is_exc {C:Addr} {v:V}:Is K H (.exc C) v ↔ ∃ a,v=.ref a∧H a=some (.ext (excAt a C)):=by
 constructor
 ·intro h; unfold Is at h; exact h
 ·intro h; unfold Is; exact h
theorem allIs_nil {xs:List V}:AllIs K H [] xs ↔ xs=[]:=by unfold AllIs; exact Iff.rfl
theorem allIs_cons {d:Dt} {ds:List Dt} {xs:List V}:AllIs K H (d :: ds) xs ↔ ∃ x r,xs=x :: r∧Is K H d x∧AllIs K H ds r:=by
 constructor
 ·intro h; unfold AllIs at h; exact h
 ·intro h; unfold AllIs; exact h
mutual
theorem Is.mono0 (s:Same H H'):∀ {d:Dt} {v:V},Is K H d v→Is K H' d v
 | .non,_,h=>is_non.mpr (is_non.mp h)
 | .bl _,_,h=>is_bl.mpr (is_bl.mp h)
 | .int _,_,h=>is_int.mpr (is_int.mp h)
 | .str _,_,h=>is_str.mpr (is_str.mp h)
 | .tup ds,_,h=>by
  obtain ⟨a,xs,e,h1,h2⟩:=is_tup.mp h
  exact is_tup.mpr ⟨a,xs,e,s _ _ h1,AllIs.mono0 s h2⟩
 | .lst ds,_,h=>by
  obtain ⟨a,xs,e,h1,h2⟩:=is_lst.mp h
  exact is_lst.mpr ⟨a,xs,e,s _ _ h1,AllIs.mono0 s h2⟩
 | .scr ns,_,h=>by
  obtain ⟨a,e,h1⟩:=is_scr.mp h
  exact is_scr.mpr ⟨a,e,s.seq h1⟩
 | .way C f n,_,h=>by
  obtain ⟨a,dx,e,h1⟩:=is_way.mp h
  exact is_way.mpr ⟨a,dx,e,s _ _ h1⟩
 | .exc C,_,h=>by
  obtain ⟨a,e,h1⟩:=is_exc.mp h
  exact is_exc.mpr ⟨a,e,s _ _ h1⟩
theorem AllIs.mono0 (s:Same H H'):∀ {ds:List Dt} {xs:List V},AllIs K H ds xs→AllIs K H' ds xs
 | [],_,h=>allIs_nil.mpr (allIs_nil.mp h)
 | d :: ds,_,h=>by
  obtain ⟨x,r,e,h1,h2⟩:=allIs_cons.mp h
  exact allIs_cons.mpr ⟨x,r,e,Is.mono0 s h1,AllIs.mono0 s h2⟩
end
theorem AllIs.length:∀ {ds:List Dt} {xs:List V},AllIs K H ds xs→ds.length=xs.length
 | [],_,h=>by rw [allIs_nil.mp h]; rfl
 | d :: ds,_,h=>by
  obtain ⟨x,r,rfl,_,h2⟩:=allIs_cons.mp h
  rw [List.length_cons,List.length_cons,AllIs.length h2]
theorem AllIs.get:∀ {ds:List Dt} {xs:List V} {i:Nat} {d:Dt},AllIs K H ds xs→ds[i]? = some d→∃ v,xs[i]? = some v∧Is K H d v
 | [],_,_,_,_,e=>by simp at e
 | d :: ds,_,0,d',h,e=>by
  obtain ⟨x,r,rfl,h1,h2⟩:=allIs_cons.mp h
  simp at e; subst e
  exact ⟨x,rfl,h1⟩
 | d :: ds,_,i + 1,d',h,e=>by
  obtain ⟨x,r,rfl,h1,h2⟩:=allIs_cons.mp h
  obtain ⟨v,e1,e2⟩:=AllIs.get (i:=i) h2 (by simpa using e)
  exact ⟨v,by simpa using e1,e2⟩
theorem AllIs.get':∀ {ds:List Dt} {xs:List V} {i:Nat} {v:V},AllIs K H ds xs→xs[i]? = some v→∃ d,ds[i]? = some d∧Is K H d v
 | [],_,_,_,h,e=>by rw [allIs_nil.mp h] at e; simp at e
 | d :: ds,_,0,v,h,e=>by
  obtain ⟨x,r,rfl,h1,h2⟩:=allIs_cons.mp h
  simp at e; subst e
  exact ⟨d,rfl,h1⟩
 | d :: ds,_,i + 1,v,h,e=>by
  obtain ⟨x,r,rfl,h1,h2⟩:=allIs_cons.mp h
  obtain ⟨v,e1,e2⟩:=AllIs.get' (i:=i) h2 (by simpa using e)
  exact ⟨v,by simpa using e1,e2⟩
theorem AllIs.append:∀ {ds es:List Dt} {xs ys:List V},AllIs K H ds xs→AllIs K H es ys→AllIs K H (ds ++ es) (xs ++ ys)
 | [],_,_,_,h,h'=>by rw [allIs_nil.mp h]; exact h'
 | d :: ds,_,_,_,h,h'=>by
  obtain ⟨x,r,rfl,h1,h2⟩:=allIs_cons.mp h
  exact allIs_cons.mpr ⟨x,_,rfl,h1,AllIs.append h2 h'⟩
theorem AllIs.drop:∀ {ds:List Dt} {xs:List V} (n:Nat),AllIs K H ds xs→AllIs K H (ds.drop n) (xs.drop n)
 | _,_,0,h=>h
 | [],_,n + 1,h=>by rw [allIs_nil.mp h]; exact allIs_nil.mpr rfl
 | d :: ds,_,n + 1,h=>by
  obtain ⟨x,r,rfl,h1,h2⟩:=allIs_cons.mp h
  exact AllIs.drop n h2
theorem AllIs.take:∀ {ds:List Dt} {xs:List V} (n:Nat),AllIs K H ds xs→AllIs K H (ds.take n) (xs.take n)
 | _,_,0,_=>allIs_nil.mpr rfl
 | [],_,n + 1,h=>by rw [allIs_nil.mp h]; exact allIs_nil.mpr rfl
 | d :: ds,_,n + 1,h=>by
  obtain ⟨x,r,rfl,h1,h2⟩:=allIs_cons.mp h
  exact allIs_cons.mpr ⟨x,_,rfl,h1,AllIs.take n h2⟩
theorem AllIs.ints:∀ {ns:List Int},AllIs K H (ns.map Dt.int) (ns.map V.int)
 | []=>allIs_nil.mpr rfl
 | n :: ns=>allIs_cons.mpr ⟨.int n,_,rfl,is_int.mpr rfl,AllIs.ints⟩
theorem AllIs.atI {ds:List Dt} {xs:List V} {i:Int} {d:Dt} (h:AllIs K H ds xs) (e:L2.atI ds i=some d):∃ v,L2.atI xs i=some v∧Is K H d v:=by
 unfold L2.atI at e ⊢
 rw [← h.length]
 cases q:ixN ds.length i with
 | none=>rw [q] at e; cases e
 | some j=>
  rw [q] at e
  exact h.get e
theorem AllIs.one {d:Dt} {xs:List V} (h:AllIs K H [d] xs):∃ v,xs=[v]∧Is K H d v:=by
 obtain ⟨x,r,rfl,h1,h2⟩:=allIs_cons.mp h
 rw [allIs_nil.mp h2]
 exact ⟨x,rfl,h1⟩
theorem AllIs.two {d e:Dt} {xs:List V} (h:AllIs K H [d,e] xs):∃ v u,xs=[v,u]∧Is K H d v∧Is K H e u:=by
 obtain ⟨x,r,rfl,h1,h2⟩:=allIs_cons.mp h
 obtain ⟨u,rfl,h3⟩:=h2.one
 exact ⟨x,u,rfl,h1,h3⟩
theorem zK {p:Addr} (h:H p=none) (o:HO):Same H (upd H p o):=fun b u q=>by rw [zx (zT q h)]; exact q
structure Vw where
 g:Hp
 h:Hp
 sub:Same g h
structure Le (W W':Vw):Prop where
 g:Same W.g W'.g
 h:Same W.h W'.h
 n:∀ a,W.h a ≠ none→W.g a=none→W'.g a=none
theorem Le.refl (W:Vw):Le W W:=⟨Same.refl _,Same.refl _,fun _ _ h=>h⟩
theorem Le.trans {W W1 W2:Vw} (a:Le W W1) (b:Le W1 W2):Le W W2:=
 ⟨a.g.trans b.g,a.h.trans b.h,fun c h1 h2=>b.n c (fun z=>h1 (a.h.free z)) (a.n c h1 h2)⟩
theorem Is.mono {W W':Vw} {d:Dt} {v:V} (h:Is K W.g d v) (s:Le W W'):Is K W'.g d v:=Is.mono0 s.g h
theorem AllIs.mono {W W':Vw} {d:List Dt} {v:List V} (h:AllIs K W.g d v) (s:Le W W'):AllIs K W'.g d v:=AllIs.mono0 s.g h
def Vw.new (W:Vw) (p:Addr) (o:HO):Vw:=⟨upd W.g p o,upd W.h p o,fun b u q=>by
 by_cases e:b=p
 ·subst e; rw [zA] at q ⊢; exact q
 ·rw [zx e] at q ⊢; exact W.sub _ _ q⟩
theorem wz {W:Vw} {p:Addr} (hp:W.h p=none) (o:HO):Le W (W.new p o):=
 ⟨zK (W.sub.free hp) o,zK hp o,fun a h1 h2=>by
  have:a ≠ p:=fun e=>h1 (e ▸ hp)
  show upd W.g p o a=none
  rw [zx this]; exact h2⟩
def Vw.mine (W:Vw) (p:Addr) (o:HO) (hp:W.g p=none):Vw:=⟨W.g,upd W.h p o,fun b u q=>by
 have:b ≠ p:=fun e=>by rw [e,hp] at q; cases q
 rw [zx this]; exact W.sub _ _ q⟩
theorem oT {W:Vw} {p:Addr} (hp:W.h p=none) (o:HO):Le W (W.mine p o (W.sub.free hp)):=
 ⟨Same.refl _,zK hp o,fun _ _ h=>h⟩
def Vw.frz (W:Vw) (p:Addr) (o:HO) (hp:W.h p=some o):Vw:=⟨upd W.g p o,W.h,fun b u q=>by
 by_cases e:b=p
 ·subst e; rw [zA] at q; rw [hp]; exact q
 ·rw [zx e] at q; exact W.sub _ _ q⟩
inductive Sl where | none | some (d:Dt) | own (ds:List Dt) | arg (a:Addr) (ds:List Dt)
abbrev DS:=List Sl
structure Rl (K:PySem.W.Frag) (Z F:Hp) (W:Vw) (ρ:DS) (σ:St):Prop where
 len:ρ.length=σ.length
 at_:∀ (i:Nat) (d:Dt),ρ[i]? = some (.some d)→∃ v,σ[i]? = some (some v)∧Is K W.g d v
 ow:∀ (i:Nat) (ds:List Dt),ρ[i]? = some (.own ds)→∃ a xs,σ[i]? = some (some (.ref a))∧W.h a=some (.lst xs)∧W.g a=none∧F a=none∧AllIs K W.g ds xs
 ne:∀ (i j:Nat) (ds es:List Dt),i ≠ j→ρ[i]? = some (.own ds)→ρ[j]? = some (.own es)→σ[i]? ≠ σ[j]?
 fr:Same F W.h
 z:Same Z F
 ar:∀ (i:Nat) (a:Addr) (ds:List Dt),ρ[i]? = some (.arg a ds)→(∃ xs,σ[i]? = some (some (.ref a))∧W.h a=some (.lst xs)∧W.g a=none∧F a=none∧AllIs K W.g ds xs)∧(∀ (j:Nat) (es:List Dt),ρ[j]? = some (.own es)→σ[j]? ≠ some (some (.ref a)))∧∀ (j:Nat) (b:Addr) (es:List Dt),ρ[j]? = some (.arg b es)→j=i
variable {F:Hp} {W W':Vw}
theorem Rl.mono {ρ:DS} {σ:St} (r:Rl K Z F W ρ σ) (s:Le W W'):Rl K Z F W' ρ σ:=
 ⟨r.len,fun i d e=>let ⟨v,h1,h2⟩:=r.at_ i d e; ⟨v,h1,h2.mono s⟩,
  fun i ds e=>let ⟨a,xs,h1,h2,h3,h4,h5⟩:=r.ow i ds e; ⟨a,xs,h1,s.h _ _ h2,s.n a (by rw [h2]; intro z; cases z) h3,h4,h5.mono s⟩,r.ne,r.fr.trans s.h,r.z,
  fun i a ds e=>let ⟨⟨xs,h1,h2,h3,h4,h5⟩,k1,k2⟩:=r.ar i a ds e; ⟨⟨xs,h1,s.h _ _ h2,s.n a (by rw [h2]; intro z; cases z) h3,h4,h5.mono s⟩,k1,k2⟩⟩
theorem zt {α:Type} {l:List α} {i j:Nat} {x y:α} (q:(l.set i x)[j]? = some y):(i=j∧i < l.length∧x=y)∨(i ≠ j∧l[j]? = some y):=by
 by_cases hij:i=j
 ·subst hij
  by_cases hl:i < l.length
  ·rw [List.getElem?_set_self hl] at q
   exact .inl ⟨rfl,hl,Option.some.inj q⟩
  ·rw [List.getElem?_eq_none (by rw [List.length_set]; omega)] at q
   cases q
 ·rw [List.getElem?_set_ne hij] at q
  exact .inr ⟨hij,q⟩
theorem Rl.set {ρ:DS} {σ:St} (r:Rl K Z F W ρ σ) {d:Dt} {v:V} (i:Nat) (h:Is K W.g d v):Rl K Z F W (ρ.set i (.some d)) (σ.set i (some v)):=by
 refine ⟨by rw [List.length_set,List.length_set]; exact r.len,fun j e q=>?_,fun j ds q=>?_,fun j k ds es hjk q1 q2=>?_,r.fr,r.z,fun j a ds q=>?_⟩
 ·rcases zt q with ⟨rfl,hl,e1⟩ | ⟨hij,q⟩
  ·cases e1
   exact ⟨v,by rw [List.getElem?_set_self (by rw [← r.len]; exact hl)],h⟩
  ·rw [List.getElem?_set_ne hij]
   exact r.at_ j e q
 ·rcases zt q with ⟨_,_,e1⟩ | ⟨hij,q⟩
  ·cases e1
  ·rw [List.getElem?_set_ne hij]
   exact r.ow j ds q
 ·rcases zt q1 with ⟨_,_,e1⟩ | ⟨hij,q1⟩
  ·cases e1
  rcases zt q2 with ⟨_,_,e1⟩ | ⟨hik,q2⟩
  ·cases e1
  rw [List.getElem?_set_ne hij,List.getElem?_set_ne hik]
  exact r.ne j k ds es hjk q1 q2
 ·rcases zt q with ⟨_,_,e1⟩ | ⟨hij,q⟩
  ·cases e1
  obtain ⟨⟨xs,h1,h2⟩,k1,k2⟩:=r.ar j a ds q
  refine ⟨⟨xs,by rw [List.getElem?_set_ne hij]; exact h1,h2⟩,fun k es q'=>?_,fun k c es q'=>?_⟩
  ·rcases zt q' with ⟨_,_,e1⟩ | ⟨hik,q'⟩
   ·cases e1
   rw [List.getElem?_set_ne hik]
   exact k1 k es q'
  ·rcases zt q' with ⟨_,_,e1⟩ | ⟨hik,q'⟩
   ·cases e1
   exact k2 k c es q'
theorem Rl.own {ρ:DS} {σ:St} (r:Rl K Z F W ρ σ) (s:Le W W') {p:Addr} {xs:List V} {ds:List Dt} (i:Nat) (h0:W.h p=none) (h1:W'.h p=some (.lst xs)) (h2:W'.g p=none) (h3:AllIs K W'.g ds xs):
  Rl K Z F W' (ρ.set i (.own ds)) (σ.set i (some (.ref p))):=by
 have r':=r.mono s
 have nep:∀ (j:Nat) (es:List Dt),ρ[j]? = some (Sl.own es)→σ[j]? ≠ some (some (V.ref p)):=fun j es q z=>by
  obtain ⟨a,ys,e1,e2,_⟩:=r.ow j es q
  rw [z] at e1
  cases e1
  rw [h0] at e2
  cases e2
 refine ⟨by rw [List.length_set,List.length_set]; exact r.len,fun j e q=>?_,fun j es q=>?_,fun j k es es' hjk q1 q2=>?_,r'.fr,r.z,fun j a fs q=>?_⟩
 ·rcases zt q with ⟨_,_,e1⟩ | ⟨hij,q⟩
  ·cases e1
  ·rw [List.getElem?_set_ne hij]
   exact r'.at_ j e q
 ·rcases zt q with ⟨rfl,hl,e1⟩ | ⟨hij,q⟩
  ·cases e1
   exact ⟨p,xs,by rw [List.getElem?_set_self (by rw [← r.len]; exact hl)],h1,h2,r.fr.free h0,h3⟩
  ·rw [List.getElem?_set_ne hij]
   exact r'.ow j es q
 ·rcases zt q1 with ⟨rfl,hl,e1⟩ | ⟨hij,q1⟩
  ·rcases zt q2 with ⟨rfl,_,_⟩ | ⟨hik,q2⟩
   ·exact absurd rfl hjk
   ·rw [List.getElem?_set_self (by rw [← r.len]; exact hl),List.getElem?_set_ne hik]
    exact fun z=>nep k es' q2 z.symm
  ·rcases zt q2 with ⟨rfl,hl,_⟩ | ⟨hik,q2⟩
   ·rw [List.getElem?_set_self (by rw [← r.len]; exact hl),List.getElem?_set_ne hij]
    exact nep j es q1
   ·rw [List.getElem?_set_ne hij,List.getElem?_set_ne hik]
    exact r.ne j k es es' hjk q1 q2
 ·rcases zt q with ⟨_,_,e1⟩ | ⟨hij,q⟩
  ·cases e1
  obtain ⟨⟨ys,g1,g2⟩,k1,k2⟩:=r'.ar j a fs q
  obtain ⟨⟨_,_,g3,_⟩,_,_⟩:=r.ar j a fs q
  refine ⟨⟨ys,by rw [List.getElem?_set_ne hij]; exact g1,g2⟩,fun k es q'=>?_,fun k c es q'=>?_⟩
  ·rcases zt q' with ⟨rfl,hl,e1⟩ | ⟨hik,q'⟩
   ·rw [List.getElem?_set_self (by rw [← r.len]; exact hl)]
    intro z
    cases z
    rw [h0] at g3
    cases g3
   ·rw [List.getElem?_set_ne hik]
    exact k1 k es q'
  ·rcases zt q' with ⟨_,_,e1⟩ | ⟨hik,q'⟩
   ·cases e1
   exact k2 k c es q'
theorem Rl.put {ρ:DS} {σ:St} (r:Rl K Z F W ρ σ) {i:Nat} {ds es:List Dt} {a:Addr} {ys:List V} (hi:ρ[i]? = some (.own ds)) (ha:σ[i]? = some (some (.ref a))) (hg:W.g a=none) (hF:F a=none) (h3:AllIs K W.g es ys):
  Rl K Z F (W.mine a (.lst ys) hg) (ρ.set i (.own es)) σ:=by
 have hl:i < ρ.length:=by
  rcases Nat.lt_or_ge i ρ.length with h | h
  ·exact h
  ·rw [List.getElem?_eq_none h] at hi; cases hi
 have other:∀ j fs,j ≠ i→ρ[j]? = some (.own fs)→σ[j]? ≠ some (some (.ref a)):=fun j fs hj q z=>r.ne j i fs ds hj q hi (z.trans ha.symm)
 refine ⟨by rw [List.length_set]; exact r.len,fun j e q=>?_,fun j fs q=>?_,fun j k fs fs' hjk q1 q2=>?_,fun p o q=>?_,r.z,fun j c fs q=>?_⟩
 ·rcases zt q with ⟨_,_,e1⟩ | ⟨hij,q⟩
  ·cases e1
  ·exact r.at_ j e q
 ·rcases zt q with ⟨rfl,_,e1⟩ | ⟨hij,q⟩
  ·cases e1
   exact ⟨a,ys,ha,zA,hg,hF,h3⟩
  ·obtain ⟨b,xs,e1,e2,e3,e4,e5⟩:=r.ow j fs q
   have hb:b ≠ a:=fun z=>other j fs (fun z=>hij z.symm) q (z ▸ e1)
   exact ⟨b,xs,e1,(zx hb).trans e2,e3,e4,e5⟩
 ·have k1:∃ gs,ρ[j]? = some (.own gs):=by
   rcases zt q1 with ⟨rfl,_,_⟩ | ⟨_,q⟩
   ·exact ⟨_,hi⟩
   ·exact ⟨_,q⟩
  have k2:∃ gs,ρ[k]? = some (.own gs):=by
   rcases zt q2 with ⟨rfl,_,_⟩ | ⟨_,q⟩
   ·exact ⟨_,hi⟩
   ·exact ⟨_,q⟩
  obtain ⟨_,k1⟩:=k1
  obtain ⟨_,k2⟩:=k2
  exact r.ne j k _ _ hjk k1 k2
 ·have e:p ≠ a:=fun e=>by rw [e,hF] at q; cases q
  exact (zx (H:=W.h) (o:=.lst ys) e).trans (r.fr p o q)
 ·rcases zt q with ⟨_,_,e1⟩ | ⟨hij,q⟩
  ·cases e1
  obtain ⟨⟨ys',g1,g2,g3,g4,g5⟩,k1,k2⟩:=r.ar j c fs q
  have hc:c ≠ a:=fun z=>k1 i ds hi (by rw [z]; exact ha)
  refine ⟨⟨ys',g1,(zx hc).trans g2,g3,g4,g5⟩,fun k es' q'=>?_,fun k c' es' q'=>?_⟩
  ·rcases zt q' with ⟨rfl,_,_⟩ | ⟨_,q'⟩
   ·exact k1 i ds hi
   ·exact k1 k es' q'
  ·rcases zt q' with ⟨_,_,e1⟩ | ⟨hik,q'⟩
   ·cases e1
   exact k2 k c' es' q'
theorem Rl.frz {ρ:DS} {σ:St} (r:Rl K Z F W ρ σ) {i:Nat} {ds:List Dt} {a:Addr} {xs:List V} (hi:ρ[i]? = some (.own ds)) (ha:σ[i]? = some (some (.ref a))) (hh:W.h a=some (.lst xs)) (hg:W.g a=none) (h3:AllIs K W.g ds xs):
  Rl K Z F (W.frz a _ hh) (ρ.set i (.some (.lst ds))) σ:=by
 have sg:Same W.g (upd W.g a (.lst xs)):=zK hg _
 have other:∀ j fs,j ≠ i→ρ[j]? = some (.own fs)→σ[j]? ≠ some (some (.ref a)):=fun j fs hj q z=>r.ne j i fs ds hj q hi (z.trans ha.symm)
 refine ⟨by rw [List.length_set]; exact r.len,fun j e q=>?_,fun j fs q=>?_,fun j k fs fs' hjk q1 q2=>?_,r.fr,r.z,fun j c fs q=>?_⟩
 ·rcases zt q with ⟨rfl,_,e1⟩ | ⟨hij,q⟩
  ·cases e1
   exact ⟨_,ha,is_lst.mpr ⟨a,xs,rfl,zA,AllIs.mono0 sg h3⟩⟩
  ·obtain ⟨v,e1,e2⟩:=r.at_ j e q
   exact ⟨v,e1,Is.mono0 sg e2⟩
 ·rcases zt q with ⟨_,_,e1⟩ | ⟨hij,q⟩
  ·cases e1
  ·obtain ⟨b,ys,e1,e2,e3,e4,e5⟩:=r.ow j fs q
   have hb:b ≠ a:=fun z=>other j fs (fun z=>hij z.symm) q (z ▸ e1)
   exact ⟨b,ys,e1,e2,(zx hb).trans e3,e4,AllIs.mono0 sg e5⟩
 ·rcases zt q1 with ⟨_,_,e1⟩ | ⟨_,q1⟩
  ·cases e1
  rcases zt q2 with ⟨_,_,e1⟩ | ⟨_,q2⟩
  ·cases e1
  exact r.ne j k _ _ hjk q1 q2
 ·rcases zt q with ⟨_,_,e1⟩ | ⟨hij,q⟩
  ·cases e1
  obtain ⟨⟨ys',g1,g2,g3,g4,g5⟩,k1,k2⟩:=r.ar j c fs q
  have hc:c ≠ a:=fun z=>k1 i ds hi (by rw [z]; exact ha)
  refine ⟨⟨ys',g1,g2,(zx hc).trans g3,g4,AllIs.mono0 sg g5⟩,fun k es' q'=>?_,fun k c' es' q'=>?_⟩
  ·rcases zt q' with ⟨_,_,e1⟩ | ⟨_,q'⟩
   ·cases e1
   ·exact k1 k es' q'
  ·rcases zt q' with ⟨_,_,e1⟩ | ⟨hik,q'⟩
   ·cases e1
   exact k2 k c' es' q'
def yp (n:Nat) (ds:List Dt):DS:=ds.map Sl.some ++ List.replicate (n - ds.length) Sl.none
theorem Rl.start {N:List Str} {ds:List Dt} {vs:List V} (h:AllIs K W.g ds vs) (hz:Same Z W.h):Rl K Z W.h W (yp N.length ds) (L2.start N vs):=by
 have hl:=h.length
 have cls:∀ (i:Nat) (y:Sl),(yp N.length ds)[i]? = some y→(∃ d,ds[i]? = some d∧y=.some d)∨y=.none:=fun i y e=>by
  unfold yp at e
  by_cases hi:i < ds.length
  ·rw [List.getElem?_append_left (by rw [List.length_map]; exact hi),List.getElem?_map] at e
   cases q:ds[i]? with
   | none=>rw [q] at e; cases e
   | some d'=>
    rw [q] at e
    exact .inl ⟨d',rfl,(Option.some.inj e).symm⟩
  ·rw [List.getElem?_append_right (by rw [List.length_map]; omega),List.getElem?_replicate] at e
   split at e
   ·exact .inr (Option.some.inj e).symm
   ·cases e
 refine ⟨by unfold L2.start yp; rw [List.length_append,List.length_append,List.length_map,List.length_map,List.length_replicate,List.length_replicate,hl],fun i d e=>?_,fun i es e=>?_,fun i j es fs _ e _=>?_,Same.refl _,hz,fun i a es e=>?_⟩
 ·rcases cls i _ e with ⟨d',q,e1⟩ | e1
  ·cases e1
   obtain ⟨v,h1,h2⟩:=h.get q
   refine ⟨v,?_,h2⟩
   have hi:i < ds.length:=by
    rcases Nat.lt_or_ge i ds.length with h | h
    ·exact h
    ·rw [List.getElem?_eq_none h] at q; cases q
   unfold L2.start
   rw [List.getElem?_append_left (by rw [List.length_map,← hl]; exact hi),List.getElem?_map,h1]
   rfl
  ·cases e1
 ·rcases cls i _ e with ⟨d',q,e1⟩ | e1
  ·cases e1
  ·cases e1
 ·rcases cls i _ e with ⟨d',q,e1⟩ | e1
  ·cases e1
  ·cases e1
 ·rcases cls i _ e with ⟨d',q,e1⟩ | e1
  ·cases e1
  ·cases e1
abbrev DTE:=DS→(Dt→Prop)→Prop
abbrev DTT:=DS→(Bool→Prop)→Prop
abbrev DTA:=DS→(List Dt→Prop)→Prop
def LiE (K:PySem.W.Frag) (Z:Hp) (te:TE) (t:DTE):Prop:=
 ∀ {F:Hp} (ρ:DS) (σ:St) (H:Vw) (Q:Dt→Prop),Rl K Z F H ρ σ→t ρ Q→∀ R:VK,(∀ d v H',Le H H'→Is K H'.g d v→Q d→R v H'.h)→te σ H.h R
def LiT (K:PySem.W.Frag) (Z:Hp) (te:TT) (t:DTT):Prop:=
 ∀ {F:Hp} (ρ:DS) (σ:St) (H:Vw) (Q:Bool→Prop),Rl K Z F H ρ σ→t ρ Q→∀ R:Bool→Hp→Prop,(∀ d H',Le H H'→Q d→R d H'.h)→te σ H.h R
def LiA (K:PySem.W.Frag) (Z:Hp) (te:TA) (t:DTA):Prop:=
 ∀ {F:Hp} (ρ:DS) (σ:St) (H:Vw) (Q:List Dt→Prop),Rl K Z F H ρ σ→t ρ Q→∀ R:List V→Hp→Prop,(∀ d v H',Le H H'→AllIs K H'.g d v→Q d→R v H'.h)→te σ H.h R
def DE (X:Cx) (e:Expr) (t:DTE):Prop:=∃ te,PE X e te∧LiE X.K (Zx X) te t
def DT (X:Cx) (e:Expr) (t:DTT):Prop:=∃ te,PT X e te∧LiT X.K (Zx X) te t
def DW (X:Cx) (e:Expr) (t:DTT):Prop:=∃ te,PW X e te∧LiT X.K (Zx X) te t
def DA (X:Cx) (es:List Expr) (t:DTA):Prop:=∃ te,PA X es te∧LiA X.K (Zx X) te t
theorem DW.dt {X:Cx} {e:Expr} {t:DTT} (h:DW X e t):DT X e t:=let ⟨te,h1,h2⟩:=h; ⟨te,h1.pt,h2⟩
def vE (i:Nat):DTE:=fun ρ Q=>∃ d,ρ[i]? = some (.some d)∧Q d
def dC (d:Dt):DTE:=fun _ Q=>Q d
section
variable {X:Cx} {a b c:Expr} {ta tb tc:DTE} {pos:Pos}
theorem dv (i:Nat) {x:Str} {pos:Pos} (hN:X.N[i]? = some x:=by rfl) (hv:Vis X.env.scope x:=by first | exact Or.inl rfl | exact Or.inr (Or.inl rfl) | exact Or.inr (Or.inr rfl)) (hd:(x == ("__debug__":Str))=false:=by decide)
  (hcd:(x == ("__classdict__":Str))=false:=by decide):DE X (.Name x pos) (vE i):=
 ⟨cR i,xh hN hv hd hcd,fun ρ σ H Q r h R k=>by
  obtain ⟨d,e,q⟩:=h
  obtain ⟨v,h1,h2⟩:=r.at_ i d e
  exact ⟨v,h1,k d v H (Le.refl H) h2 q⟩⟩
theorem lic {v:V} {d:Dt} (h:∀ H:Vw,Is K H.g d v):LiE K Z (tC v) (dC d):=fun ρ σ H Q r q R k=>k d v H (Le.refl H) (h H) q
theorem ze {i j pos}:DE X (.Constant (.int i) j pos) (dC (.int i)):=⟨_,Yk,lic fun _=>is_int.mpr rfl⟩
theorem xK {b j pos}:DE X (.Constant (.bool b) j pos) (dC (.bl b)):=⟨_,WX,lic fun _=>is_bl.mpr rfl⟩
theorem ji {j pos}:DE X (.Constant .none j pos) (dC .non):=⟨_,Yj,lic fun _=>is_non.mpr rfl⟩
theorem zy {x j pos}:DE X (.Constant (.str x) j pos) (dC (.str x)):=⟨_,Yg,lic fun _=>is_str.mpr rfl⟩
def DOp (X:Cx) (f:Value→Value→Sem Value) (g:Dt→Dt→(Dt→Prop)→Prop):Prop:=
 ∃ r,OpR X f r∧∀ (H:Vw) (x y:V) (d e:Dt) (Q:Dt→Prop),Is X.K H.g d x→Is X.K H.g e y→g d e Q→∀ R:VK,(∀ d v H',Le H H'→Is X.K H'.g d v→Q d→R v H'.h)→r x y H.h R
def dOp (g:Dt→Dt→(Dt→Prop)→Prop) (ta tb:DTE):DTE:=fun ρ Q=>ta ρ fun d=>tb ρ fun e=>g d e Q
theorem XV {te tf:TE} {r:R2} {g:Dt→Dt→(Dt→Prop)→Prop} (ha:LiE K Z te ta) (hb:LiE K Z tf tb)
  (hg:∀ (H:Vw) (x y:V) (d e:Dt) (Q:Dt→Prop),Is K H.g d x→Is K H.g e y→g d e Q→∀ R:VK,(∀ d v H',Le H H'→Is K H'.g d v→Q d→R v H'.h)→r x y H.h R):LiE K Z (tOp r te tf) (dOp g ta tb):=
 fun ρ σ H Q rl h R k=>ha ρ σ H _ rl h _ fun d v H1 s1 i1 q1=>hb ρ σ H1 _ (rl.mono s1) q1 _ fun e u H2 s2 i2 q2=>
  hg H2 v u d e Q (i1.mono s2) i2 q2 R fun d' v' H3 s3 i3 q3=>k d' v' H3 ((s1.trans s2).trans s3) i3 q3
theorem zj {op:Operator} {g:Dt→Dt→(Dt→Prop)→Prop} (ho:DOp X (binaryOp op) g) (ha:DE X a ta) (hb:DE X b tb):DE X (.BinOp a op b pos) (dOp g ta tb):=by
 obtain ⟨r,h1,h2⟩:=ho
 obtain ⟨te,p1,l1⟩:=ha
 obtain ⟨tf,p2,l2⟩:=hb
 exact ⟨_,Zs h1 p1 p2,XV l1 l2 h2⟩
theorem vC {op:CmpOp} {g:Dt→Dt→(Dt→Prop)→Prop} (ho:DOp X (compareOp op) g) (ha:DE X a ta) (hb:DE X b tb) (hm:behindInMarks op b=false):DE X (.Compare a [op] [b] pos) (dOp g ta tb):=by
 obtain ⟨r,h1,h2⟩:=ho
 obtain ⟨te,p1,l1⟩:=ha
 obtain ⟨tf,p2,l2⟩:=hb
 exact ⟨_,bh h1 p1 p2 hm,XV l1 l2 h2⟩
def wc (t:DTE):DTT:=fun ρ Q=>t ρ fun d=>∃ k,d=.bl k∧Q k
theorem oR {te:TE} {t:DTE} (h:LiE K Z te t):LiT K Z (g7 te) (wc t):=fun ρ σ H Q r q R k=>
 h ρ σ H _ r q _ fun d v H1 s1 i1 ⟨b,e,qb⟩=>by
  subst e
  exact ⟨b,is_bl.mp i1,k b H1 s1 qb⟩
theorem zw {op:CmpOp} {g:Dt→Dt→(Dt→Prop)→Prop} (ho:DOp X (compareOp op) g) (ha:DE X a ta) (hb:DE X b tb) (hm:behindInMarks op b=false):DT X (.Compare a [op] [b] pos) (wc (dOp g ta tb)):=by
 obtain ⟨r,h1,h2⟩:=ho
 obtain ⟨te,p1,l1⟩:=ha
 obtain ⟨tf,p2,l2⟩:=hb
 exact ⟨_,c8 h1 p1 p2 hm,oR (XV l1 l2 h2)⟩
theorem zW {e:Expr} {t:DTE} (h:DE X e t) (he:∀ yD,isTrue e X.env yD=(do let v ← yD; standAt e.pos; holding [v] (truthy v)):=by intro _; rfl):DT X e (wc t):=by
 obtain ⟨te,p,l⟩:=h
 exact ⟨_,Z7 p he,oR l⟩
def cf (g g':Dt→Dt→(Dt→Prop)→Prop) (ta tb tc:DTE):DTE:=fun ρ Q=>ta ρ fun d=>tb ρ fun e=>g d e fun z=>∃ k,z=.bl k∧(if k=true then tc ρ fun w=>g' e w Q else Q (.bl false))
theorem aA {te tf tg:TE} {r r':R2} {g g':Dt→Dt→(Dt→Prop)→Prop} (ha:LiE K Z te ta) (hb:LiE K Z tf tb) (hc:LiE K Z tg tc)
  (hg:∀ (H:Vw) (x y:V) (d e:Dt) (Q:Dt→Prop),Is K H.g d x→Is K H.g e y→g d e Q→∀ R:VK,(∀ d v H',Le H H'→Is K H'.g d v→Q d→R v H'.h)→r x y H.h R)
  (hg':∀ (H:Vw) (x y:V) (d e:Dt) (Q:Dt→Prop),Is K H.g d x→Is K H.g e y→g' d e Q→∀ R:VK,(∀ d v H',Le H H'→Is K H'.g d v→Q d→R v H'.h)→r' x y H.h R):LiE K Z (fb r r' te tf tg) (cf g g' ta tb tc):=
 fun ρ σ H Q rl h R k=>ha ρ σ H _ rl h _ fun d v H1 s1 i1 q1=>hb ρ σ H1 _ (rl.mono s1) q1 _ fun e u H2 s2 i2 q2=>
  hg H2 v u d e _ (i1.mono s2) i2 q2 _ fun d' v' H3 s3 i3 ⟨z,ez,q3⟩=>by
   subst ez
   refine ⟨z,is_bl.mp i3,?_⟩
   cases z with
   | false=>exact k _ _ H3 ((s1.trans s2).trans s3) (is_bl.mpr rfl) q3
   | true=>exact hc ρ σ H3 _ (rl.mono ((s1.trans s2).trans s3)) q3 _ fun w x H4 s4 i4 q4=>hg' H4 u x e w Q (i2.mono (s3.trans s4)) i4 q4 R fun d5 v5 H5 s5 i5 q5=>k d5 v5 H5 (((s1.trans s2).trans (s3.trans s4)).trans s5) i5 q5
theorem dR {op op':CmpOp} {g g':Dt→Dt→(Dt→Prop)→Prop} (ho:DOp X (compareOp op) g) (ho':DOp X (compareOp op') g') (ha:DE X a ta) (hb:DE X b tb) (hc:DE X c tc)
  (hm:lastMarks [op,op'] [b,c]=false:=by with_unfolding_all rfl):DT X (.Compare a [op,op'] [b,c] pos) (wc (cf g g' ta tb tc)):=by
 obtain ⟨r,h1,h2⟩:=ho
 obtain ⟨r',h3,h4⟩:=ho'
 obtain ⟨te,p1,l1⟩:=ha
 obtain ⟨tf,p2,l2⟩:=hb
 obtain ⟨tg,p3,l3⟩:=hc
 exact ⟨_,fw h1 h3 p1 p2 p3 hm,oR (aA l1 l2 l3 h2 h4)⟩
variable {tA tB:DTT} {yz:List Expr}
def aW (t u:DTT):DTT:=fun ρ Q=>t ρ fun c=>if c=true then u ρ Q else Q false
def dOr (t u:DTT):DTT:=fun ρ Q=>t ρ fun c=>if c=true then Q true else u ρ Q
def P8 (t:DTT):DTT:=fun ρ Q=>t ρ fun c=>Q (!c)
theorem z7 (ha:DT X a tA):DW X (.BoolOp .And [a] pos) tA:=let ⟨_,p,l⟩:=ha; ⟨_,c7 p,l⟩
theorem u8 (ha:DT X a tA):DW X (.BoolOp .Or [a] pos) tA:=let ⟨_,p,l⟩:=ha; ⟨_,Z5 p,l⟩
theorem yk (ha:DT X a tA) (hb:DW X (.BoolOp .And (b :: yz) pos) tB):DW X (.BoolOp .And (a :: b :: yz) pos) (aW tA tB):=by
 obtain ⟨te,p1,l1⟩:=ha
 obtain ⟨tf,p2,l2⟩:=hb
 refine ⟨_,Z6 p1 p2,fun ρ σ H Q r h R k=>l1 ρ σ H _ r h _ fun c H1 s1 q1=>?_⟩
 cases c with
 | true=>exact l2 ρ σ H1 Q (r.mono s1) q1 R fun d H2 s2 q2=>k d H2 (s1.trans s2) q2
 | false=>exact k _ H1 s1 q1
theorem rJ (ha:DT X a tA) (hb:DW X (.BoolOp .Or (b :: yz) pos) tB):DW X (.BoolOp .Or (a :: b :: yz) pos) (dOr tA tB):=by
 obtain ⟨te,p1,l1⟩:=ha
 obtain ⟨tf,p2,l2⟩:=hb
 refine ⟨_,WS p1 p2,fun ρ σ H Q r h R k=>l1 ρ σ H _ r h _ fun c H1 s1 q1=>?_⟩
 cases c with
 | false=>exact l2 ρ σ H1 Q (r.mono s1) q1 R fun d H2 s2 q2=>k d H2 (s1.trans s2) q2
 | true=>exact k _ H1 s1 q1
theorem x9 (ha:DT X a tA):DT X (.UnaryOp .Not a pos) (P8 tA):=by
 obtain ⟨te,p1,l1⟩:=ha
 exact ⟨_,Z8 p1,fun ρ σ H Q r h R k=>l1 ρ σ H _ r h _ fun c H1 s1 q1=>k _ H1 s1 q1⟩
def ZO (ta tb:DTE):DTE:=fun ρ Q=>ta ρ fun d=>∃ c,d=.bl c∧if c=true then tb ρ Q else Q (.bl false)
def P7 (ta tb:DTE):DTE:=fun ρ Q=>ta ρ fun d=>∃ c,d=.bl c∧if c=true then Q (.bl true) else tb ρ Q
def V1 (ta:DTE):DTE:=fun ρ Q=>ta ρ fun d=>∃ c,d=.bl c∧Q (.bl (!c))
theorem rO {op} {t:DTE} (h:DE X a t):DE X (.BoolOp op [a] pos) t:=let ⟨_,p,l⟩:=h; ⟨_,Yh p,l⟩
theorem tm (ha:DE X a ta) (hb:DE X (.BoolOp .And (b :: yz) pos) tb):DE X (.BoolOp .And (a :: b :: yz) pos) (ZO ta tb):=by
 obtain ⟨te,p1,l1⟩:=ha
 obtain ⟨tf,p2,l2⟩:=hb
 refine ⟨_,Ym p1 p2,fun ρ σ H Q r h R k=>l1 ρ σ H _ r h _ fun d v H1 s1 i1 ⟨c,e,q1⟩=>?_⟩
 subst e
 refine ⟨c,is_bl.mp i1,?_⟩
 cases c with
 | true=>exact l2 ρ σ H1 Q (r.mono s1) q1 R fun d v H2 s2 i2 q2=>k d v H2 (s1.trans s2) i2 q2
 | false=>exact k _ _ H1 s1 (is_bl.mpr rfl) q1
theorem VS (ha:DE X a ta) (hb:DE X (.BoolOp .Or (b :: yz) pos) tb):DE X (.BoolOp .Or (a :: b :: yz) pos) (P7 ta tb):=by
 obtain ⟨te,p1,l1⟩:=ha
 obtain ⟨tf,p2,l2⟩:=hb
 refine ⟨_,WV p1 p2,fun ρ σ H Q r h R k=>l1 ρ σ H _ r h _ fun d v H1 s1 i1 ⟨c,e,q1⟩=>?_⟩
 subst e
 refine ⟨c,is_bl.mp i1,?_⟩
 cases c with
 | false=>exact l2 ρ σ H1 Q (r.mono s1) q1 R fun d v H2 s2 i2 q2=>k d v H2 (s1.trans s2) i2 q2
 | true=>exact k _ _ H1 s1 (is_bl.mpr rfl) q1
theorem d7 (ha:DE X a ta):DE X (.UnaryOp .Not a pos) (V1 ta):=by
 obtain ⟨te,p1,l1⟩:=ha
 refine ⟨_,Yi p1,fun ρ σ H Q r h R k=>l1 ρ σ H _ r h _ fun d v H1 s1 i1 ⟨c,e,q1⟩=>?_⟩
 subst e
 exact ⟨c,is_bl.mp i1,k _ _ H1 s1 (is_bl.mpr rfl) q1⟩
end
section
variable {X:Cx} {a b c:Expr} {ta tb tc:DTE} {pos:Pos}
def gI (g:Int→Int→Dt):Dt→Dt→(Dt→Prop)→Prop:=fun d e Q=>∃ i j,d=.int i∧e=.int j∧Q (g i j)
def gIC (C:Int→Int→Prop) (g:Int→Int→Dt):Dt→Dt→(Dt→Prop)→Prop:=fun d e Q=>∃ i j,d=.int i∧e=.int j∧C i j∧Q (g i j)
theorem dY {f:Value→Value→Sem Value} {g:Int→Int→Int} (h:OpR X f (rI0 fun i j=>.int (g i j))):DOp X f (gI fun i j=>.int (g i j)):=by
 refine ⟨_,h,fun H x y d e Q i1 i2 q R k=>?_⟩
 obtain ⟨i,j,rfl,rfl,q⟩:=q
 exact ⟨i,j,is_int.mp i1,is_int.mp i2,k _ _ H (Le.refl H) (is_int.mpr rfl) q⟩
theorem oW {f:Value→Value→Sem Value} {g:Int→Int→Bool} (h:OpR X f (rI0 fun i j=>.bl (g i j))):DOp X f (gI fun i j=>.bl (g i j)):=by
 refine ⟨_,h,fun H x y d e Q i1 i2 q R k=>?_⟩
 obtain ⟨i,j,rfl,rfl,q⟩:=q
 exact ⟨i,j,is_int.mp i1,is_int.mp i2,k _ _ H (Le.refl H) (is_bl.mpr rfl) q⟩
theorem rM {f:Value→Value→Sem Value} {C:Int→Int→Prop} {g:Int→Int→Int} (h:OpR X f (rI C fun i j=>.int (g i j))):DOp X f (gIC C fun i j=>.int (g i j)):=by
 refine ⟨_,h,fun H x y d e Q i1 i2 q R k=>?_⟩
 obtain ⟨i,j,rfl,rfl,hc,q⟩:=q
 exact ⟨i,j,is_int.mp i1,is_int.mp i2,hc,k _ _ H (Le.refl H) (is_int.mpr rfl) q⟩
theorem bo:OpR X (binaryOp .Mult) (rI IntMulOk fun i j=>.int (i * j)):=opI fun _ _ _ _ _ _ _ hc q=>mul_int q hc
theorem zU:DOp X (binaryOp .Add) (gI fun i j=>.int (i + j)):=dY Yt
theorem yi:DOp X (binaryOp .Sub) (gI fun i j=>.int (i - j)):=dY Yp
theorem ya:DOp X (binaryOp .Mult) (gIC IntMulOk fun i j=>.int (i * j)):=rM bo
theorem xw:DOp X (binaryOp .FloorDiv) (gIC ic fun i j=>.int (i.fdiv j)):=rM fK
def j9 (_ j:Int):Prop:=j ≠ 0
theorem yJ:DOp X (binaryOp .Mod) (gIC j9 fun i j=>.int (i.fmod j)):=rM (C:=j9) bp
theorem cq {c n:Int} (h:(n != 0 && decide (n.natAbs < 1073741824))=true):ic c n:=by
 rw [Bool.and_eq_true,bne_iff_ne,decide_eq_true_iff] at h
 exact h
theorem pL {c n:Int} (h:(n != 0)=true):j9 c n:=bne_iff_ne.mp h
theorem Ue {c n:Int} (h:(decide (0 ≤ n) && (decide (n ≤ 1000000) && decide (c.natAbs < 18446744073709551616)))=true):Wv c n:=by
 rw [Bool.and_eq_true,Bool.and_eq_true,decide_eq_true_iff,decide_eq_true_iff,decide_eq_true_iff] at h
 exact h
theorem XT {c n:Int} (h:decide (n.natAbs < 9223372036854775808)=true):IntMulOk c n:=by
 rw [decide_eq_true_iff] at h
 exact .of_right (intBits_le_64 (by omega) (by omega))
theorem aw {c n:Int} (h:decide (n.natAbs < 9223372036854775808)=true):IntMulOk n c:=by
 rw [decide_eq_true_iff] at h
 exact .of_left (intBits_le_64 (by omega) (by omega))
theorem Zu:DOp X (binaryOp .Pow) (gIC Wv fun i j=>.int (i ^ j.toNat)):=rM Yr
theorem iH:DOp X (compareOp .Lt) (gI fun i j=>.bl (decide (i < j))):=oW WZ
theorem Vd:DOp X (compareOp .LtE) (gI fun i j=>.bl (decide (i ≤ j))):=oW W5
theorem bu:DOp X (compareOp .Gt) (gI fun i j=>.bl (decide (j < i))):=oW W6
theorem Ve:DOp X (compareOp .GtE) (gI fun i j=>.bl (decide (j ≤ i))):=oW W7
def Wg (ta:DTE):DTE:=fun ρ Q=>ta ρ fun d=>∃ i,d=.int i∧Q (.int (-i))
theorem xA (ha:DE X a ta):DE X (.UnaryOp .USub a pos) (Wg ta):=by
 obtain ⟨te,p1,l1⟩:=ha
 refine ⟨_,WU ZV p1,fun ρ σ H Q r h R k=>l1 ρ σ H _ r h _ fun d v H1 s1 i1 ⟨i,e,q1⟩=>?_⟩
 subst e
 exact ⟨i,is_int.mp i1,k _ _ H1 s1 (is_int.mpr rfl) q1⟩
theorem vR:DOp X (binaryOp .Add) (fun d e Q=>∃ ds es,d=.lst ds∧e=.lst es∧ds.length + es.length ≤ 100000∧Q (.lst (ds ++ es))):=by
 refine ⟨_,Ys,fun H x y d e Q i1 i2 q R k=>?_⟩
 obtain ⟨ds,es,rfl,rfl,hl,q⟩:=q
 obtain ⟨l,xs,rfl,h1,a1⟩:=is_lst.mp i1
 obtain ⟨m,ys,rfl,h2,a2⟩:=is_lst.mp i2
 refine ⟨l,m,xs,ys,rfl,rfl,H.sub _ _ h1,H.sub _ _ h2,by rw [← a1.length,← a2.length]; exact Nat.le_trans hl (by decide),fun p hp=>?_⟩
 have s:=wz hp (.lst (xs ++ ys))
 exact k _ _ _ s (is_lst.mpr ⟨p,_,rfl,zA,(a1.mono s).append (a2.mono s)⟩) q
def aU:DTA:=fun _ Q=>Q []
def mR (te:DTE) (t:DTA):DTA:=fun ρ Q=>te ρ fun d=>t ρ fun ds=>Q (d :: ds)
variable {es:List Expr} {t:DTA}
theorem zf:DA X [] aU:=⟨_,yM,fun ρ σ H Q r h R k=>k [] [] H (Le.refl H) (allIs_nil.mpr rfl) h⟩
theorem zb (ha:DE X a ta) (hr:DA X es t) (hs:starEach (a :: es) X.env=(false,eval a X.env) :: starEach es X.env:=by rfl):DA X (a :: es) (mR ta t):=by
 obtain ⟨te,p1,l1⟩:=ha
 obtain ⟨tf,p2,l2⟩:=hr
 exact ⟨_,zQ p1 p2 hs,fun ρ σ H Q r h R k=>l1 ρ σ H _ r h _ fun d v H1 s1 i1 q1=>l2 ρ σ H1 _ (r.mono s1) q1 _ fun ds vs H2 s2 i2 q2=>
  k (d :: ds) (v :: vs) H2 (s1.trans s2) (allIs_cons.mpr ⟨v,vs,rfl,i1.mono s2,i2⟩) q2⟩
def P0 (t:DTA):DTE:=fun ρ Q=>t ρ fun ds=>Nat.ble ds.length 1000=true∧Q (.tup ds)
def aV (t:DTA):DTE:=fun ρ Q=>t ρ fun ds=>Nat.ble ds.length 1000=true∧Q (.lst ds)
theorem zC {x1} (h:DA X es t):DE X (.Tuple es x1 pos) (P0 t):=by
 obtain ⟨te,p1,l1⟩:=h
 refine ⟨_,fF p1,fun ρ σ H Q r h R k=>l1 ρ σ H _ r h _ fun ds vs H1 s1 i1 ⟨hl,q1⟩=>⟨?_,fun p hp=>?_⟩⟩
 ·rw [← i1.length]; exact Nat.le_trans (Nat.le_of_ble_eq_true hl) (by decide)
 ·have s:=wz hp (.tup vs)
  exact k _ _ _ (s1.trans s) (is_tup.mpr ⟨p,vs,rfl,zA,i1.mono s⟩) q1
theorem zN (h:DA X es t):DE X (.List es pos) (aV t):=by
 obtain ⟨te,p1,l1⟩:=h
 refine ⟨_,fH p1,fun ρ σ H Q r h R k=>l1 ρ σ H _ r h _ fun ds vs H1 s1 i1 ⟨hl,q1⟩=>⟨?_,fun p hp=>?_⟩⟩
 ·rw [← i1.length]; exact Nat.le_trans (Nat.le_of_ble_eq_true hl) (by decide)
 ·have s:=wz hp (.lst vs)
  exact k _ _ _ (s1.trans s) (is_lst.mpr ⟨p,vs,rfl,zA,i1.mono s⟩) q1
def nr:Dt→Option (List Dt)
 | .tup ds=>some ds
 | .lst ds=>some ds
 | .scr ns=>some (ns.map .int)
 | _=>none
theorem pZ {H:Vw} {d:Dt} {v:V} {ds:List Dt} (h:Is K H.g d v) (e:nr d=some ds):∃ a xs,v=.ref a∧(SqL K H.h a xs∨SqT K H.h a xs)∧AllIs K H.g ds xs:=by
 cases d with
 | tup es=>
  obtain rfl:es=ds:=Option.some.inj e
  obtain ⟨a,xs,rfl,h1,h2⟩:=is_tup.mp h
  exact ⟨a,xs,rfl,.inr (.of (H.sub _ _ h1)),h2⟩
 | lst es=>
  obtain rfl:es=ds:=Option.some.inj e
  obtain ⟨a,xs,rfl,h1,h2⟩:=is_lst.mp h
  exact ⟨a,xs,rfl,.inl (.of (H.sub _ _ h1)),h2⟩
 | scr ns=>
  obtain rfl:ns.map Dt.int=ds:=Option.some.inj e
  obtain ⟨a,rfl,h1⟩:=is_scr.mp h
  exact ⟨a,_,rfl,.inl (H.sub.seq h1),AllIs.ints⟩
 | _=>cases e
def dIx (ta tb:DTE):DTE:=fun ρ Q=>ta ρ fun d=>tb ρ fun e=>∃ ds i d',nr d=some ds∧e=.int i∧atI ds i=some d'∧Q d'
theorem zB (ha:DE X a ta) (hb:DE X b tb) (hs:o8 b):DE X (.Subscript a b pos) (dIx ta tb):=by
 obtain ⟨te,p1,l1⟩:=ha
 obtain ⟨tf,p2,l2⟩:=hb
 refine ⟨_,Zt X2 p1 p2 hs,fun ρ σ H Q r h R k=>l1 ρ σ H _ r h _ fun d v H1 s1 i1 q1=>l2 ρ σ H1 _ (r.mono s1) q1 _ fun e u H2 s2 i2 q2=>?_⟩
 obtain ⟨ds,i,d',e1,e2,e3,q⟩:=q2
 subst e2
 obtain ⟨p,xs,e4,h1,h2⟩:=pZ (i1.mono s2) e1
 obtain ⟨w,e5,h3⟩:=h2.atI e3
 rcases h1 with h1 | h1
 ·exact .inl ⟨p,xs,i,w,e4,is_int.mp i2,h1,e5,k d' w H2 (s1.trans s2) h3 q⟩
 ·exact .inr (.inl ⟨p,xs,i,w,e4,is_int.mp i2,h1,e5,k d' w H2 (s1.trans s2) h3 q⟩)
def P9 (t:DTE):DTE:=fun ρ Q=>t ρ fun d=>∃ ds,nr d=some ds∧Q (.int ds.length)
theorem yN {p:Pos} (hg:Gl X "len") (hm:X.mg "len"=none) (ha:DE X a ta) (hs:starEach [a] X.env=(false,eval a X.env) :: starEach [] X.env:=by rfl) (hpl:(backTo pos (starEach [] X.env)).any (·.1)=false:=by rfl):
  DE X (.Call (.Name "len" p) [a] [] pos) (P9 ta):=by
 obtain ⟨te,p1,l1⟩:=ha
 refine ⟨_,xB uu hg hm PySem.boot_len (zQ p1 yM hs) (by decide) (by decide) hs hpl,fun ρ σ H Q r h R k=>l1 ρ σ H _ r h _ fun d v H1 s1 i1 ⟨ds,e,q⟩=>?_⟩
 obtain ⟨a,xs,rfl,h1,h2⟩:=pZ i1 e
 exact ⟨a,xs,rfl,h1,by rw [← h2.length]; exact k _ _ H1 s1 (is_int.mpr rfl) q⟩
def se (xs:List Dt) (lo hi:Option Int):List Dt:=(xs.drop (HT.sIx xs.length 0 lo)).take (HT.sIx xs.length xs.length hi - HT.sIx xs.length 0 lo)
theorem AllIs.cut {G:Hp} {ds:List Dt} {xs:List V} (h:AllIs K G ds xs) (lo hi:Option Int):AllIs K G (se ds lo hi) (jn xs lo hi):=by
 unfold se jn
 rw [← h.length]
 exact (h.drop _).take _
abbrev DTO:=DS→(Option Int→Prop)→Prop
def DO (X:Cx) (e:Option Expr) (t:DTO):Prop:=∃ te,PO X e te∧∀ {F:Hp} (ρ:DS) (σ:St) (H:Vw) (Q:Option Int→Prop),Rl X.K (Zx X) F H ρ σ→t ρ Q→∀ R:Option Int→Hp→Prop,(∀ o H',Le H H'→Q o→R o H'.h)→te σ H.h R
def aS:DTO:=fun _ Q=>Q none
def VY (t:DTE):DTO:=fun ρ Q=>t ρ fun d=>∃ i,d=.int i∧Q (some i)
theorem jP:DO X none aS:=⟨_,bb,fun ρ σ H Q r h R k=>k none H (Le.refl H) h⟩
theorem sv (ha:DE X a ta):DO X (some a) (VY ta):=by
 obtain ⟨te,p1,l1⟩:=ha
 refine ⟨_,ba p1,fun ρ σ H Q r h R k=>l1 ρ σ H _ r h _ fun d v H1 s1 i1 ⟨i,e,q⟩=>?_⟩
 subst e
 exact ⟨i,is_int.mp i1,k _ H1 s1 q⟩
def xx:Dt→Option (List Dt)
 | .lst ds=>some ds
 | .scr ns=>some (ns.map .int)
 | _=>none
theorem jC {H:Vw} {d:Dt} {v:V} {ds:List Dt} (h:Is K H.g d v) (e:xx d=some ds):∃ a xs,v=.ref a∧SqL K H.h a xs∧AllIs K H.g ds xs:=by
 cases d with
 | lst es=>
  obtain rfl:es=ds:=Option.some.inj e
  obtain ⟨a,xs,rfl,h1,h2⟩:=is_lst.mp h
  exact ⟨a,xs,rfl,.of (H.sub _ _ h1),h2⟩
 | scr ns=>
  obtain rfl:ns.map Dt.int=ds:=Option.some.inj e
  obtain ⟨a,rfl,h1⟩:=is_scr.mp h
  exact ⟨a,_,rfl,H.sub.seq h1,AllIs.ints⟩
 | _=>cases e
def dSl (te:DTE) (tl th:DTO):DTE:=fun ρ Q=>te ρ fun d=>tl ρ fun l=>th ρ fun u=>∃ ds,xx d=some ds∧Q (.lst (se ds l u))
theorem rN {lo hi:Option Expr} {tl th:DTO} {p2:Pos} (ha:DE X a ta) (hl:DO X lo tl) (hu:DO X hi th):DE X (.Subscript a (.Slice lo hi none p2) pos) (dSl ta tl th):=by
 obtain ⟨te,p1,l1⟩:=ha
 obtain ⟨tf,p2,l2⟩:=hl
 obtain ⟨tg,p3,l3⟩:=hu
 refine ⟨_,fG cT p1 p2 p3,fun ρ σ H Q r h R k=>l1 ρ σ H _ r h _ fun d v H1 s1 i1 q1=>l2 ρ σ H1 _ (r.mono s1) q1 _ fun l H2 s2 q2=>l3 ρ σ H2 _ (r.mono (s1.trans s2)) q2 _ fun u H3 s3 ⟨ds,e,q⟩=>?_⟩
 obtain ⟨a,xs,rfl,h1,h2⟩:=jC (i1.mono (s2.trans s3)) e
 refine ⟨a,xs,rfl,h1,fun p hp=>?_⟩
 have s:=wz hp (.lst (jn xs l u))
 exact k _ _ _ (((s1.trans s2).trans s3).trans s) (is_lst.mpr ⟨p,_,rfl,zA,(h2.cut l u).mono s⟩) q
end
def LiF (K:PySem.W.Frag) (Z:Hp) (te:TE) (t:DTE):Prop:=
 ∀ {F:Hp} (ρ:DS) (σ:St) (H:Vw) (Q:Dt→Prop),Rl K Z F H ρ σ→t ρ Q→∀ R:VK,
  (∀ es p xs H',Le H H'→H.h p=none→H'.h p=some (.lst xs)→H'.g p=none→AllIs K H'.g es xs→Q (.lst es)→R (.ref p) H'.h)→te σ H.h R
def DF (X:Cx) (e:Expr) (t:DTE):Prop:=∃ te,PE X e te∧LiF X.K (Zx X) te t
theorem uZ {H H':Vw} {p:Addr} {o:HO} (s:Le H H') (h0:H.h p=none) (h1:H'.h p=some o) (h2:H'.g p=none):Le H (H'.frz p o h1):=
 ⟨s.g.trans (zK h2 o),s.h,fun a z1 z2=>by
  have:a ≠ p:=fun e=>z1 (e ▸ h0)
  show upd H'.g p o a=none
  rw [zx this]; exact s.n a z1 z2⟩
section
variable {X:Cx} {a b c e:Expr} {ta tb tc:DTE} {t:DTA} {pos p0 p1 p2:Pos} {es:List Expr}
theorem DF.de {t:DTE} (h:DF X e t):DE X e t:=by
 obtain ⟨te,p,l⟩:=h
 exact ⟨te,p,fun ρ σ H Q r h R k=>l ρ σ H Q r h R fun es q xs H' s h0 h1 h2 i z=>k (.lst es) (.ref q) (H'.frz q _ h1) (uZ s h0 h1 h2) (is_lst.mpr ⟨q,xs,rfl,zA,AllIs.mono0 (zK h2 _) i⟩) z⟩
theorem u_ (h:DA X es t):DF X (.List es pos) (aV t):=by
 obtain ⟨te,p1,l1⟩:=h
 refine ⟨_,fH p1,fun ρ σ H Q r h R k=>l1 ρ σ H _ r h _ fun ds vs H1 s1 i1 ⟨hl,q1⟩=>⟨?_,fun p hp=>?_⟩⟩
 ·rw [← i1.length]; exact Nat.le_trans (Nat.le_of_ble_eq_true hl) (by decide)
 ·exact k ds p vs (H1.mine p (.lst vs) (H1.sub.free hp)) (s1.trans (oT hp _)) (s1.h.free hp) zA (H1.sub.free hp) i1 q1
theorem AllIs.rep {G:Hp} {ds:List Dt} {xs:List V} (h:AllIs K G ds xs):∀ k:Nat,AllIs K G (List.replicate k ds).flatten (List.replicate k xs).flatten
 | 0=>allIs_nil.mpr rfl
 | k + 1=>by
  rw [List.replicate_succ,List.replicate_succ,List.flatten_cons,List.flatten_cons]
  exact h.append (h.rep k)
def PX:Dt→Dt→(Dt→Prop)→Prop:=fun d e Q=>∃ ds k,d=.lst ds∧e=.int k∧-16000000 ≤ k∧k ≤ 16000000∧ds.length * k.toNat ≤ 16000000∧Q (.lst (List.replicate k.toNat ds).flatten)
theorem Wa (ha:DE X a ta) (hb:DE X b tb):DF X (.BinOp a .Mult b pos) (dOp PX ta tb):=by
 obtain ⟨te,p1,l1⟩:=ha
 obtain ⟨tf,p2,l2⟩:=hb
 refine ⟨_,Zs Yq p1 p2,fun ρ σ H Q r h R k=>l1 ρ σ H _ r h _ fun d v H1 s1 i1 q1=>l2 ρ σ H1 _ (r.mono s1) q1 _ fun e u H2 s2 i2 q2=>?_⟩
 obtain ⟨ds,n,rfl,rfl,hn1,hn2,hl,q⟩:=q2
 obtain ⟨l,xs,rfl,h1,a1⟩:=is_lst.mp (i1.mono s2)
 refine ⟨l,n,xs,rfl,is_int.mp i2,H2.sub _ _ h1,by omega,by omega,by rw [← a1.length]; exact Nat.le_trans hl (by decide),fun p hp=>?_⟩
 exact k _ p _ (H2.mine p _ (H2.sub.free hp)) ((s1.trans s2).trans (oT hp _)) ((s1.trans s2).h.free hp) zA (H2.sub.free hp) (a1.rep _) q
def V4 (ta:DTE):DTE:=fun ρ Q=>ta ρ fun d=>∃ ds,nr d=some ds∧Q (.lst ds)
theorem jR (hg:Gl X "list") (hm:X.mg "list"=none) (ha:DE X a ta) (hs:starEach [a] X.env=(false,eval a X.env) :: starEach [] X.env:=by rfl) (hpl:(backTo pos (starEach [] X.env)).any (·.1)=false:=by rfl):
  DF X (.Call (.Name "list" p0) [a] [] pos) (V4 ta):=by
 obtain ⟨te,p1,l1⟩:=ha
 refine ⟨_,iE oY hg hm PyProof.Rows.boot_list (zQ p1 yM hs) (by decide) (by decide) hs hpl,fun ρ σ H Q r h R k=>l1 ρ σ H _ r h _ fun d v H1 s1 i1 ⟨ds,e,q⟩=>?_⟩
 obtain ⟨a,xs,rfl,h1,h2⟩:=pZ i1 e
 exact ⟨a,xs,rfl,h1,fun p hp=>k _ p _ (H1.mine p _ (H1.sub.free hp)) (s1.trans (oT hp _)) (s1.h.free hp) zA (H1.sub.free hp) h2 q⟩
variable {i:Nat} {x:Str}
def ZK (i:Nat):DTE:=fun ρ Q=>∃ ds,ρ[i]? = some (.own ds)∧Q (.int ds.length)
theorem sx (i:Nat) (hg:Gl X "len") (hm:X.mg "len"=none) (hN:X.N[i]? = some x:=by rfl) (hv:Vis X.env.scope x:=by first | exact Or.inl rfl | exact Or.inr (Or.inl rfl) | exact Or.inr (Or.inr rfl)) (hd:(x == ("__debug__":Str))=false:=by decide)
  (hcd:(x == ("__classdict__":Str))=false:=by decide) (hs:starEach [.Name x p1] X.env=(false,eval (.Name x p1) X.env) :: starEach [] X.env:=by rfl) (hpl:(backTo pos (starEach [] X.env)).any (·.1)=false:=by rfl):
  DE X (.Call (.Name "len" p0) [.Name x p1] [] pos) (ZK i):=by
 refine ⟨_,xB uu hg hm PySem.boot_len (zQ (xh hN hv hd hcd) yM hs) (by decide) (by decide) hs hpl,fun ρ σ H Q r h R k=>?_⟩
 obtain ⟨ds,e,q⟩:=h
 obtain ⟨a,xs,e1,e2,e3,e4,e5⟩:=r.ow i ds e
 exact ⟨.ref a,e1,a,xs,rfl,.inl (.of e2),by rw [← e5.length]; exact k _ _ H (Le.refl H) (is_int.mpr rfl) q⟩
def Wj (i:Nat) (tb:DTE):DTE:=fun ρ Q=>∃ ds,ρ[i]? = some (.own ds)∧tb ρ fun e=>∃ k d,e=.int k∧atI ds k=some d∧Q d
theorem jj (i:Nat) (hb:DE X b tb) (hs:o8 b) (hN:X.N[i]? = some x:=by rfl) (hv:Vis X.env.scope x:=by first | exact Or.inl rfl | exact Or.inr (Or.inl rfl) | exact Or.inr (Or.inr rfl)) (hd:(x == ("__debug__":Str))=false:=by decide)
  (hcd:(x == ("__classdict__":Str))=false:=by decide):DE X (.Subscript (.Name x p1) b pos) (Wj i tb):=by
 obtain ⟨tf,p2,l2⟩:=hb
 refine ⟨_,Zt ix_list (xh hN hv hd hcd) p2 hs,fun ρ σ H Q r h R k=>?_⟩
 obtain ⟨ds,e,h⟩:=h
 obtain ⟨a,xs,e1,e2,e3,e4,e5⟩:=r.ow i ds e
 refine ⟨.ref a,e1,l2 ρ σ H _ r h _ fun e u H2 s2 i2 ⟨n,d,en,ed,q⟩=>?_⟩
 subst en
 obtain ⟨v,ev,iv⟩:=e5.atI ed
 exact ⟨a,xs,n,v,rfl,is_int.mp i2,.of (s2.h _ _ e2),ev,k d v H2 s2 (iv.mono s2) q⟩
def ZI (i:Nat):DTT:=fun ρ Q=>∃ ds,ρ[i]? = some (.own ds)∧Q (!ds.isEmpty)
theorem tE {G:Hp} {ds:List Dt} {xs:List V} (h:AllIs K G ds xs):(!xs.isEmpty)=!ds.isEmpty:=by
 cases ds with
 | nil=>rw [allIs_nil.mp h]; rfl
 | cons d ds=>obtain ⟨x,r,rfl,_⟩:=allIs_cons.mp h; rfl
theorem aM (i:Nat) (hN:X.N[i]? = some x:=by rfl) (hv:Vis X.env.scope x:=by first | exact Or.inl rfl | exact Or.inr (Or.inl rfl) | exact Or.inr (Or.inr rfl)) (hd:(x == ("__debug__":Str))=false:=by decide)
  (hcd:(x == ("__classdict__":Str))=false:=by decide) (he:∀ yD,isTrue (.Name x p1) X.env yD=(do let v ← yD; standAt (Expr.Name x p1).pos; holding [v] (truthy v)):=by intro _; rfl):DT X (.Name x p1) (ZI i):=by
 refine ⟨_,nC (xh hN hv hd hcd) he,fun ρ σ H Q r h R k=>?_⟩
 obtain ⟨ds,e,q⟩:=h
 obtain ⟨a,xs,e1,e2,e3,e4,e5⟩:=r.ow i ds e
 exact ⟨.ref a,e1,!ds.isEmpty,.inl ⟨xs,.of e2,(tE e5).symm⟩,k _ H (Le.refl H) q⟩
def P3 (ta:DTE):DTT:=fun ρ Q=>ta ρ fun d=>∃ ds,xx d=some ds∧Q (!ds.isEmpty)
theorem X6 (ha:DE X a ta) (he:∀ yD,isTrue a X.env yD=(do let v ← yD; standAt a.pos; holding [v] (truthy v)):=by intro _; rfl):DT X a (P3 ta):=by
 obtain ⟨te,p1,l1⟩:=ha
 refine ⟨_,nC p1 he,fun ρ σ H Q r h R k=>l1 ρ σ H _ r h _ fun d v H1 s1 i1 ⟨ds,e,q⟩=>?_⟩
 obtain ⟨a,xs,rfl,h1,h2⟩:=jC i1 e
 exact ⟨!ds.isEmpty,.inl ⟨xs,h1,(tE h2).symm⟩,k _ H1 s1 q⟩
def fz:Sl→Sl
 | .own ds=>.some (.lst ds)
 | .arg _ ds=>.some (.lst ds)
 | s=>s
open Classical in
theorem Rl.bor {ρ:DS} {σ:St} (r:Rl K Z F W ρ σ):∃ W':Vw,W'.h=W.h∧Same W.g W'.g∧Rl K Z F W' (ρ.map fz) σ∧∀ a o,W'.g a=some o→W.g a=some o∨∃ xs,o=.lst xs:=by
 let ow:Addr→Prop:=fun a=>∃ (i:Nat) (ds:List Dt),(ρ[i]? = some (Sl.own ds)∧σ[i]? = some (some (V.ref a)))∨ρ[i]? = some (Sl.arg a ds)
 have own_at:∀ a,ow a→W.g a=none:=fun a ⟨i,ds,h⟩=>by
  rcases h with ⟨e,ea⟩ | e
  ·obtain ⟨b,xs,e1,_,e3,_⟩:=r.ow i ds e
   rw [ea] at e1
   cases e1
   exact e3
  ·exact (r.ar i a ds e).1.choose_spec.2.2.1
 let g:Hp:=fun a=>if ow a then W.h a else W.g a
 have gs:Same W.g g:=fun b o q=>by
  show (if ow b then W.h b else W.g b)=some o
  by_cases hb:ow b
  ·rw [own_at b hb] at q; cases q
  ·rw [if_neg hb]; exact q
 have sub:Same g W.h:=fun b o q=>by
  have q':(if ow b then W.h b else W.g b)=some o:=q
  by_cases hb:ow b
  ·rw [if_pos hb] at q'; exact q'
  ·rw [if_neg hb] at q'; exact W.sub _ _ q'
 have cls:∀ (i:Nat) (y:Sl),(ρ.map fz)[i]? = some y→(∃ d,ρ[i]? = some (.some d)∧y=.some d)∨(∃ ds,(ρ[i]? = some (.own ds)∨∃ a,ρ[i]? = some (.arg a ds))∧y=.some (.lst ds))∨y=.none:=fun i y e=>by
  rw [List.getElem?_map] at e
  cases q:ρ[i]? with
  | none=>rw [q] at e; cases e
  | some z=>
   rw [q] at e
   have e':=(Option.some.inj e).symm
   cases z with
   | none=>exact .inr (.inr e')
   | some d=>exact .inl ⟨d,rfl,e'⟩
   | own ds=>exact .inr (.inl ⟨ds,.inl rfl,e'⟩)
   | arg a ds=>exact .inr (.inl ⟨ds,.inr ⟨a,rfl⟩,e'⟩)
 have gl:∀ a o,g a=some o→W.g a=some o∨∃ xs,o=HO.lst xs:=fun a o q=>by
  have q':(if ow a then W.h a else W.g a)=some o:=q
  by_cases hb:ow a
  ·rw [if_pos hb] at q'
   obtain ⟨i,ds,h⟩:=hb
   rcases h with ⟨e,ea⟩ | e
   ·obtain ⟨b,xs,e1,e2,_⟩:=r.ow i ds e
    rw [ea] at e1
    cases e1
    rw [e2] at q'
    exact .inr ⟨xs,(Option.some.inj q').symm⟩
   ·obtain ⟨⟨xs,_,e2,_⟩,_,_⟩:=r.ar i a ds e
    rw [e2] at q'
    exact .inr ⟨xs,(Option.some.inj q').symm⟩
  ·rw [if_neg hb] at q'
   exact .inl q'
 refine ⟨⟨g,W.h,sub⟩,rfl,gs,⟨by rw [List.length_map]; exact r.len,fun i d e=>?_,fun i ds e=>?_,fun i j ds es _ e _=>?_,r.fr,r.z,fun i a ds e=>?_⟩,gl⟩
 ·rcases cls i _ e with ⟨d',q,e1⟩ | ⟨ds,q,e1⟩ | e1
  ·cases e1
   obtain ⟨v,h1,h2⟩:=r.at_ i d q
   exact ⟨v,h1,Is.mono0 gs h2⟩
  ·cases e1
   rcases q with q | ⟨b,q⟩
   ·obtain ⟨b,xs,e1,e2,e3,e4,e5⟩:=r.ow i ds q
    have hb:ow b:=⟨i,ds,.inl ⟨q,e1⟩⟩
    exact ⟨_,e1,is_lst.mpr ⟨b,xs,rfl,(if_pos hb).trans e2,AllIs.mono0 gs e5⟩⟩
   ·obtain ⟨⟨xs,e1,e2,e3,e4,e5⟩,_,_⟩:=r.ar i b ds q
    have hb:ow b:=⟨i,ds,.inr q⟩
    exact ⟨_,e1,is_lst.mpr ⟨b,xs,rfl,(if_pos hb).trans e2,AllIs.mono0 gs e5⟩⟩
  ·cases e1
 ·rcases cls i _ e with ⟨d',q,e1⟩ | ⟨ds,q,e1⟩ | e1 <;> cases e1
 ·rcases cls i _ e with ⟨d',q,e1⟩ | ⟨ds,q,e1⟩ | e1 <;> cases e1
 ·rcases cls i _ e with ⟨d',q,e1⟩ | ⟨ds,q,e1⟩ | e1 <;> cases e1
theorem cv {H W' H1:Vw} (e:W'.h=H.h) (s1:Le W' H1) (sg:Same H.g W'.g):∃ H2:Vw,H2.h=H1.h∧H2.g=H.g∧Le H H2:=
 ⟨⟨H.g,H1.h,(sg.trans s1.g).trans H1.sub⟩,rfl,rfl,Same.refl _,e ▸ s1.h,fun _ _ h=>h⟩
def ZN (t:DTT):DTT:=fun ρ Q=>t (ρ.map fz) Q
theorem dS {t:DTT} (h:DT X e t):DT X e (ZN t):=by
 obtain ⟨te,p,l⟩:=h
 refine ⟨te,p,fun ρ σ H Q r hq R k=>?_⟩
 obtain ⟨W',e,sg,r',_⟩:=r.bor
 have:=l (ρ.map fz) σ W' Q r' hq R fun b H1 s1 q1=>by
  obtain ⟨H2,e2,_,s2⟩:=cv e s1 sg
  rw [← e2]
  exact k b H2 s2 q1
 rw [e] at this
 exact this
def fg:Dt→Bool
 | .non=>true | .bl _=>true | .int _=>true | .str _=>true | _=>false
end
abbrev DSp:=List Dt→(Dt→Prop)→Prop
def zv (K:PySem.W.Frag) (S:DSp):Sp:=fun vs H Q _=>∃ (W:Vw) (ds:List Dt) (Qd:Dt→Prop),W.h=H∧AllIs K W.g ds vs∧S ds Qd∧∀ d v W',Le W W'→Is K W'.g d v→Qd d→Q v W'.h
def y0 (K:PySem.W.Frag) (S:DSp):Sp:=fun vs H Q _=>∃ (W:Vw) (ds:List Dt) (Qd:Dt→Prop),W.h=H∧AllIs K W.g ds vs∧S ds Qd∧
 ∀ es p xs W',Le W W'→W.h p=none→W'.h p=some (.lst xs)→W'.g p=none→AllIs K W'.g es xs→Qd (.lst es)→Q (.ref p) W'.h
structure DOk (P:Program) (w:World) (K:PySem.W.Frag) (mg:Str→Option Value) (base:Heap) (n:Nat) (x:Str) (S:DSp):Prop where
 ex:∃ f fd ps,mg x=some (.ref f)∧PySem.W.keepIn K (.ref f)=true∧Binds K fd ps []∧FnOk P w K mg base CX0 n f fd ps (zv K S)
structure FOk (P:Program) (w:World) (K:PySem.W.Frag) (mg:Str→Option Value) (base:Heap) (n:Nat) (x:Str) (S:DSp):Prop where
 ex:∃ f fd ps,mg x=some (.ref f)∧PySem.W.keepIn K (.ref f)=true∧Binds K fd ps []∧FnOk P w K mg base CX0 n f fd ps (y0 K S)
structure MOk (P:Program) (w:World) (K:PySem.W.Frag) (mg:Str→Option Value) (base:Heap) (n:Nat) (C:Addr) (m:Str) (S:DSp):Prop where
 cl:Cls K C
 ex:∃ f fd ps,Zh K C m f∧Binds K fd ps []∧FnOk P w K mg base CX0 n f fd ps (zv K S)
structure FMOk (P:Program) (w:World) (K:PySem.W.Frag) (mg:Str→Option Value) (base:Heap) (n:Nat) (C:Addr) (m:Str) (S:DSp):Prop where
 cl:Cls K C
 ex:∃ f fd ps,Zh K C m f∧Binds K fd ps []∧FnOk P w K mg base CX0 n f fd ps (y0 K S)
section
variable {X:Cx} {a b c e o:Expr} {ta tb tc:DTE} {pos p apos:Pos} {es:List Expr} {t:DTA} {n:Nat} {x m:Str} {S:DSp}
def jV (S:DSp) (t:DTA):DTE:=fun ρ Q=>t ρ fun ds=>S ds Q
theorem zo (G:DOk X.prog X.w X.K X.mg X.base n x S) (hr:Room n X.A) (hg:Gl X x) (ha:DA X (e :: es) t) (hdb:(x == ("__debug__":Str))=false:=by decide)
  (he:starEach (e :: es) X.env=(false,eval e X.env) :: starEach es X.env:=by rfl) (hpl:(backTo pos (starEach es X.env)).any (·.1)=false:=by rfl):DE X (.Call (.Name x p) (e :: es) [] pos) (jV S t):=by
 obtain ⟨f,fd,ps,hm,hk,hb,F⟩:=G.ex
 obtain ⟨te,p1,l1⟩:=ha
 refine ⟨_,vO F hr hg hm hk hb .nil ph p1 hdb he hpl,fun ρ σ H Q r h R k=>l1 ρ σ H _ r h _ fun ds vs H1 s1 i1 q1=>?_⟩
 rw [List.append_nil]
 exact ⟨H1,ds,Q,rfl,i1,q1,fun d v H2 s2 i2 q2=>k d v H2 (s1.trans s2) i2 q2⟩
theorem sw (G:FOk X.prog X.w X.K X.mg X.base n x S) (hr:Room n X.A) (hg:Gl X x) (ha:DA X (e :: es) t) (hdb:(x == ("__debug__":Str))=false:=by decide)
  (he:starEach (e :: es) X.env=(false,eval e X.env) :: starEach es X.env:=by rfl) (hpl:(backTo pos (starEach es X.env)).any (·.1)=false:=by rfl):DF X (.Call (.Name x p) (e :: es) [] pos) (jV S t):=by
 obtain ⟨f,fd,ps,hm,hk,hb,F⟩:=G.ex
 obtain ⟨te,p1,l1⟩:=ha
 refine ⟨_,vO F hr hg hm hk hb .nil ph p1 hdb he hpl,fun ρ σ H Q r h R k=>l1 ρ σ H _ r h _ fun ds vs H1 s1 i1 q1=>?_⟩
 rw [List.append_nil]
 exact ⟨H1,ds,Q,rfl,i1,q1,fun es p xs H2 s2 h0 h1 h2 i2 q2=>k es p xs H2 (s1.trans s2) (s1.h.free h0) h1 h2 i2 q2⟩
def g8 (X:Cx) (n:Nat) (m:Str) (ta:TE) (t:TA):TE:=fun σ H Q=>ta σ H fun x H1=>∃ a dx fs C f fd ps sp,x=.ref a∧H1 a=some (.ins C dx fs)∧fs.lookup m=none∧Cls X.K C∧Zh X.K C m f∧Binds X.K fd ps []∧
 FnOk X.prog X.w X.K X.mg X.base CX0 n f fd ps sp∧t σ H1 fun vs H2=>sp (x :: vs) H2 Q E0
theorem nH {pl:Sem Bool} {te:TE} {tt:TA} (he:PE X o te) (hr:Room n X.A) (ha:PA X (e :: es) tt)
  (hst:starEach (e :: es) X.env=(false,eval e X.env) :: starEach es X.env:=by rfl) (hpl:(backTo pos (starEach es X.env)).any (·.1)=false:=by rfl)
  (ht:eval (.Call (.Attribute o m apos) (e :: es) [] pos) X.env=(do
   let ov ← eval o X.env
   standAt apos.atName
   let (f,first) ← holding [ov] (getMethod ov m pl)
   callWith pos f first (backTo pos (starEach (e :: es) X.env)) (backToKw pos (keywordEach [] X.env))):=by rfl):
  PE X (.Call (.Attribute o m apos) (e :: es) [] pos) (g8 X n m te tt):=by
 intro pins s σ H Q I h
 refine PySem.W.methodCall_KW (pl:=pl) (thn (he pins s σ H _ I h) fun u s1 ⟨x,H1,I1,rx,a,dx,fs,C,f,fd,ps,sp,ex,ea,l,c,hm,hb,F,q⟩=>?_) ht
 subst ex
 obtain rfl:u=Value.ref a:=rx
 refine rF I1 ea c hm l ?_
 refine PySem.W.callWith_K (first:=[.ref a]) (h₀:=X.base) I.ok.mod.kin hm.kp (thn (ha pos pins s1 σ H1 _ I1 q) fun us s2 ⟨vs,H2,I2,r,q2⟩=>⟨I2.kIn,?_⟩) hst hpl
 exact lD (us:=.ref a :: us) (vs:=.ref a :: vs) (dvs:=[]) (E:=E0) F hr hb .nil ph I2 (.cons rfl r) (by rw [List.append_nil]; exact q2)
theorem iD {pl:Sem Bool} {te:TE} (he:PE X o te) (hr:Room n X.A)
  (ht:eval (.Call (.Attribute o m apos) [] [] pos) X.env=(do
   let ov ← eval o X.env
   standAt apos.atName
   let (f,first) ← holding [ov] (getMethod ov m pl)
   callWith pos f first (backTo pos (starEach [] X.env)) (backToKw pos (keywordEach [] X.env))):=by rfl):
  PE X (.Call (.Attribute o m apos) [] [] pos) (g8 X n m te WD):=by
 intro pins s σ H Q I h
 refine PySem.W.methodCall_KW (pl:=pl) (thn (he pins s σ H _ I h) fun u s1 ⟨x,H1,I1,rx,a,dx,fs,C,f,fd,ps,sp,ex,ea,l,c,hm,hb,F,q⟩=>?_) ht
 subst ex
 obtain rfl:u=Value.ref a:=rx
 refine rF I1 ea c hm l ?_
 exact PySem.W.callWith_K0 (first:=[.ref a]) I1.kIn hm.kp (lD (us:=[.ref a]) (vs:=[.ref a]) (dvs:=[]) (E:=E0) F hr hb .nil ph I1 (.cons rfl .nil) q)
def V2 (X:Cx) (n:Nat) (m:Str) (ta:DTE) (t:DTA):DTE:=fun ρ Q=>ta ρ fun d=>∃ C f k S,d=.way C f k∧(m == f)=false∧MOk X.prog X.w X.K X.mg X.base n C m S∧t ρ fun ds=>S (d :: ds) Q
theorem yY {pl:Sem Bool} (hr:Room n X.A) (he:DE X o ta) (ha:DA X (e :: es) t)
  (hst:starEach (e :: es) X.env=(false,eval e X.env) :: starEach es X.env:=by rfl) (hpl:(backTo pos (starEach es X.env)).any (·.1)=false:=by rfl)
  (ht:eval (.Call (.Attribute o m apos) (e :: es) [] pos) X.env=(do
   let ov ← eval o X.env
   standAt apos.atName
   let (f,first) ← holding [ov] (getMethod ov m pl)
   callWith pos f first (backTo pos (starEach (e :: es) X.env)) (backToKw pos (keywordEach [] X.env))):=by rfl):
  DE X (.Call (.Attribute o m apos) (e :: es) [] pos) (V2 X n m ta t):=by
 obtain ⟨te,p0,l0⟩:=he
 obtain ⟨tt,p1,l1⟩:=ha
 refine ⟨_,nH (pl:=pl) p0 hr p1 hst hpl ht,fun ρ σ H Q r h R k=>l0 ρ σ H _ r h _ fun d v H1 s1 i1 ⟨C,f,z,S,ed,hne,M,q1⟩=>?_⟩
 subst ed
 obtain ⟨a,dx,rfl,ha⟩:=is_way.mp i1
 obtain ⟨g,fd,ps,hm,hb,F⟩:=M.ex
 refine ⟨a,dx,_,C,g,fd,ps,_,rfl,H1.sub _ _ ha,by simp [List.lookup,hne],M.cl,hm,hb,F,l1 ρ σ H1 _ (r.mono s1) q1 _ fun ds vs H2 s2 i2 q2=>?_⟩
 exact ⟨H2,_,Q,rfl,allIs_cons.mpr ⟨_,_,rfl,i1.mono s2,i2⟩,q2,fun d v H3 s3 i3 q3=>k d v H3 ((s1.trans s2).trans s3) i3 q3⟩
def Wi (X:Cx) (n:Nat) (m:Str) (ta:DTE):DTE:=fun ρ Q=>ta ρ fun d=>∃ C f k S,d=.way C f k∧(m == f)=false∧MOk X.prog X.w X.K X.mg X.base n C m S∧S [d] Q
theorem ut {pl:Sem Bool} (hr:Room n X.A) (he:DE X o ta)
  (ht:eval (.Call (.Attribute o m apos) [] [] pos) X.env=(do
   let ov ← eval o X.env
   standAt apos.atName
   let (f,first) ← holding [ov] (getMethod ov m pl)
   callWith pos f first (backTo pos (starEach [] X.env)) (backToKw pos (keywordEach [] X.env))):=by rfl):
  DE X (.Call (.Attribute o m apos) [] [] pos) (Wi X n m ta):=by
 obtain ⟨te,p0,l0⟩:=he
 refine ⟨_,iD (pl:=pl) p0 hr ht,fun ρ σ H Q r h R k=>l0 ρ σ H _ r h _ fun d v H1 s1 i1 ⟨C,f,z,S,ed,hne,M,q1⟩=>?_⟩
 subst ed
 obtain ⟨a,dx,rfl,ha⟩:=is_way.mp i1
 obtain ⟨g,fd,ps,hm,hb,F⟩:=M.ex
 refine ⟨a,dx,_,C,g,fd,ps,_,rfl,H1.sub _ _ ha,by simp [List.lookup,hne],M.cl,hm,hb,F,?_⟩
 exact ⟨H1,_,Q,rfl,allIs_cons.mpr ⟨_,_,rfl,i1,allIs_nil.mpr rfl⟩,q1,fun d v H3 s3 i3 q3=>k d v H3 (s1.trans s3) i3 q3⟩
def Wh (X:Cx) (n:Nat) (m:Str) (ta:DTE) (t:DTA):DTE:=fun ρ Q=>ta ρ fun d=>∃ C f k S,d=.way C f k∧(m == f)=false∧FMOk X.prog X.w X.K X.mg X.base n C m S∧t ρ fun ds=>S (d :: ds) Q
theorem jQ {pl:Sem Bool} (hr:Room n X.A) (he:DE X o ta) (ha:DA X (e :: es) t)
  (hst:starEach (e :: es) X.env=(false,eval e X.env) :: starEach es X.env:=by rfl) (hpl:(backTo pos (starEach es X.env)).any (·.1)=false:=by rfl)
  (ht:eval (.Call (.Attribute o m apos) (e :: es) [] pos) X.env=(do
   let ov ← eval o X.env
   standAt apos.atName
   let (f,first) ← holding [ov] (getMethod ov m pl)
   callWith pos f first (backTo pos (starEach (e :: es) X.env)) (backToKw pos (keywordEach [] X.env))):=by rfl):
  DF X (.Call (.Attribute o m apos) (e :: es) [] pos) (Wh X n m ta t):=by
 obtain ⟨te,p0,l0⟩:=he
 obtain ⟨tt,p1,l1⟩:=ha
 refine ⟨_,nH (pl:=pl) p0 hr p1 hst hpl ht,fun ρ σ H Q r h R k=>l0 ρ σ H _ r h _ fun d v H1 s1 i1 ⟨C,f,z,S,ed,hne,M,q1⟩=>?_⟩
 subst ed
 obtain ⟨a,dx,rfl,ha⟩:=is_way.mp i1
 obtain ⟨g,fd,ps,hm,hb,F⟩:=M.ex
 refine ⟨a,dx,_,C,g,fd,ps,_,rfl,H1.sub _ _ ha,by simp [List.lookup,hne],M.cl,hm,hb,F,l1 ρ σ H1 _ (r.mono s1) q1 _ fun ds vs H2 s2 i2 q2=>?_⟩
 have s:=s1.trans s2
 exact ⟨H2,_,Q,rfl,allIs_cons.mpr ⟨_,_,rfl,i1.mono s2,i2⟩,q2,fun es p xs H3 s3 h0 h1 h2 i3 q3=>k es p xs H3 (s.trans s3) (s.h.free h0) h1 h2 i3 q3⟩
def Oc (K:PySem.W.Frag) (f:Str) (ta:DTE):DTE:=fun ρ Q=>ta ρ fun d=>∃ C g k,d=.way C g k∧(f == g)=true∧Cls K C∧NoAttr K C f∧Q (.int k)
theorem zY {f:Str} (ha:DE X a ta) (hb:attributeBase a f X.env (eval a X.env)=eval a X.env:=by rfl):DE X (.Attribute a f pos) (Oc X.K f ta):=by
 obtain ⟨te,p1,l1⟩:=ha
 refine ⟨_,Yl p1 hb,fun ρ σ H Q r h R k=>l1 ρ σ H _ r h _ fun d v H1 s1 i1 ⟨C,g,z,ed,hfg,hc,hn,q1⟩=>?_⟩
 subst ed
 obtain ⟨p,dx,rfl,hp⟩:=is_way.mp i1
 exact ⟨p,C,dx,_,.int z,rfl,H1.sub _ _ hp,hc,hn,by simp [List.lookup,hfg],k _ _ H1 s1 (is_int.mpr rfl) q1⟩
def xl (C:Addr) (f:Str) (ok:Int→Prop):Sp:=fun vs H Q _=>∃ p dx i,vs=[.ref p,.int i]∧H p=some (.ins C dx [])∧ok i∧∀ H':Hp,H' p=some (.ins C dx [(f,.int i)])→(∀ b o,H b=some o→b ≠ p→H' b=some o)→Q .non H'
structure KOk (P:Program) (w:World) (K:PySem.W.Frag) (mg:Str→Option Value) (base:Heap) (n:Nat) (x:Str) (C:Addr) (f:Str) (ok:Int→Prop):Prop where
 ex:∃ g fd ps,mg x=some (.ref C)∧Mk K C g∧Binds K fd ps []∧FnOk P w K mg base CX0 n g fd ps (xl C f ok)
def V3 (C:Addr) (f:Str) (ok:Int→Prop) (t:DTA):DTE:=fun ρ Q=>t ρ fun ds=>∃ i,ds=[.int i]∧ok i∧Q (.way C f i)
theorem w4 {C:Addr} {f:Str} {ok:Int→Prop} (G:KOk X.prog X.w X.K X.mg X.base n x C f ok) (hr:Room (n + 1) X.A) (hg:Gl X x) (ha:DA X (e :: es) t) (hdb:(x == ("__debug__":Str))=false:=by decide)
  (he:starEach (e :: es) X.env=(false,eval e X.env) :: starEach es X.env:=by rfl) (hpl:(backTo pos (starEach es X.env)).any (·.1)=false:=by rfl):DE X (.Call (.Name x p) (e :: es) [] pos) (V3 C f ok t):=by
 obtain ⟨g,fd,ps,hm,M,hb,F⟩:=G.ex
 obtain ⟨te,p1,l1⟩:=ha
 refine ⟨_,bg M F hr hg hm hb .nil ph p1 hdb he hpl,fun ρ σ H Q r h R k=>l1 ρ σ H _ r h _ fun ds vs H1 s1 i1 ⟨i,ed,hok,q1⟩ y dy ny ndy ne=>?_⟩
 subst ed
 obtain ⟨v,rfl,hv⟩:=i1.one
 obtain rfl:=is_int.mp hv
 refine ⟨y,dy,i,rfl,zA,hok,fun H' e1 e2=>⟨rfl,?_⟩⟩
 have keep:Same H1.h H':=fun b o hb=>e2 b o (by rw [zx (zT hb ny),zx (zT hb ndy)]; exact hb) (zT hb ny)
 have gy:H1.g y=none:=H1.sub.free ny
 exact k _ _ ⟨upd H1.g y (.ins C dy [(f,.int i)]),H',fun b u q=>by
   by_cases e:b=y
   ·subst e; rw [zA] at q; rw [e1]; exact q
   ·rw [zx e] at q; exact keep _ _ (H1.sub _ _ q)⟩
  (s1.trans ⟨zK gy _,keep,fun a z1 z2=>by
   have:a ≠ y:=fun e=>z1 (e ▸ ny)
   show upd H1.g y _ a=none
   rw [zx this]; exact z2⟩) (is_way.mpr ⟨y,dy,rfl,zA⟩) q1
structure Zi (K:PySem.W.Frag):Prop where
 ib:PySem.W.kitOne K (.type "int") (.type "bool")=some false
 it:PySem.W.kitOne K (.type "int") (.type "tuple")=some false
 il:PySem.W.kitOne K (.type "int") (.type "list")=some false
 bi:PySem.W.kitOne K (.type "bool") (.type "int")=some true
 bt:PySem.W.kitOne K (.type "bool") (.type "tuple")=some false
 bl:PySem.W.kitOne K (.type "bool") (.type "list")=some false
 ti:PySem.W.kitOne K (.type "tuple") (.type "int")=some false
 tb:PySem.W.kitOne K (.type "tuple") (.type "bool")=some false
 tl:PySem.W.kitOne K (.type "tuple") (.type "list")=some false
 li:PySem.W.kitOne K (.type "list") (.type "int")=some false
 lb:PySem.W.kitOne K (.type "list") (.type "bool")=some false
 lt:PySem.W.kitOne K (.type "list") (.type "tuple")=some false
theorem uf {K:PySem.W.Frag} {t:Value}:PySem.W.kitOne K t t=some true:=by
 unfold PySem.W.kitOne
 rw [if_pos (beq_self_eq_true t)]
theorem XW {K:PySem.W.Frag} {t c:String} {b:Bool} (h1:(Value.type t == Value.type c)=false) (h2:PySem.W.kitMeta c=true) (h3:(fastBuiltinMro t).map (·.contains (Value.type c))=some b):PySem.W.kitOne K (.type t) (.type c)=some b:=by
 unfold PySem.W.kitOne PySem.W.kitCls
 rw [if_neg (by rw [h1]; decide)]
 show (if PySem.W.kitMeta c=true then PySem.W.subIn K (.type t) (.type c) else none)=some b
 rw [if_pos h2]
 exact h3
theorem PM (K:PySem.W.Frag):Zi K:=by
 constructor <;> exact XW (by decide +kernel) (by decide +kernel) (by decide +kernel)
inductive TyN where | int | bool | tuple | list
def TyN.str:TyN→String
 | .int=>"int" | .bool=>"bool" | .tuple=>"tuple" | .list=>"list"
def VE:Dt→TyN→Option Bool
 | .int _,.int=>some true | .int _,.bool=>some false | .int _,.tuple=>some false | .int _,.list=>some false
 | .bl _,.int=>some true | .bl _,.bool=>some true | .bl _,.tuple=>some false | .bl _,.list=>some false
 | .tup _,.int=>some false | .tup _,.bool=>some false | .tup _,.tuple=>some true | .tup _,.list=>some false
 | .lst _,.int=>some false | .lst _,.bool=>some false | .lst _,.tuple=>some false | .lst _,.list=>some true
 | _,_=>none
theorem X3 {H:Vw} {d:Dt} {v:V} {T:TyN} {b:Bool} (kt:Zi K) (h:Is K H.g d v) (e:VE d T=some b):∃ tv,vH K H.h v tv∧PySem.W.kitOne K tv (.type T.str)=some b:=by
 cases d with
 | int i=>
  obtain rfl:=is_int.mp h
  refine ⟨_,.int i,?_⟩
  cases T <;> (obtain rfl:=Option.some.inj e; first | exact uf | exact kt.ib | exact kt.it | exact kt.il)
 | bl i=>
  obtain rfl:=is_bl.mp h
  refine ⟨_,.bl i,?_⟩
  cases T <;> (obtain rfl:=Option.some.inj e; first | exact uf | exact kt.bi | exact kt.bt | exact kt.bl)
 | tup ds=>
  obtain ⟨a,xs,rfl,h1,_⟩:=is_tup.mp h
  refine ⟨_,.tup (H.sub _ _ h1),?_⟩
  cases T <;> (obtain rfl:=Option.some.inj e; first | exact uf | exact kt.ti | exact kt.tb | exact kt.tl)
 | lst ds=>
  obtain ⟨a,xs,rfl,h1,_⟩:=is_lst.mp h
  refine ⟨_,.lst (H.sub _ _ h1),?_⟩
  cases T <;> (obtain rfl:=Option.some.inj e; first | exact uf | exact kt.li | exact kt.lb | exact kt.lt)
 | _=>cases T <;> cases e
theorem cu:CallR X (.builtin "isinstance") (fun xs H Q=>∃ v T tv b,xs=[v,.ty T]∧vH X.K H v tv∧PySem.W.kitOne X.K tv (.type T)=some b∧Q (.bl b) H):=by
 intro pins s σ H xs us Q I r h
 obtain ⟨v,T,tv,b,rfl,hty,hk,q⟩:=h
 cases r with
 | cons r1 r2=>
  cases r2 with
  | cons r3 r4=>
   cases r4
   cases r3
   exact pC I r1 hty hk fun tk=>⟨.bl b,H,I.tok _,rfl,q⟩
def Oa (T:TyN) (ta:DTE):DTE:=fun ρ Q=>ta ρ fun d=>∃ b,VE d T=some b∧Q (.bl b)
theorem tj {T:TyN} {y:Str} {p':Pos} (kt:Zi X.K) (hm:X.mg "isinstance"=none) (hmc:X.mg y=none) (hv:bootBuiltins y=some (.type T.str)) (ha:DE X a ta)
  (hg:Gl X "isinstance":=by rfl) (hgc:Gl X y:=by rfl) (hny:y ≠ "__name__":=by decide) (hdy:(y == ("__debug__":Str))=false:=by decide)
  (hs:starEach [a,.Name y p'] X.env=(false,eval a X.env) :: starEach [.Name y p'] X.env:=by rfl) (hs2:starEach [.Name y p'] X.env=(false,eval (.Name y p') X.env) :: starEach [] X.env:=by rfl)
  (hpl:(backTo pos (starEach [.Name y p'] X.env)).any (·.1)=false:=by rfl):
  DE X (.Call (.Name "isinstance" p) [a,.Name y p'] [] pos) (Oa T ta):=by
 obtain ⟨te,p1,l1⟩:=ha
 have pc:PE X (.Name y p') (tC (.ty T.str)):=bj hgc hmc hv rfl hny hdy
 refine ⟨_,xB cu hg hm boot_isinstance (zQ p1 (zQ pc yM hs2) hs) (by decide) (by decide) hs hpl,fun ρ σ H Q r h R k=>l1 ρ σ H _ r h _ fun d v H1 s1 i1 ⟨b,e,q⟩=>?_⟩
 obtain ⟨tv,h1,h2⟩:=X3 kt i1 e
 exact ⟨v,T.str,tv,b,rfl,h1,h2,k _ _ H1 s1 (is_bl.mpr rfl) q⟩
end
structure DEnds where
 nx:DS→Prop
 rt:Dt→Prop
 bk:DS→Prop:=fun _=>False
 ct:DS→Prop:=fun _=>False
abbrev DTS:=DEnds→DS→Prop
structure At (K:PySem.W.Frag) (Z:Hp) (W0:Vw) (G:Hp) (W:Vw) (ρ:DS) (σ:St):Prop where
 le:Le W0 W
 gs:Same G W.g
 rl:Rl K Z W0.h W ρ σ
inductive Fr where | d | l | t (a b:Bool)
def NewL (K:PySem.W.Frag) (F:Hp) (W:Vw) (d:Dt) (v:V):Prop:=∃ es p xs,d=.lst es∧v=.ref p∧F p=none∧W.h p=some (.lst xs)∧W.g p=none∧AllIs K W.g es xs
def Prt (K:PySem.W.Frag) (F:Hp) (W:Vw) (b:Bool) (d:Dt) (v:V):Prop:=match b with
 | false=>Is K W.g d v
 | true=>NewL K F W d v∨fg d=true∧Is K W.g d v
def Tld (K:PySem.W.Frag) (F:Hp) (W:Vw):Fr→Dt→V→Prop
 | .d,d,v=>Is K W.g d v
 | .l,d,v=>NewL K F W d v
 | .t a b,d,v=>∃ d1 d2 q u1 u2,d=.tup [d1,d2]∧v=.ref q∧W.g q=some (.tup [u1,u2])∧Prt K F W a d1 u1∧Prt K F W b d2 u2∧(∀ es fs,a=true→b=true→d1=.lst es→d2=.lst fs→u1 ≠ u2)
structure Sim (K:PySem.W.Frag) (Z:Hp) (fr:Fr) (W0:Vw) (G:Hp) (D:DEnds) (D':Ends):Prop where
 nx:∀ ρ σ W',At K Z W0 G W' ρ σ→D.nx ρ→D'.nx σ W'.h
 tl:∀ d v W',Le W0 W'→Tld K W0.h W' fr d v→D.rt d→D'.rt v W'.h
 bk:∀ ρ σ W',At K Z W0 G W' ρ σ→D.bk ρ→D'.bk σ W'.h
 ct:∀ ρ σ W',At K Z W0 G W' ρ σ→D.ct ρ→D'.ct σ W'.h
theorem NewL.le {F G:Hp} {W:Vw} {d:Dt} {v:V} (h:NewL K F W d v) (z:∀ p,F p=none→G p=none):NewL K G W d v:=
 let ⟨es,p,xs,h1,h2,h3,h4⟩:=h; ⟨es,p,xs,h1,h2,z p h3,h4⟩
theorem Sim.rf {Z:Hp} {fr:Fr} {W0:Vw} {G:Hp} {D:DEnds} {D':Ends} (s:Sim K Z fr W0 G D D') (hf:fr=.d∨fr=.l) (es:List Dt) (p:Addr) (xs:List V) (W':Vw) (le:Le W0 W') (h0:W0.h p=none) (h1:W'.h p=some (.lst xs)) (h2:W'.g p=none) (h3:AllIs K W'.g es xs) (q:D.rt (.lst es)):D'.rt (.ref p) W'.h:=by
 rcases hf with rfl | rfl
 ·exact s.tl (.lst es) (.ref p) (W'.frz p _ h1) (uZ le h0 h1 h2) (is_lst.mpr ⟨p,xs,rfl,zA,AllIs.mono0 (zK h2 _) h3⟩) q
 ·exact s.tl (.lst es) (.ref p) W' le ⟨es,p,xs,rfl,rfl,h0,h1,h2,h3⟩ q
section
variable {W0:Vw} {G G':Hp} {ρ:DS} {σ:St} {fr:Fr}
theorem At.step (a:At K Z W0 G W ρ σ) (s:Le W W'):At K Z W0 G W' ρ σ:=⟨a.le.trans s,a.gs.trans s.g,a.rl.mono s⟩
theorem At.set (a:At K Z W0 G W ρ σ) {d:Dt} {v:V} (i:Nat) (h:Is K W.g d v):At K Z W0 G W (ρ.set i (.some d)) (σ.set i (some v)):=⟨a.le,a.gs,a.rl.set i h⟩
theorem At.weak (a:At K Z W0 G W ρ σ) (s:Same G' G):At K Z W0 G' W ρ σ:=⟨a.le,s.trans a.gs,a.rl⟩
theorem At.own (a:At K Z W0 G W ρ σ) (s:Le W W') {p:Addr} {xs:List V} {ds:List Dt} (i:Nat) (h0:W.h p=none) (h1:W'.h p=some (.lst xs)) (h2:W'.g p=none) (h3:AllIs K W'.g ds xs):
  At K Z W0 G W' (ρ.set i (.own ds)) (σ.set i (some (.ref p))):=⟨a.le.trans s,a.gs.trans s.g,a.rl.own s i h0 h1 h2 h3⟩
theorem At.put (at_:At K Z W0 G W ρ σ) {i:Nat} {ds es:List Dt} {a:Addr} {ys:List V} (hi:ρ[i]? = some (.own ds)) (ha:σ[i]? = some (some (.ref a))) (hg:W.g a=none) (hF:W0.h a=none) (h3:AllIs K W.g es ys):
  At K Z W0 G (W.mine a (.lst ys) hg) (ρ.set i (.own es)) σ:=
 ⟨⟨at_.le.g,fun b o q=>by
   have:b ≠ a:=fun e=>by rw [e,hF] at q; cases q
   show upd W.h a _ b=some o
   rw [zx this]; exact at_.le.h _ _ q,at_.le.n⟩,at_.gs,at_.rl.put hi ha hg hF h3⟩
theorem At.frz (at_:At K Z W0 G W ρ σ) {i:Nat} {ds:List Dt} {a:Addr} {xs:List V} (hi:ρ[i]? = some (.own ds)) (ha:σ[i]? = some (some (.ref a))) (hh:W.h a=some (.lst xs)) (hg:W.g a=none) (hF:W0.h a=none) (h3:AllIs K W.g ds xs):
  At K Z W0 G (W.frz a _ hh) (ρ.set i (.some (.lst ds))) σ:=
 ⟨uZ at_.le hF hh hg,at_.gs.trans (zK hg _),at_.rl.frz hi ha hh hg h3⟩
theorem Sim.weak {D:DEnds} {D':Ends} (h:Sim K Z fr W0 G' D D') (s:Same G' G):Sim K Z fr W0 G D D':=
 ⟨fun ρ σ W' a=>h.nx ρ σ W' (a.weak s),h.tl,fun ρ σ W' a=>h.bk ρ σ W' (a.weak s),fun ρ σ W' a=>h.ct ρ σ W' (a.weak s)⟩
end
def LiS (K:PySem.W.Frag) (Z:Hp) (fr:Fr) (ts:TS) (t:DTS):Prop:=∀ (W0:Vw) (G:Hp) (ρ:DS) (σ:St) (W:Vw) (D:DEnds) (D':Ends),At K Z W0 G W ρ σ→Sim K Z fr W0 G D D'→t D ρ→ts D' σ W.h
def DSt (X:Cx) (fr:Fr) (st:Stmt) (t:DTS):Prop:=∃ ts,PS X st ts∧LiS X.K (Zx X) fr ts t
def DSs (X:Cx) (fr:Fr) (sts:List Stmt) (t:DTS):Prop:=∃ ts,PSs X sts ts∧LiS X.K (Zx X) fr ts t
def ce:DTS:=fun D ρ=>D.nx ρ
def aR (t u:DTS):DTS:=fun D ρ=>t { D with nx:=u D } ρ
def cc (te:DTE):DTS:=fun D ρ=>te ρ D.rt
def VX (i:Nat):DTS:=fun D ρ=>∃ ds,ρ[i]? = some (.own ds)∧D.rt (.lst ds)
def P4 (i:Nat) (te:DTE):DTS:=fun D ρ=>te ρ fun d=>D.nx (ρ.set i (.some d))
def VU (i:Nat) (te:DTE):DTS:=fun D ρ=>te ρ fun d=>∃ ds,d=.lst ds∧D.nx (ρ.set i (.own ds))
def Wk (c:DTT) (t u:DTS):DTS:=fun D ρ=>c ρ fun b=>if b=true then t D ρ else u D ρ
def Ub (te:DTE):DTS:=fun D ρ=>te ρ fun _=>D.nx ρ
def Wf:DTS:=fun _ _=>False
def PZ (i j:Nat) (te:DTE):DTS:=fun D ρ=>te ρ fun d=>∃ a b,d=.tup [a,b]∧D.nx ((ρ.set i (.some a)).set j (.some b))
def V9 (j:Nat) (te:DTE) (tb:DTS):DTS:=fun D ρ=>te ρ fun d=>∃ (ds:List Dt) (Pv:Nat→DS→Prop),xx d=some ds∧Pv 0 ρ∧
 (∀ i e ρ',ds[i]? = some e→Pv i ρ'→tb { D with nx:=Pv (i + 1),ct:=Pv (i + 1),bk:=D.nx } (ρ'.set j (.some e)))∧∀ ρ',Pv ds.length ρ'→D.nx ρ'
def V8 (j:Nat) (te:DTE) (tb:DTS):DTS:=fun D ρ=>te ρ fun d=>∃ (n:Int) (Pv:Nat→DS→Prop),d=.int n∧-(2 ^ 62) ≤ n∧n < 2 ^ 62∧Pv 0 ρ∧
 (∀ (i:Nat) ρ',i < n.toNat→Pv i ρ'→tb { D with nx:=Pv (i + 1),ct:=Pv (i + 1),bk:=D.nx } (ρ'.set j (.some (.int i))))∧∀ ρ',Pv n.toNat ρ'→D.nx ρ'
def Wl (j:Nat) (ta:DTA) (tb:DTS):DTS:=fun D ρ=>ta ρ fun ds=>∃ (m n:Int) (Pv:Nat→DS→Prop),ds=[.int m,.int n]∧-(2 ^ 62) ≤ m∧m < 2 ^ 62∧-(2 ^ 62) ≤ n∧n < 2 ^ 62∧Pv 0 ρ∧
 (∀ (i:Nat) ρ',i < (n - m).toNat→Pv i ρ'→tb { D with nx:=Pv (i + 1),ct:=Pv (i + 1),bk:=D.nx } (ρ'.set j (.some (.int (m + i)))))∧∀ ρ',Pv (n - m).toNat ρ'→D.nx ρ'
def jk (c:DTT) (tb:DTS):DTS:=fun D ρ=>∃ Pv:Nat→DS→Prop,(∃ m,Pv m ρ)∧∀ m ρ',Pv m ρ'→
 c ρ' fun b=>if b=true then tb { D with nx:=fun ρ2=>∃ m',m' < m∧Pv m' ρ2,ct:=fun ρ2=>∃ m',m' < m∧Pv m' ρ2,bk:=D.nx } ρ' else D.nx ρ'
section
variable {X:Cx} {fr:Fr} {st:Stmt} {yz:List Stmt} {t u:DTS} {e:Expr} {te:DTE} {pos p0 p1 p2:Pos}
theorem zq:DSs X fr [] ce:=⟨_,c9,fun W0 G ρ σ W D D' a s h=>s.nx ρ σ W a h⟩
theorem zd (h1:DSt X fr st t) (h2:DSs X fr yz u):DSs X fr (st :: yz) (aR t u):=by
 obtain ⟨ts,p1,l1⟩:=h1
 obtain ⟨us,p2,l2⟩:=h2
 exact ⟨_,nD p1 p2,fun W0 G ρ σ W D D' a s h=>l1 W0 G ρ σ W { D with nx:=u D } { D' with nx:=us D' } a ⟨fun ρ' σ' W' a' q=>l2 W0 G ρ' σ' W' D D' a' s q,s.tl,s.bk,s.ct⟩ h⟩
theorem zg (h:DSt X fr st t):DSs X fr [st] t:=let ⟨_,p,l⟩:=h; ⟨_,xY p,l⟩
def Ob (i:Nat) (t:DTS):DTS:=fun D ρ=>∃ ds,ρ[i]? = some (.own ds)∧t D (ρ.set i (.some (.lst ds)))
theorem oV (i:Nat) (h:DSs X fr yz t):DSs X fr yz (Ob i t):=by
 obtain ⟨ts,p,l⟩:=h
 refine ⟨ts,p,fun W0 G ρ σ W D D' a s h=>?_⟩
 obtain ⟨ds,e,q⟩:=h
 obtain ⟨b,xs,e1,e2,e3,e4,e5⟩:=a.rl.ow i ds e
 exact l W0 G _ σ (W.frz b _ e2) D D' (a.frz e e1 e2 e3 e4 e5) s q
theorem zk (h:DE X e te):DSt X .d (.Return (some e) pos) (cc te):=by
 obtain ⟨tt,p,l⟩:=h
 exact ⟨_,oh p,fun W0 G ρ σ W D D' a s h=>l ρ σ W _ a.rl h _ fun d v W1 s1 i1 q1=>s.tl d v W1 (a.le.trans s1) i1 q1⟩
theorem uq (h:DF X e te) (hf:fr=.d∨fr=.l:=by first | exact .inl rfl | exact .inr rfl):DSt X fr (.Return (some e) pos) (cc te):=by
 obtain ⟨tt,p,l⟩:=h
 exact ⟨_,oh p,fun W0 G ρ σ W D D' a s h=>l ρ σ W _ a.rl h _ fun es q xs W1 s1 h0 h1 h2 i1 q1=>s.rf hf es q xs W1 (a.le.trans s1) (a.le.h.free h0) h1 h2 i1 q1⟩
theorem su (i:Nat) {x:Str} (hN:X.N[i]? = some x:=by rfl) (hv:Vis X.env.scope x:=by first | exact Or.inl rfl | exact Or.inr (Or.inl rfl) | exact Or.inr (Or.inr rfl)) (hd:(x == ("__debug__":Str))=false:=by decide)
  (hcd:(x == ("__classdict__":Str))=false:=by decide) (hf:fr=.d∨fr=.l:=by first | exact .inl rfl | exact .inr rfl):DSt X fr (.Return (some (.Name x p0)) pos) (VX i):=by
 refine ⟨_,oh (xh hN hv hd hcd),fun W0 G ρ σ W D D' a s h=>?_⟩
 obtain ⟨ds,e,q⟩:=h
 obtain ⟨b,xs,e1,e2,e3,e4,e5⟩:=a.rl.ow i ds e
 exact ⟨.ref b,e1,s.rf hf ds b xs W a.le e4 e2 e3 e5 q⟩
theorem aO (h:DE X e te) (hs:swapsWith e none pos.line X.env=pure false:=by rfl):DSt X fr (.Expr e pos) (Ub te):=by
 obtain ⟨tt,p,l⟩:=h
 exact ⟨_,sj p hs,fun W0 G ρ σ W D D' a s h=>l ρ σ W _ a.rl h _ fun d v W1 s1 i1 q1=>s.nx ρ σ W1 (a.step s1) q1⟩
theorem zr {i:Nat} {x:Str} {pos':Pos} (hN:X.N.Nodup) (hi:X.N[i]? = some x) (hx:Loc X.env.scope x) (h:DE X e te) (hs:swapsWith e (some (.Name x pos')) pos.line X.env=pure false:=by rfl) (hf:X.fn x=true∨X.env.scope.names.lookup x=some .local:=by first | exact .inl rfl | exact .inr rfl | assumption):
  DSt X fr (.Assign [.Name x pos'] e pos) (P4 i te):=by
 obtain ⟨tt,p,l⟩:=h
 exact ⟨_,fB hN hi hx p hs hf,fun W0 G ρ σ W D D' a s h=>l ρ σ W _ a.rl h _ fun d v W1 s1 i1 q1=>s.nx _ _ W1 ((a.step s1).set i i1) q1⟩
theorem x_ {i:Nat} {x:Str} {pos':Pos} (hN:X.N.Nodup) (hi:X.N[i]? = some x) (hx:Loc X.env.scope x) (h:DF X e te) (hs:swapsWith e (some (.Name x pos')) pos.line X.env=pure false:=by rfl) (hf:X.fn x=true∨X.env.scope.names.lookup x=some .local:=by first | exact .inl rfl | exact .inr rfl | assumption):
  DSt X fr (.Assign [.Name x pos'] e pos) (VU i te):=by
 obtain ⟨tt,p,l⟩:=h
 refine ⟨_,fB hN hi hx p hs hf,fun W0 G ρ σ W D D' a s h=>l ρ σ W _ a.rl h _ fun es q xs W1 s1 h0 h1 h2 i1 ⟨ds,ed,q1⟩=>?_⟩
 cases ed
 exact s.nx _ _ W1 (a.own s1 i h0 h1 h2 i1) q1
theorem zD {c:Expr} {a b:List Stmt} {tc:DTT} (hc:DT X c tc) (ha:DSs X fr a t) (hb:DSs X fr b u):DSt X fr (.If c a b pos) (Wk tc t u):=by
 obtain ⟨t0,p0,l0⟩:=hc
 obtain ⟨t1,p1,l1⟩:=ha
 obtain ⟨t2,p2,l2⟩:=hb
 refine ⟨_,WT p0 p1 p2,fun W0 G ρ σ W D D' a s h=>l0 ρ σ W _ a.rl h _ fun k W1 s1 q1=>?_⟩
 cases k with
 | true=>exact l1 W0 G ρ σ W1 D D' (a.step s1) s q1
 | false=>exact l2 W0 G ρ σ W1 D D' (a.step s1) s q1
theorem rL:DSt X fr st Wf:=⟨_,fD,fun _ _ _ _ _ _ _ _ _ h=>h.elim⟩
theorem dU {i j:Nat} {x y:Str} {px py pt:Pos} {kt:Nat} (hc:X.calm=true) (hN:X.N.Nodup) (hi:X.N[i]? = some x) (hj:X.N[j]? = some y) (hx:Loc X.env.scope x) (hy:Loc X.env.scope y) (h:DE X e te)
  (hf:X.fn x=true∨X.env.scope.names.lookup x=some .local:=by first | exact .inl rfl | exact .inr rfl | assumption) (hf2:X.fn y=true∨X.env.scope.names.lookup y=some .local:=by first | exact .inl rfl | exact .inr rfl | assumption)
  (hs:swapsWithSole [.Tuple [.Name x px,.Name y py] kt pt] e pos.line X.env=pure false:=by rfl) (hw:swappedStores [.Tuple [.Name x px,.Name y py] kt pt] e X.env=pure none:=by rfl):
  DSt X fr (.Assign [.Tuple [.Name x px,.Name y py] kt pt] e pos) (PZ i j te):=by
 obtain ⟨tt,p,l⟩:=h
 refine ⟨_,lF p (sS hc (yl (zX hN hi hx hf) (yl (zX hN hj hy hf2) vN))) hs hw,fun W0 G ρ σ W D D' at_ s h=>l ρ σ W _ at_.rl h _ fun d v W1 s1 i1 ⟨a,b,ed,q1⟩=>?_⟩
 subst ed
 obtain ⟨q,xs,rfl,hq,ha⟩:=is_tup.mp i1
 obtain ⟨v1,v2,rfl,h1,h2⟩:=ha.two
 refine ⟨q,_,rfl,.of (W1.sub _ _ hq),rfl,v1,[v2],rfl,v2,[],rfl,rfl,?_⟩
 exact s.nx _ _ W1 (((at_.step s1).set i h1).set j h2) q1
def InL (K:PySem.W.Frag) (Z:Hp) (W0 W1:Vw) (Pv:DS→Prop) (σ:St) (H:Hp):Prop:=∃ (ρ:DS) (W:Vw),W.h=H∧At K Z W0 W1.g W ρ σ∧Pv ρ
theorem yI {K:PySem.W.Frag} {W0 W1:Vw} {G:Hp} {D:DEnds} {D':Ends} {Pv:DS→Prop} (s:Sim K Z fr W0 G D D') (hg:Same G W1.g):
  Sim K Z fr W0 W1.g { D with nx:=Pv,ct:=Pv,bk:=D.nx } { D' with nx:=InL K Z W0 W1 Pv,ct:=InL K Z W0 W1 Pv,bk:=D'.nx }:=
 ⟨fun ρ3 σ3 W3 a3 q3=>⟨ρ3,W3,rfl,a3,q3⟩,s.tl,fun ρ3 σ3 W3 a3 q3=>s.nx ρ3 σ3 W3 (a3.weak hg) q3,fun ρ3 σ3 W3 a3 q3=>⟨ρ3,W3,rfl,a3,q3⟩⟩
theorem At.now {K:PySem.W.Frag} {W0:Vw} {G:Hp} {W:Vw} {ρ:DS} {σ:St} (a:At K Z W0 G W ρ σ):At K Z W0 W.g W ρ σ:=⟨a.le,Same.refl _,a.rl⟩
theorem X_ {j:Nat} {x:Str} {iter:Expr} {body:List Stmt} {tb:DTS} {px:Pos} (hc:X.calm=true) (hN:X.N.Nodup) (hi:X.N[j]? = some x) (hx:Loc X.env.scope x) (hp:PassesOwn (model X.prog X.w) X.A X.env X.xe)
  (h:DE X iter te) (hb:DSs X fr body tb) (hs:∀ x,foldedSetIterable iter X.env x=pure x:=by intro _; rfl)
  (hf:X.fn x=true∨X.env.scope.names.lookup x=some .local:=by first | exact .inl rfl | exact .inr rfl | assumption):DSt X fr (.For (.Name x px) iter body [] pos) (V9 j te tb):=by
 obtain ⟨tt,p,l⟩:=h
 obtain ⟨tbs,p2,l2⟩:=hb
 refine ⟨_,vh hp hc (jz p) (zX hN hi hx hf) p2 hs,fun W0 G ρ σ W D D' at_ s h=>l ρ σ W _ at_.rl h _ fun d v W1 s1 i1 ⟨ds,Pv,el,h0,ht,hd⟩=>?_⟩
 have hg:Same G W1.g:=at_.gs.trans s1.g
 have hq:∃ a xs,v=.ref a∧(∀ W2:Vw,Same W1.g W2.g→SqL X.K W2.h a xs)∧AllIs X.K W1.g ds xs:=by
  cases d with
  | lst es=>
   obtain rfl:es=ds:=Option.some.inj el
   obtain ⟨a,xs,rfl,h1,h2⟩:=is_lst.mp i1
   exact ⟨a,xs,rfl,fun W2 s2=>.of (W2.sub _ _ (s2 _ _ h1)),h2⟩
  | scr ns=>
   obtain rfl:ns.map Dt.int=ds:=Option.some.inj el
   obtain ⟨a,rfl,h1⟩:=is_scr.mp i1
   exact ⟨a,_,rfl,fun W2 s2=>W2.sub.seq (s2.seq h1),AllIs.ints⟩
  | _=>cases el
 obtain ⟨a,xs,rfl,hq,ha⟩:=hq
 refine ⟨a,rfl,⟨xs,hq W1 (Same.refl _)⟩,dH (K:=X.K) (a:=a) (xs:=xs) (fun i=>InL X.K (Zx X) W0 W1 (Pv i)) ⟨ρ,W1,rfl,(at_.step s1).now,h0⟩ (fun i σ' H' _ ⟨_,W2,e2,a2,_⟩=>e2 ▸ hq W2 a2.gs) ?_ ?_⟩
 ·rintro i x σ' _ hi ⟨ρ',W2,rfl,a2,hp2⟩
  obtain ⟨e,he,ie⟩:=ha.get' hi
  exact l2 W0 W1.g _ _ W2 { D with nx:=Pv (i + 1),ct:=Pv (i + 1),bk:=D.nx } _ (a2.set j (Is.mono0 a2.gs ie)) (yI s hg) (ht i e ρ' he hp2)
 ·rintro σ' _ ⟨ρ',W2,rfl,a2,hp2⟩
  exact s.nx ρ' σ' W2 (a2.weak hg) (hd ρ' (by rw [ha.length]; exact hp2))
theorem ur {j:Nat} {x:Str} {a:Expr} {body:List Stmt} {tb:DTS} {px p0 pos1:Pos} (hc:X.calm=true) (hN:X.N.Nodup) (hi:X.N[j]? = some x) (hx:Loc X.env.scope x) (hp:PassesOwn (model X.prog X.w) X.A X.env X.xe)
  (hg:Gl X "range") (hm:X.mg "range"=none) (h:DE X a te) (hb:DSs X fr body tb) (hs:∀ x,foldedSetIterable (.Call (.Name "range" p0) [a] [] pos1) X.env x=pure x:=by intro _; rfl)
  (hst:starEach [a] X.env=[(false,eval a X.env)]:=by rfl) (hst2:starEach [a] X.env=(false,eval a X.env) :: starEach [] X.env:=by rfl)
  (hf:X.fn x=true∨X.env.scope.names.lookup x=some .local:=by first | exact .inl rfl | exact .inr rfl | assumption):DSt X fr (.For (.Name x px) (.Call (.Name "range" p0) [a] [] pos1) body [] pos) (V8 j te tb):=by
 obtain ⟨tt,p,l⟩:=h
 obtain ⟨tbs,p2,l2⟩:=hb
 refine ⟨_,vh hp hc (iC hg hm (zQ p yM hst2) hst) (zX hN hi hx hf) p2 hs,fun W0 G ρ σ W D D' at_ s h=>l ρ σ W _ at_.rl h _ fun d v W1 s1 i1 ⟨n,Pv,ed,n1,n2,h0,ht,hd⟩=>?_⟩
 subst ed
 have hg:Same G W1.g:=at_.gs.trans s1.g
 refine ⟨n,by rw [is_int.mp i1],n1,n2,pD (lo:=0) (n:=n.toNat) (fun i=>InL X.K (Zx X) W0 W1 (Pv i)) ⟨ρ,W1,rfl,(at_.step s1).now,h0⟩ ?_ ?_⟩
 ·rintro i σ' _ hi ⟨ρ',W2,rfl,a2,hp2⟩
  have ez:(0:Int) + (i:Int)=(i:Int):=Int.zero_add _
  rw [ez]
  exact l2 W0 W1.g _ _ W2 { D with nx:=Pv (i + 1),ct:=Pv (i + 1),bk:=D.nx } _ (a2.set j (is_int.mpr rfl)) (yI s hg) (ht i ρ' hi hp2)
 ·rintro σ' _ ⟨ρ',W2,rfl,a2,hp2⟩
  exact s.nx ρ' σ' W2 (a2.weak hg) (hd ρ' hp2)
theorem rK {c:Expr} {body:List Stmt} {tc:DTT} {tb:DTS} (hp:PassesOwn (model X.prog X.w) X.A X.env X.xe) (hc:DT X c tc) (hb:DSs X fr body tb):DSt X fr (.While c body [] pos) (jk tc tb):=by
 obtain ⟨t0,p0,l0⟩:=hc
 obtain ⟨tbs,p2,l2⟩:=hb
 refine ⟨_,fA hp p0 p2,fun W0 G ρ σ W D D' at_ s h=>?_⟩
 obtain ⟨Pv,⟨m0,h0⟩,ht⟩:=h
 refine ⟨fun m=>InL X.K (Zx X) W0 W (Pv m),⟨m0,ρ,W,rfl,at_.now,h0⟩,?_⟩
 rintro m σ' _ ⟨ρ',W2,rfl,a2,hp2⟩
 refine l0 ρ' σ' W2 _ a2.rl (ht m ρ' hp2) _ fun b W3 s3 q3=>?_
 have a3:=a2.step s3
 cases b with
 | true=>
  refine ⟨InL X.K (Zx X) W0 W (fun ρ2=>∃ m',m' < m∧Pv m' ρ2),fun σ4 H4 ⟨ρ4,W4,e4,a4,m',hm,p4⟩=>⟨m',hm,ρ4,W4,e4,a4,p4⟩,?_⟩
  exact l2 W0 W.g _ _ W3 { D with nx:=fun ρ2=>∃ m',m' < m∧Pv m' ρ2,ct:=fun ρ2=>∃ m',m' < m∧Pv m' ρ2,bk:=D.nx } _ a3 (yI s at_.gs) q3
 | false=>exact s.nx ρ' σ' W3 (a3.weak at_.gs) q3
variable {i:Nat} {x:Str}
def Ud (i:Nat) (te:DTE):DTS:=fun D ρ=>∃ ds,ρ[i]? = some (.own ds)∧te ρ fun d=>ds.length ≤ 100000∧D.nx (ρ.set i (.own (ds ++ [d])))
theorem vB (i:Nat) (h:DE X e te) (hN:X.N[i]? = some x:=by rfl) (hv:Vis X.env.scope x:=by first | exact Or.inl rfl | exact Or.inr (Or.inl rfl) | exact Or.inr (Or.inr rfl)) (hd:(x == ("__debug__":Str))=false:=by decide)
  (hcd:(x == ("__classdict__":Str))=false:=by decide) (hst:starEach [e] X.env=(false,eval e X.env) :: starEach [] X.env:=by rfl) (hpl:(backTo p2 (starEach [] X.env)).any (·.1)=false:=by rfl)
  (hfew:((backTo p2 (starEach [e] X.env)).all (fun x=>!x.1) && (backToKw p2 (keywordEach [] X.env)).all (fun x=>x.1.isSome)
   && decide ([e].length + ([]:List Keyword).length + (if ([]:List Keyword).isEmpty then 0 else 1) < 30))=true:=by rfl)
  (hbase:attributeBase (.Name x p0) "append" X.env (eval (.Name x p0) X.env)=eval (.Name x p0) X.env:=by rfl) (hline:(p1.endLine == p2.line)=true:=by rfl)
  (hs:swapsWith (.Call (.Attribute (.Name x p0) "append" p1) [e] [] p2) none pos.line X.env=pure false:=by rfl):
  DSt X fr (.Expr (.Call (.Attribute (.Name x p0) "append" p1) [e] [] p2) pos) (Ud i te):=by
 obtain ⟨tt,p,l⟩:=h
 refine ⟨_,sj (WW PySem.F.plainAttrs_list PySem.F.slot_list_append PySem.F.type_list_append pq (xh hN hv hd hcd) (zQ p yM hst) hbase hfew hline hst hpl) hs,fun W0 G ρ σ W D D' at_ s h=>?_⟩
 obtain ⟨ds,ei,h⟩:=h
 obtain ⟨b,xs,e1,e2,e3,e4,e5⟩:=at_.rl.ow i ds ei
 refine ⟨.ref b,e1,.inl ⟨rfl,xs,.of e2⟩,l ρ σ W _ at_.rl h _ fun d v W1 s1 i1 ⟨hl,q1⟩=>?_⟩
 have a1:=at_.step s1
 have hg1:W1.g b=none:=s1.n b (by rw [e2]; intro z; cases z) e3
 refine ⟨b,xs,v,rfl,rfl,s1.h _ _ e2,by rw [← e5.length]; exact Nat.lt_of_le_of_lt hl (by decide),?_⟩
 exact s.nx _ _ _ (a1.put ei e1 hg1 e4 ((e5.mono s1).append (allIs_cons.mpr ⟨v,[],rfl,i1,allIs_nil.mpr rfl⟩))) q1
theorem AllIs.dropLast {G:Hp} {ds:List Dt} {xs:List V} (h:AllIs K G ds xs):AllIs K G ds.dropLast xs.dropLast:=by
 rw [List.dropLast_eq_take,List.dropLast_eq_take,h.length]
 exact h.take _
theorem AllIs.reverse {G:Hp}:∀ {ds:List Dt} {xs:List V},AllIs K G ds xs→AllIs K G ds.reverse xs.reverse
 | [],_,h=>by rw [allIs_nil.mp h]; exact allIs_nil.mpr rfl
 | d :: ds,_,h=>by
  obtain ⟨x,r,rfl,h1,h2⟩:=allIs_cons.mp h
  rw [List.reverse_cons,List.reverse_cons]
  exact (AllIs.reverse h2).append (allIs_cons.mpr ⟨x,[],rfl,h1,allIs_nil.mpr rfl⟩)
theorem AllIs.set {G:Hp}:∀ {ds:List Dt} {xs:List V} {d:Dt} {v:V} (j:Nat),AllIs K G ds xs→Is K G d v→AllIs K G (ds.set j d) (xs.set j v)
 | [],_,_,_,_,h,_=>by rw [allIs_nil.mp h]; exact allIs_nil.mpr rfl
 | d :: ds,_,_,_,0,h,i=>by
  obtain ⟨x,r,rfl,h1,h2⟩:=allIs_cons.mp h
  exact allIs_cons.mpr ⟨_,_,rfl,i,h2⟩
 | d :: ds,_,_,_,j + 1,h,i=>by
  obtain ⟨x,r,rfl,h1,h2⟩:=allIs_cons.mp h
  exact allIs_cons.mpr ⟨_,_,rfl,h1,AllIs.set j h2 i⟩
def We (i:Nat):DTS:=fun D ρ=>∃ ds,ρ[i]? = some (.own ds)∧ds.isEmpty=false∧D.nx (ρ.set i (.own ds.dropLast))
theorem dW (i:Nat) (hN:X.N[i]? = some x:=by rfl) (hv:Vis X.env.scope x:=by first | exact Or.inl rfl | exact Or.inr (Or.inl rfl) | exact Or.inr (Or.inr rfl)) (hd:(x == ("__debug__":Str))=false:=by decide)
  (hcd:(x == ("__classdict__":Str))=false:=by decide)
  (hbase:attributeBase (.Name x p0) "pop" X.env (eval (.Name x p0) X.env)=eval (.Name x p0) X.env:=by rfl) (hline:(p1.endLine == p2.line)=true:=by rfl)
  (hs:swapsWith (.Call (.Attribute (.Name x p0) "pop" p1) [] [] p2) none pos.line X.env=pure false:=by rfl):
  DSt X fr (.Expr (.Call (.Attribute (.Name x p0) "pop" p1) [] [] p2) pos) (We i):=by
 refine ⟨_,sj (lG PySem.F.plainAttrs_list PySem.F.slot_list_pop PySem.F.type_list_pop XU (xh hN hv hd hcd) hbase hline) hs,fun W0 G ρ σ W D D' at_ s h=>?_⟩
 obtain ⟨ds,ei,hne,q1⟩:=h
 obtain ⟨b,xs,e1,e2,e3,e4,e5⟩:=at_.rl.ow i ds ei
 have hx:xs ≠ []:=fun z=>by
  have:=e5.length
  rw [z] at this
  rw [List.length_eq_zero_iff.mp this] at hne
  cases hne
 have hlt:xs.length - 1 < xs.length:=by
  have:=List.length_pos_iff.mpr hx
  omega
 exact ⟨.ref b,e1,.inl ⟨rfl,xs,.of e2⟩,b,xs,xs[xs.length - 1],rfl,rfl,e2,List.getElem?_eq_getElem hlt,s.nx _ _ _ (at_.put ei e1 e3 e4 e5.dropLast) q1⟩
def P5 (i:Nat):DTS:=fun D ρ=>∃ ds,ρ[i]? = some (.own ds)∧D.nx (ρ.set i (.own ds.reverse))
theorem X8 (i:Nat) (hN:X.N[i]? = some x:=by rfl) (hv:Vis X.env.scope x:=by first | exact Or.inl rfl | exact Or.inr (Or.inl rfl) | exact Or.inr (Or.inr rfl)) (hd:(x == ("__debug__":Str))=false:=by decide)
  (hcd:(x == ("__classdict__":Str))=false:=by decide)
  (hbase:attributeBase (.Name x p0) "reverse" X.env (eval (.Name x p0) X.env)=eval (.Name x p0) X.env:=by rfl) (hline:(p1.endLine == p2.line)=true:=by rfl)
  (hs:swapsWith (.Call (.Attribute (.Name x p0) "reverse" p1) [] [] p2) none pos.line X.env=pure false:=by rfl):
  DSt X fr (.Expr (.Call (.Attribute (.Name x p0) "reverse" p1) [] [] p2) pos) (P5 i):=by
 refine ⟨_,sj (lG PySem.F.plainAttrs_list PySem.F.slot_list_reverse PySem.F.type_list_reverse kz (xh hN hv hd hcd) hbase hline) hs,fun W0 G ρ σ W D D' at_ s h=>?_⟩
 obtain ⟨ds,ei,q1⟩:=h
 obtain ⟨b,xs,e1,e2,e3,e4,e5⟩:=at_.rl.ow i ds ei
 exact ⟨.ref b,e1,.inl ⟨rfl,xs,.of e2⟩,b,xs,rfl,rfl,e2,s.nx _ _ _ (at_.put ei e1 e3 e4 e5.reverse) q1⟩
def P6 (i:Nat) (ti te:DTE):DTS:=fun D ρ=>∃ ds,ρ[i]? = some (.own ds)∧te ρ fun d=>ti ρ fun z=>∃ n j,z=.int n∧ixN ds.length n=some j∧D.nx (ρ.set i (.own (ds.set j d)))
theorem X9 (i:Nat) {k:Expr} {ti:DTE} (hk:DE X k ti) (h:DE X e te) (hN:X.N[i]? = some x:=by rfl) (hv:Vis X.env.scope x:=by first | exact Or.inl rfl | exact Or.inr (Or.inl rfl) | exact Or.inr (Or.inr rfl)) (hd:(x == ("__debug__":Str))=false:=by decide)
  (hcd:(x == ("__classdict__":Str))=false:=by decide)
  (ha:∀ v,assign (.Subscript (.Name x p0) k p1) X.env v=(do
   let ov ← holding [v] (eval (.Name x p0) X.env)
   let iv ← holding [v,ov] (eval k X.env)
   standAt p1
   holding [v,ov,iv] (setItem ov iv v)
   release [v,ov,iv] []):=by intro _; rfl)
  (hs:swapsWithSole [.Subscript (.Name x p0) k p1] e pos.line X.env=pure false:=by rfl) (hw:swappedStores [.Subscript (.Name x p0) k p1] e X.env=pure none:=by rfl)
  (h1:(assignEach [.Subscript (.Name x p0) k p1] X.env).map (·.2)=[assign (.Subscript (.Name x p0) k p1) X.env]:=by rfl):
  DSt X fr (.Assign [.Subscript (.Name x p0) k p1] e pos) (P6 i ti te):=by
 obtain ⟨tt,p,l⟩:=h
 obtain ⟨tk,pk,lk⟩:=hk
 refine ⟨_,lF p (Ye (xh hN hv hd hcd) pk fe ha) hs hw h1,fun W0 G ρ σ W D D' at_ s h=>?_⟩
 obtain ⟨ds,ei,h⟩:=h
 refine l ρ σ W _ at_.rl h _ fun d v W1 s1 i1 q1=>?_
 have a1:=at_.step s1
 obtain ⟨b,xs,e1,e2,e3,e4,e5⟩:=a1.rl.ow i ds ei
 refine ⟨.ref b,e1,lk ρ σ W1 _ a1.rl q1 _ fun z u W2 s2 i2 ⟨n,j,ez,ej,q2⟩=>?_⟩
 subst ez
 have a2:=a1.step s2
 have hg2:W2.g b=none:=s2.n b (by rw [e2]; intro z; cases z) e3
 refine ⟨b,xs,n,j,rfl,is_int.mp i2,s2.h _ _ e2,by rw [← e5.length]; exact ej,?_⟩
 exact s.nx _ _ _ (a2.put ei e1 hg2 e4 ((e5.mono s2).set j (i1.mono s2))) q2
end
section
variable {P:Program} {w:World} {K:PySem.W.Frag} {mg:Str→Option Value} {base:Heap}
theorem wI {W:Vw} {N:List Str} {ds:List Dt} {vs:List V} (ia:AllIs K W.g ds vs) (hz:Z=W.h):At K Z W W.g W (yp N.length ds) (start N vs):=⟨Le.refl W,Same.refl _,Rl.start ia (hz ▸ Same.refl _)⟩
theorem okD {x qual:Str} {st:Stmt} {f:Addr} {fd:FuncData} {N ps:List Str} {k:Nat} {S:DSp} (F:Fun K x qual st f fd) (sc:zi N ps (defScope st)) (len:∀ ds Q,S ds Q→ds.length=ps.length)
  (hbody:∀ (cdv:Value) (A:Around) (outer:List Env) (s:Shared) (H:Hp) (E:XK),Room k (A.deeper (envOfC qual (defScope st) s.heap.objs.size f cdv))→∀ (ds:List Dt) (Q:Dt→Prop),S ds Q→
   ∃ t,DSs (yC CX0 P w K mg base N qual (defScope st) f cdv A outer s H E).nox .d (defBody st) t∧t { nx:=fun _=>Q .non,rt:=Q } (yp N.length ds)):FnOk P w K mg base CX0 (k + 1) f fd ps (zv K S):=by
 refine F.ok sc (fun vs H Q E h=>?_) (fun cdv A outer s H vs Q E hr h=>?_)
 ·obtain ⟨W,ds,Qd,_,ia,hS,_⟩:=h
  rw [← ia.length]
  exact len ds Qd hS
 obtain ⟨W,ds,Qd,rfl,ia,hS,kk⟩:=h
 obtain ⟨t,⟨ts,p,l⟩,ht⟩:=hbody cdv A outer s W.h E hr ds Qd hS
 refine ⟨ts,p,l W W.g (yp N.length ds) (start N vs) W { nx:=fun _=>Qd .non,rt:=Qd } _ (wI ia (sI (Nat.succ_ne_self _))) ⟨fun ρ σ W' a q=>kk .non .non W' a.le (is_non.mpr rfl) q,fun d v W' s' i' q=>kk d v W' s' i' q,fun _ _ _ _ q=>q.elim,fun _ _ _ _ q=>q.elim⟩ ht⟩
theorem okF {x qual:Str} {st:Stmt} {f:Addr} {fd:FuncData} {N ps:List Str} {k:Nat} {S:DSp} (F:Fun K x qual st f fd) (sc:zi N ps (defScope st)) (len:∀ ds Q,S ds Q→ds.length=ps.length)
  (hbody:∀ (cdv:Value) (A:Around) (outer:List Env) (s:Shared) (H:Hp) (E:XK),Room k (A.deeper (envOfC qual (defScope st) s.heap.objs.size f cdv))→∀ (ds:List Dt) (Q:Dt→Prop),S ds Q→
   ∃ t,DSs (yC CX0 P w K mg base N qual (defScope st) f cdv A outer s H E).nox .l (defBody st) t∧t { nx:=fun _=>False,rt:=Q } (yp N.length ds)):FnOk P w K mg base CX0 (k + 1) f fd ps (y0 K S):=by
 refine F.ok sc (fun vs H Q E h=>?_) (fun cdv A outer s H vs Q E hr h=>?_)
 ·obtain ⟨W,ds,Qd,_,ia,hS,_⟩:=h
  rw [← ia.length]
  exact len ds Qd hS
 obtain ⟨W,ds,Qd,rfl,ia,hS,kk⟩:=h
 obtain ⟨t,⟨ts,p,l⟩,ht⟩:=hbody cdv A outer s W.h E hr ds Qd hS
 exact ⟨ts,p,l W W.g (yp N.length ds) (start N vs) W { nx:=fun _=>False,rt:=Qd } _ (wI ia (sI (Nat.succ_ne_self _))) ⟨fun ρ σ W' a q=>q.elim,fun d v W' s' ⟨es,p,xs,e1,e2,e3,e4,e5,e6⟩ q=>by subst e1; subst e2; exact kk es p xs W' s' e3 e4 e5 e6 q,fun _ _ _ _ q=>q.elim,fun _ _ _ _ q=>q.elim⟩ ht⟩
theorem DOk.mk' {x qual:Str} {st:Stmt} {f:Addr} {fd:FuncData} {ps:List Str} {n:Nat} {S:DSp} (F:Fun K x qual st f fd) (hm:mg x=some (.ref f)) (hb:Binds K fd ps []) (h:FnOk P w K mg base CX0 n f fd ps (zv K S)):DOk P w K mg base n x S:=
 ⟨f,fd,ps,hm,F.kp,hb,h⟩
theorem FOk.mk' {x qual:Str} {st:Stmt} {f:Addr} {fd:FuncData} {ps:List Str} {n:Nat} {S:DSp} (F:Fun K x qual st f fd) (hm:mg x=some (.ref f)) (hb:Binds K fd ps []) (h:FnOk P w K mg base CX0 n f fd ps (y0 K S)):FOk P w K mg base n x S:=
 ⟨f,fd,ps,hm,F.kp,hb,h⟩
theorem DOk.mono {x:Str} {m n:Nat} {S:DSp} (h:DOk P w K mg base m x S) (hl:m ≤ n):DOk P w K mg base n x S:=
 let ⟨f,fd,ps,h1,h2,h3,h4⟩:=h.ex; ⟨f,fd,ps,h1,h2,h3,h4.mono hl⟩
theorem FOk.mono {x:Str} {m n:Nat} {S:DSp} (h:FOk P w K mg base m x S) (hl:m ≤ n):FOk P w K mg base n x S:=
 let ⟨f,fd,ps,h1,h2,h3,h4⟩:=h.ex; ⟨f,fd,ps,h1,h2,h3,h4.mono hl⟩
theorem MOk.mono {C:Addr} {x:Str} {m n:Nat} {S:DSp} (h:MOk P w K mg base m C x S) (hl:m ≤ n):MOk P w K mg base n C x S:=
 ⟨h.cl,let ⟨f,fd,ps,h1,h3,h4⟩:=h.ex; ⟨f,fd,ps,h1,h3,h4.mono hl⟩⟩
theorem FMOk.mono {C:Addr} {x:Str} {m n:Nat} {S:DSp} (h:FMOk P w K mg base m C x S) (hl:m ≤ n):FMOk P w K mg base n C x S:=
 ⟨h.cl,let ⟨f,fd,ps,h1,h3,h4⟩:=h.ex; ⟨f,fd,ps,h1,h3,h4.mono hl⟩⟩
theorem MOk.imp {C:Addr} {x:Str} {n:Nat} {S S':DSp} (h:MOk P w K mg base n C x S) (hi:∀ ds Q,S' ds Q→S ds Q):MOk P w K mg base n C x S':=
 ⟨h.cl,let ⟨f,fd,ps,h1,h3,h4⟩:=h.ex; ⟨f,fd,ps,h1,h3,h4.imp fun vs H Q E ⟨W,ds,Qd,a,b,c,d⟩=>⟨W,ds,Qd,a,b,hi _ _ c,d⟩⟩⟩
theorem FMOk.imp {C:Addr} {x:Str} {n:Nat} {S S':DSp} (h:FMOk P w K mg base n C x S) (hi:∀ ds Q,S' ds Q→S ds Q):FMOk P w K mg base n C x S':=
 ⟨h.cl,let ⟨f,fd,ps,h1,h3,h4⟩:=h.ex; ⟨f,fd,ps,h1,h3,h4.imp fun vs H Q E ⟨W,ds,Qd,a,b,c,d⟩=>⟨W,ds,Qd,a,b,hi _ _ c,d⟩⟩⟩
theorem DOk.imp {x:Str} {n:Nat} {S S':DSp} (h:DOk P w K mg base n x S) (hi:∀ ds Q,S' ds Q→S ds Q):DOk P w K mg base n x S':=
 let ⟨f,fd,ps,h1,h2,h3,h4⟩:=h.ex; ⟨f,fd,ps,h1,h2,h3,h4.imp fun vs H Q E ⟨W,ds,Qd,a,b,c,d⟩=>⟨W,ds,Qd,a,b,hi _ _ c,d⟩⟩
theorem wP {qual:Str} {st:Stmt} {g C:Addr} {fd:FuncData} {y f:Str} {k:Nat} {ok:Int→Prop} (F:Fun K "__init__" qual st g fd) (sc:zi ["self",y] ["self",y] (defScope st)) (cl:Cls K C) (na:NoAttr K C f)
  (hbody:∀ (cdv:Value) (A:Around) (outer:List Env) (s:Shared) (H:Hp) (E:XK),Room k (A.deeper (envOfC qual (defScope st) s.heap.objs.size g cdv))→
   ∃ te t,PSs (yC CX0 P w K mg base ["self",y] qual (defScope st) g cdv A outer s H E).nox (defBody st) (WN K (cR 0) te f)∧LiE K (Zx (yC CX0 P w K mg base ["self",y] qual (defScope st) g cdv A outer s H E)) te t∧∀ i,ok i→t [.none,.some (.int i)] fun d=>d=.int i):
  FnOk P w K mg base CX0 (k + 1) g fd ["self",y] (xl C f ok):=by
 refine F.ok sc (fun vs H Q E h=>?_) (fun cdv A outer s H vs Q E hr h=>?_)
 ·obtain ⟨p,dx,i,rfl,_⟩:=h
  rfl
 obtain ⟨p,dx,i,rfl,hp,hok,q⟩:=h
 obtain ⟨te,t,ps,l,ht⟩:=hbody cdv A outer s H E hr
 rw [gL] at l
 refine ⟨_,ps,l (F:=H) [.none,.some (.int i)] _ ⟨H,H,Same.refl H⟩ _ ⟨rfl,fun j d e=>?_,fun j ds e=>?_,fun j j' ds es _ e _=>?_,Same.refl H,Same.refl H,fun j a ds e=>?_⟩ (ht i hok) _ fun d v W1 s1 i1 ed=>?_⟩
 ·match j,e with
  | 0,e=>cases e
  | 1,e=>
   have e':Dt.int i=d:=by cases e; rfl
   subst e'
   exact ⟨.int i,rfl,is_int.mpr rfl⟩
  | j + 2,e=>cases e
 ·match j,e with
  | 0,e=>cases e
  | 1,e=>cases e
  | j + 2,e=>cases e
 ·match j,e with
  | 0,e=>cases e
  | 1,e=>cases e
  | j + 2,e=>cases e
 ·match j,e with
  | 0,e=>cases e
  | 1,e=>cases e
  | j + 2,e=>cases e
 ·subst ed
  obtain rfl:=is_int.mp i1
  refine ⟨.ref p,rfl,p,C,dx,[],rfl,s1.h _ _ hp,cl,na,(by show 0 < 1000; decide),?_⟩
  refine q _ zA fun b o hb hbp=>?_
  rw [zx hbp]
  exact s1.h _ _ hb
end
end OD
namespace OD
open PySem PySem.Spec PyProof.Rows L2
mutual
def eqD:Dt→Dt→Bool
 | .non,.non=>true
 | .bl a,.bl b=>a == b
 | .bl a,.int b=>(if a then (1:Int) else 0) == b
 | .int a,.bl b=>a == (if b then (1:Int) else 0)
 | .int a,.int b=>a == b
 | .str a,.str b=>a == b
 | .tup ds,.tup es=>x8 ds es
 | .lst ds,.lst es=>x8 ds es
 | _,_=>false
def x8:List Dt→List Dt→Bool
 | [],[]=>true
 | d :: ds,e :: es=>eqD d e && x8 ds es
 | _,_=>false
end
def okE:Nat→Dt→Bool
 | _,.non=>true
 | _,.bl _=>true
 | _,.int _=>true
 | _,.str _=>true
 | n + 1,.tup ds=>ds.all (okE n)
 | n + 1,.lst ds=>ds.all (okE n)
 | _,_=>false
theorem yX (a b:Int):eqD (.int a) (.int b)=(a == b):=by unfold eqD; rfl
theorem dP (a b:Bool):eqD (.bl a) (.bl b)=(a == b):=by unfold eqD; rfl
theorem jL (a b:Str):eqD (.str a) (.str b)=(a == b):=by unfold eqD; rfl
theorem uk (ds es:List Dt):eqD (.tup ds) (.tup es)=x8 ds es:=by rw [eqD]
theorem wZ (ds es:List Dt):eqD (.lst ds) (.lst es)=x8 ds es:=by rw [eqD]
theorem uj:x8 [] []=true:=by unfold x8; rfl
theorem xJ (d e:Dt) (ds es:List Dt):x8 (d :: ds) (e :: es)=(eqD d e && x8 ds es):=by rw [x8]
theorem qZ (e:Dt) (es:List Dt):x8 [] (e :: es)=false:=by unfold x8; rfl
theorem xz (e:Dt) (es:List Dt):x8 (e :: es) []=false:=by unfold x8; rfl
theorem xk:∀ ds es:List Dt,(((List.range (min ds.length es.length)).all fun j=>eqD (ds.getD j .non) (es.getD j .non)) && (ds.length == es.length))=x8 ds es
 | [],[]=>by rw [uj]; rfl
 | [],e :: es=>by
  rw [qZ]
  have h:((([]:List Dt).length == (e :: es).length))=false:=by simp
  rw [h,Bool.and_false]
 | d :: ds,[]=>by
  rw [xz]
  have h:(((d :: ds).length == ([]:List Dt).length))=false:=by simp
  rw [h,Bool.and_false]
 | d :: ds,e :: es=>by
  have ih:=xk ds es
  rw [xJ,← ih]
  have hm:min (d :: ds).length (e :: es).length=min ds.length es.length + 1:=by
   rw [List.length_cons,List.length_cons]; omega
  rw [hm,List.range_succ_eq_map,List.all_cons,List.all_map,Bool.and_assoc]
  have hl:((d :: ds).length == (e :: es).length)=(ds.length == es.length):=by
   rw [List.length_cons,List.length_cons]
   rw [Bool.eq_iff_iff,beq_iff_eq,beq_iff_eq]
   omega
  rw [hl]
  rfl
theorem pI {ds es:List Dt} (h:ds.length ≠ es.length):x8 ds es=false:=by
 rw [← xk ds es]
 have h:(ds.length == es.length)=false:=beq_eq_false_iff_ne.mpr h
 rw [h,Bool.and_false]
theorem mO {ds es:List Dt} (h:ds.length=es.length):((List.range ds.length).all fun j=>eqD (ds.getD j .non) (es.getD j .non))=x8 ds es:=by
 rw [← xk ds es]
 have h':(ds.length == es.length)=true:=beq_iff_eq.mpr h
 rw [h',Bool.and_true,← h,Nat.min_self]
theorem u7:∀ {ds:List Dt},(∀ d ∈ ds,eqD d d=true)→x8 ds ds=true
 | [],_=>uj
 | d :: ds,h=>by
  rw [xJ,h d List.mem_cons_self,u7 fun e he=>h e (List.mem_cons_of_mem _ he)]
  rfl
theorem ul:∀ (n:Nat) {d:Dt},okE n d=true→eqD d d=true:=by
 intro n
 induction n with
 | zero=>
  intro d h
  cases d with
  | non=>unfold eqD; rfl
  | bl b=>rw [dP]; exact beq_self_eq_true _
  | int b=>rw [yX]; exact beq_self_eq_true _
  | str b=>rw [jL]; exact beq_self_eq_true _
  | _=>simp [okE] at h
 | succ n ih=>
  intro d h
  cases d with
  | non=>unfold eqD; rfl
  | bl b=>rw [dP]; exact beq_self_eq_true _
  | int b=>rw [yX]; exact beq_self_eq_true _
  | str b=>rw [jL]; exact beq_self_eq_true _
  | tup ds=>
   rw [uk]
   have h':∀ d ∈ ds,okE n d=true:=by simpa [okE] using h
   exact u7 fun d hd=>ih (h' d hd)
  | lst ds=>
   rw [wZ]
   have h':∀ d ∈ ds,okE n d=true:=by simpa [okE] using h
   exact u7 fun d hd=>ih (h' d hd)
  | _=>simp [okE] at h
example:eqD (.int ((2:Nat):Int)) (.int 2)=true:=by rfl
section
variable {X:Cx} {pins:List (Addr × Obj)} {σ:St} {K:PySem.W.Frag} {H:Hp} {s:Shared}
theorem jf:∀ {ds es:List Dt} {xs:List V},(∀ d e v,d ∈ ds→e ∈ es→Is K H d v→Is K H e v→eqD d e=true)→AllIs K H ds xs→AllIs K H es xs→x8 ds es=true
 | [],es,xs,ih,i1,i2=>by
  obtain rfl:=allIs_nil.mp i1
  cases es with
  | nil=>exact uj
  | cons e es=>obtain ⟨_,_,z,_⟩:=allIs_cons.mp i2; cases z
 | d :: ds,es,xs,ih,i1,i2=>by
  obtain ⟨x,r,rfl,j1,j2⟩:=allIs_cons.mp i1
  cases es with
  | nil=>cases allIs_nil.mp i2
  | cons e es=>
   obtain ⟨y,r',z,k1,k2⟩:=allIs_cons.mp i2
   cases z
   rw [xJ,ih d e x List.mem_cons_self List.mem_cons_self j1 k1,jf (fun d' e' v' hd he=>ih d' e' v' (List.mem_cons_of_mem _ hd) (List.mem_cons_of_mem _ he)) j2 k2]
   rfl
def wC:Dt→Bool
 | .non=>true
 | .bl _=>true
 | .int _=>true
 | .str _=>true
 | _=>false
def vD:Dt→V
 | .bl b=>.bl b
 | .int i=>.int i
 | .str x=>.str x
 | _=>.non
theorem zO {d:Dt} {v:V} (h:wC d=true) (i:Is K H d v):v=vD d:=by
 cases d <;> first | exact is_non.mp i | exact is_bl.mp i | exact is_int.mp i | exact is_str.mp i | cases h
theorem u6 {d:Dt} (h:wC d=true):wB (vD d)=true:=by cases d <;> first | rfl | cases h
theorem uh {d:Dt} {a:Addr} (h:wC d=true) (e:vD d=.ref a):False:=by cases d <;> first | cases e | cases h
theorem mM {v:V} (h:wB v=true):eqV v v=true:=by cases v <;> first | rfl | exact beq_self_eq_true _ | cases h
theorem um {d e:Dt} (h1:wC d=true) (h2:wC e=true):eqD d e=eqV (vD d) (vD e):=by cases d <;> first | exact absurd h1 Bool.false_ne_true | (cases e <;> first | exact absurd h2 Bool.false_ne_true | rfl)
theorem wE {d:Dt} {es:List Dt} (h:wC d=true):eqD d (.tup es)=false∧eqD (.tup es) d=false∧eqD d (.lst es)=false∧eqD (.lst es) d=false:=by
 cases d <;> first | exact ⟨rfl,rfl,rfl,rfl⟩ | cases h
theorem y_ {n:Nat} {d:Dt} (h:okE n d=true):wC d=true∨∃ m ds,n=m + 1∧(d=.tup ds∨d=.lst ds)∧∀ d ∈ ds,okE m d=true:=by
 cases d with
 | non=>exact .inl rfl
 | bl b=>exact .inl rfl
 | int b=>exact .inl rfl
 | str b=>exact .inl rfl
 | tup ds=>
  cases n with
  | zero=>simp [okE] at h
  | succ m=>exact .inr ⟨m,ds,rfl,.inl rfl,by simpa [okE] using h⟩
 | lst ds=>
  cases n with
  | zero=>simp [okE] at h
  | succ m=>exact .inr ⟨m,ds,rfl,.inr rfl,by simpa [okE] using h⟩
 | _=>cases n <;> simp [okE] at h
theorem jK:∀ (n:Nat) {d e:Dt} {v:V},okE n d=true→okE n e=true→Is K H d v→Is K H e v→eqD d e=true:=by
 intro n
 induction n with
 | zero=>
  intro d e v h1 h2 i1 i2
  rcases y_ h1 with f1 | ⟨m,ds,z,_⟩
  ·rcases y_ h2 with f2 | ⟨m,ds,z,_⟩
   ·rw [um f1 f2,← zO f1 i1,← zO f2 i2]
    exact mM (by rw [zO f1 i1]; exact u6 f1)
   ·cases z
  ·cases z
 | succ n ih=>
  intro d e v h1 h2 i1 i2
  rcases y_ h1 with f1 | ⟨m,ds,z,hk,hd⟩
  ·rcases y_ h2 with f2 | ⟨m,es,z,hk,he⟩
   ·rw [um f1 f2,← zO f1 i1,← zO f2 i2]
    exact mM (by rw [zO f1 i1]; exact u6 f1)
   ·obtain rfl:=zO f1 i1
    rcases hk with rfl | rfl
    ·obtain ⟨_,_,e,_⟩:=is_tup.mp i2; exact (uh f1 e).elim
    ·obtain ⟨_,_,e,_⟩:=is_lst.mp i2; exact (uh f1 e).elim
  ·cases z
   rcases y_ h2 with f2 | ⟨m,es,z,hk2,he⟩
   ·obtain rfl:=zO f2 i2
    rcases hk with rfl | rfl
    ·obtain ⟨_,_,e,_⟩:=is_tup.mp i1; exact (uh f2 e).elim
    ·obtain ⟨_,_,e,_⟩:=is_lst.mp i1; exact (uh f2 e).elim
   ·cases z
    rcases hk with rfl | rfl
    ·obtain ⟨a,xs,rfl,hx,ha⟩:=is_tup.mp i1
     rcases hk2 with rfl | rfl
     ·obtain ⟨b,ys,eb,hy,hb⟩:=is_tup.mp i2
      cases eb
      rw [hx] at hy
      cases hy
      rw [uk]
      exact jf (fun d e v q1 q2=>ih (hd d q1) (he e q2)) ha hb
     ·obtain ⟨b,ys,eb,hy,hb⟩:=is_lst.mp i2
      cases eb
      rw [hx] at hy
      cases hy
    ·obtain ⟨a,xs,rfl,hx,ha⟩:=is_lst.mp i1
     rcases hk2 with rfl | rfl
     ·obtain ⟨b,ys,eb,hy,hb⟩:=is_tup.mp i2
      cases eb
      rw [hx] at hy
      cases hy
     ·obtain ⟨b,ys,eb,hy,hb⟩:=is_lst.mp i2
      cases eb
      rw [hx] at hy
      cases hy
      rw [wZ]
      exact jf (fun d e v q1 q2=>ih (hd d q1) (he e q2)) ha hb
section
variable {A:Around}
open SeqAt
theorem wX {d:Dt} {v:Value} {b:Addr} {its:Array Value} (f:wC d=true) (q:RelV (vD d) v) (t:s.heap.IsTuple b its) (hA:A.units < cLine):
  (EqAt A s v (.ref b) false∧EqAt A s (.ref b) v false)∧(RcAt A s v (.ref b) false∧RcNeAt A s v (.ref b) true)∧RcAt A s (.ref b) v false∧RcNeAt A s (.ref b) v true:=by
 cases d with
 | non=>cases q; exact ⟨⟨.none_tuple t hA,.tuple_none t hA⟩,⟨.none_tuple t hA,.none_tuple t hA⟩,.tuple_none t hA,.tuple_none t hA⟩
 | bl a=>cases q; exact ⟨⟨.bool_tuple a t hA,.tuple_bool a t hA⟩,⟨.bool_tuple a t hA,.bool_tuple a t hA⟩,.tuple_bool a t hA,.tuple_bool a t hA⟩
 | int a=>obtain ⟨u,rfl⟩:=q; exact ⟨⟨.int_tuple a u t hA,.tuple_int a u t hA⟩,⟨.int_tuple a u t hA,.int_tuple a u t hA⟩,.tuple_int a u t hA,.tuple_int a u t hA⟩
 | str a=>obtain ⟨u,rfl⟩:=q; exact ⟨⟨.str_tuple a u t hA,.tuple_str a u t hA⟩,⟨.str_tuple a u t hA,.str_tuple a u t hA⟩,.tuple_str a u t hA,.tuple_str a u t hA⟩
 | _=>cases f
theorem wY {d:Dt} {v:Value} {b:Addr} {its:Array Value} (f:wC d=true) (q:RelV (vD d) v) (t:s.heap.IsList b its) (hA:A.units < cLine):
  (EqAt A s v (.ref b) false∧EqAt A s (.ref b) v false)∧(RcAt A s v (.ref b) false∧RcNeAt A s v (.ref b) true)∧RcAt A s (.ref b) v false∧RcNeAt A s (.ref b) v true:=by
 cases d with
 | non=>cases q; exact ⟨⟨.none_list t hA,.list_none t hA⟩,⟨.none_list t hA,.none_list t hA⟩,.list_none t hA,.list_none t hA⟩
 | bl a=>cases q; exact ⟨⟨.bool_list a t hA,.list_bool a t hA⟩,⟨.bool_list a t hA,.bool_list a t hA⟩,.list_bool a t hA,.list_bool a t hA⟩
 | int a=>obtain ⟨u,rfl⟩:=q; exact ⟨⟨.int_list a u t hA,.list_int a u t hA⟩,⟨.int_list a u t hA,.int_list a u t hA⟩,.list_int a u t hA,.list_int a u t hA⟩
 | str a=>obtain ⟨u,rfl⟩:=q; exact ⟨⟨.str_list a u t hA,.list_str a u t hA⟩,⟨.str_list a u t hA,.str_list a u t hA⟩,.list_str a u t hA,.list_str a u t hA⟩
 | _=>cases f
theorem aG {d e:Dt} {v u:Value} (f1:wC d=true) (f2:wC e=true) (q1:RelV (vD d) v) (q2:RelV (vD e) u):RcAt A s v u (eqD d e)∧RcNeAt A s v u (!eqD d e):=by
 cases d with
 | non=>
  cases q1
  cases e with
  | non=>cases q2; exact ⟨.none_none,.none_none⟩
  | bl b=>cases q2; exact ⟨.none_bool b,.none_bool b⟩
  | int b=>obtain ⟨t,rfl⟩:=q2; exact ⟨.none_int b t,.none_int b t⟩
  | str b=>obtain ⟨t,rfl⟩:=q2; exact ⟨.none_str b t,.none_str b t⟩
  | _=>cases f2
 | bl a=>
  cases q1
  cases e with
  | non=>cases q2; exact ⟨.bool_none a,.bool_none a⟩
  | bl b=>cases q2; exact ⟨.bool_bool a b,.bool_bool a b⟩
  | int b=>obtain ⟨t,rfl⟩:=q2; exact ⟨.bool_int a b t,.bool_int a b t⟩
  | str b=>obtain ⟨t,rfl⟩:=q2; exact ⟨.bool_str a b t,.bool_str a b t⟩
  | _=>cases f2
 | int a=>
  obtain ⟨ta,rfl⟩:=q1
  cases e with
  | non=>cases q2; exact ⟨.int_none a ta,.int_none a ta⟩
  | bl b=>cases q2; exact ⟨.int_bool a ta b,.int_bool a ta b⟩
  | int b=>obtain ⟨t,rfl⟩:=q2; exact ⟨.int_int a ta b t,.int_int a ta b t⟩
  | str b=>obtain ⟨t,rfl⟩:=q2; exact ⟨.int_str a ta b t,.int_str a ta b t⟩
  | _=>cases f2
 | str a=>
  obtain ⟨ta,rfl⟩:=q1
  cases e with
  | non=>cases q2; exact ⟨.str_none a ta,.str_none a ta⟩
  | bl b=>cases q2; exact ⟨.str_bool a ta b,.str_bool a ta b⟩
  | int b=>obtain ⟨t,rfl⟩:=q2; exact ⟨.str_int a ta b t,.str_int a ta b t⟩
  | str b=>obtain ⟨t,rfl⟩:=q2; exact ⟨.str_str a ta b t,.str_str a ta b t⟩
  | _=>cases f2
 | _=>cases f1
end
theorem ug {n:Nat} {A:Around} {ds es:List Dt} {xs ys:List V} {its its2:List Value}
  (ih:∀ {d e:Dt} {x y:V} {v u:Value},okE n d=true→okE n e=true→Is K H d x→Is K H e y→RelV x v→RelV y u→SeqAt.EqAt A s v u (eqD d e))
  (hd:∀ d ∈ ds,okE n d=true) (he:∀ d ∈ es,okE n d=true) (a1:AllIs K H ds xs) (a2:AllIs K H es ys) (r1:Vals xs its) (r2:Vals ys its2):
  ∀ j (h1:j < its.toArray.size) (h2:j < its2.toArray.size),SeqAt.EqAt A s its.toArray[j] its2.toArray[j] (eqD (ds.getD j .non) (es.getD j .non)):=by
 intro j h1 h2
 have l1:=a1.length.trans r1.length
 have l2:=a2.length.trans r2.length
 rw [List.size_toArray] at h1 h2
 have g1:ds[j]? = some ds[j]:=List.getElem?_eq_getElem (by omega)
 have g2:es[j]? = some es[j]:=List.getElem?_eq_getElem (by omega)
 obtain ⟨x,e1,i1⟩:=a1.get g1
 obtain ⟨y,e2,i2⟩:=a2.get g2
 obtain ⟨v,e3,q1⟩:=r1.get e1
 obtain ⟨u,e4,q2⟩:=r2.get e2
 have f1:ds.getD j .non=ds[j]:=by rw [List.getD_eq_getElem?_getD,g1]; rfl
 have f2:es.getD j .non=es[j]:=by rw [List.getD_eq_getElem?_getD,g2]; rfl
 have f3:its.toArray[j]=v:=by
  have z:its[j]? = some its[j]:=List.getElem?_eq_getElem h1
  rw [z] at e3
  simpa using Option.some.inj e3
 have f4:its2.toArray[j]=u:=by
  have z:its2[j]? = some its2[j]:=List.getElem?_eq_getElem h2
  rw [z] at e4
  simpa using Option.some.inj e4
 rw [f1,f2,f3,f4]
 exact ih (hd _ (List.mem_of_getElem? g1)) (he _ (List.mem_of_getElem? g2)) i1 i2 q1 q2
theorem VN (I:Inv X pins σ H s):∀ (n:Nat) {A:Around} {d e:Dt} {x y:V} {v u:Value},A.units + n < cLine→okE n d=true→okE n e=true→Is X.K H d x→Is X.K H e y→RelV x v→RelV y u→SeqAt.EqAt A s v u (eqD d e):=by
 intro n
 induction n with
 | zero=>
  intro A d e x y v u hu h1 h2 i1 i2 q1 q2
  rcases y_ h1 with f1 | ⟨m,ds,z,_⟩
  ·rcases y_ h2 with f2 | ⟨m,ds,z,_⟩
   ·rw [um f1 f2]
    rw [zO f1 i1] at q1
    rw [zO f2 i2] at q2
    exact jg q1 q2 (u6 f1) (u6 f2)
   ·cases z
  ·cases z
 | succ n ih=>
  intro A d e x y v u hu h1 h2 i1 i2 q1 q2
  have hA:A.units < cLine:=by omega
  have hu':A.in1.units + n < cLine:=by show A.units + 1 + n < cLine; omega
  rcases y_ h1 with f1 | ⟨m,ds,z,hk,hd⟩
  ·rw [zO f1 i1] at q1
   rcases y_ h2 with f2 | ⟨m,es,z,rfl | rfl,he⟩
   ·rw [um f1 f2]
    rw [zO f2 i2] at q2
    exact jg q1 q2 (u6 f1) (u6 f2)
   ·obtain ⟨b,ys,rfl,hy,hb⟩:=is_tup.mp i2
    obtain ⟨its2,r2,t2,_⟩:=I.tuple (.of hy)
    cases q2
    rw [(wE f1).1]
    exact (wX f1 q1 t2 hA).1.1
   ·obtain ⟨b,ys,rfl,hy,hb⟩:=is_lst.mp i2
    obtain ⟨its2,r2,t2,_⟩:=I.list (.of hy)
    cases q2
    rw [(wE f1).2.2.1]
    exact (wY f1 q1 t2.isList hA).1.1
  ·cases z
   rcases hk with rfl | rfl
   ·obtain ⟨a,xs,rfl,hx,ha⟩:=is_tup.mp i1
    obtain ⟨its,r1,t1,_⟩:=I.tuple (.of hx)
    cases q1
    rcases y_ h2 with f2 | ⟨m,es,z,rfl | rfl,he⟩
    ·rw [zO f2 i2] at q2
     rw [(wE f2).2.1]
     exact (wX f2 q2 t1 hA).1.2
    ·cases z
     have i2':=i2
     obtain ⟨b,ys,rfl,hy,hb⟩:=is_tup.mp i2
     obtain ⟨its2,r2,t2,_⟩:=I.tuple (.of hy)
     cases q2
     by_cases hab:a=b
     ·subst hab
      rw [jK _ h1 h2 i1 i2']
      exact SeqAt.EqAt.same _
     ·have q:=SeqAt.RcAt.tuples t1 t2 hA (ug (fun {d e x y v u}=>ih (A:=A.in1) hu') hd he ha hb r1 r2)
      rw [List.size_toArray,List.size_toArray,← r1.length,← r2.length,← ha.length,← hb.length,xk] at q
      rw [uk]
      exact .of_refs hab q
    ·obtain ⟨b,ys,rfl,hy,hb⟩:=is_lst.mp i2
     obtain ⟨its2,r2,t2,_⟩:=I.list (.of hy)
     cases q2
     exact SeqAt.EqAt.tuple_list t1 t2.isList hA
   ·obtain ⟨a,xs,rfl,hx,ha⟩:=is_lst.mp i1
    obtain ⟨its,r1,t1,_⟩:=I.list (.of hx)
    cases q1
    rcases y_ h2 with f2 | ⟨m,es,z,rfl | rfl,he⟩
    ·rw [zO f2 i2] at q2
     rw [(wE f2).2.2.2]
     exact (wY f2 q2 t1.isList hA).1.2
    ·obtain ⟨b,ys,rfl,hy,hb⟩:=is_tup.mp i2
     obtain ⟨its2,r2,t2,_⟩:=I.tuple (.of hy)
     cases q2
     exact SeqAt.EqAt.list_tuple t1.isList t2 hA
    ·cases z
     have i2':=i2
     obtain ⟨b,ys,rfl,hy,hb⟩:=is_lst.mp i2
     obtain ⟨its2,r2,t2,_⟩:=I.list (.of hy)
     cases q2
     by_cases hab:a=b
     ·subst hab
      rw [jK _ h1 h2 i1 i2']
      exact SeqAt.EqAt.same _
     ·rw [wZ]
      have l1:=ha.length.trans r1.length
      have l2:=hb.length.trans r2.length
      by_cases hl:ds.length=es.length
      ·have q:=SeqAt.RcAt.lists t1.isList t2.isList (by rw [List.size_toArray,List.size_toArray]; omega) hA (ug (fun {d e x y v u}=>ih (A:=A.in1) hu') hd he ha hb r1 r2)
       rw [List.size_toArray,← l1,mO hl] at q
       exact .of_refs hab q
      ·have q:=SeqAt.RcAt.lists_lengths t1.isList t2.isList (by rw [List.size_toArray,List.size_toArray,bne_iff_ne]; omega) hA
       rw [pI hl]
       exact .of_refs hab q
theorem Zr (I:Inv X pins σ H s) {n:Nat} {A:Around} {d e:Dt} {x y:V} {v u:Value} (hu:A.units + (n + 1) < cLine) (h1:okE (n + 1) d=true) (h2:okE (n + 1) e=true) (i1:Is X.K H d x) (i2:Is X.K H e y) (q1:RelV x v) (q2:RelV y u):
  SeqAt.RcAt A s v u (eqD d e)∧SeqAt.RcNeAt A s v u (!eqD d e):=by
 have hA:A.units < cLine:=by omega
 have hu':A.in1.units + n < cLine:=by show A.units + 1 + n < cLine; omega
 have ih:=fun {d e:Dt} {x y:V} {v u:Value}=>VN I n (A:=A.in1) (d:=d) (e:=e) (x:=x) (y:=y) (v:=v) (u:=u) hu'
 rcases y_ h1 with f1 | ⟨m,ds,z,hk,hd⟩
 ·rw [zO f1 i1] at q1
  rcases y_ h2 with f2 | ⟨m,es,z,rfl | rfl,he⟩
  ·rw [zO f2 i2] at q2
   exact aG f1 f2 q1 q2
  ·obtain ⟨b,ys,rfl,hy,hb⟩:=is_tup.mp i2
   obtain ⟨its2,r2,t2,_⟩:=I.tuple (.of hy)
   cases q2
   rw [(wE f1).1]
   exact (wX f1 q1 t2 hA).2.1
  ·obtain ⟨b,ys,rfl,hy,hb⟩:=is_lst.mp i2
   obtain ⟨its2,r2,t2,_⟩:=I.list (.of hy)
   cases q2
   rw [(wE f1).2.2.1]
   exact (wY f1 q1 t2.isList hA).2.1
 ·cases z
  rcases hk with rfl | rfl
  ·obtain ⟨a,xs,rfl,hx,ha⟩:=is_tup.mp i1
   obtain ⟨its,r1,t1,_⟩:=I.tuple (.of hx)
   cases q1
   rcases y_ h2 with f2 | ⟨m,es,z,rfl | rfl,he⟩
   ·rw [zO f2 i2] at q2
    rw [(wE f2).2.1]
    exact (wX f2 q2 t1 hA).2.2
   ·cases z
    obtain ⟨b,ys,rfl,hy,hb⟩:=is_tup.mp i2
    obtain ⟨its2,r2,t2,_⟩:=I.tuple (.of hy)
    cases q2
    have it:=ug (A:=A.in1) ih hd he ha hb r1 r2
    have q:=SeqAt.RcAt.tuples t1 t2 hA it
    have q':=SeqAt.RcNeAt.tuples t1 t2 hA it
    rw [List.size_toArray,List.size_toArray,← r1.length,← r2.length,← ha.length,← hb.length,xk] at q q'
    rw [uk]
    exact ⟨q,q'⟩
   ·obtain ⟨b,ys,rfl,hy,hb⟩:=is_lst.mp i2
    obtain ⟨its2,r2,t2,_⟩:=I.list (.of hy)
    cases q2
    exact ⟨SeqAt.RcAt.tuple_list t1 t2.isList hA,SeqAt.RcNeAt.tuple_list t1 t2.isList hA⟩
  ·obtain ⟨a,xs,rfl,hx,ha⟩:=is_lst.mp i1
   obtain ⟨its,r1,t1,_⟩:=I.list (.of hx)
   cases q1
   rcases y_ h2 with f2 | ⟨m,es,z,rfl | rfl,he⟩
   ·rw [zO f2 i2] at q2
    rw [(wE f2).2.2.2]
    exact (wY f2 q2 t1.isList hA).2.2
   ·obtain ⟨b,ys,rfl,hy,hb⟩:=is_tup.mp i2
    obtain ⟨its2,r2,t2,_⟩:=I.tuple (.of hy)
    cases q2
    exact ⟨SeqAt.RcAt.list_tuple t1.isList t2 hA,SeqAt.RcNeAt.list_tuple t1.isList t2 hA⟩
   ·cases z
    obtain ⟨b,ys,rfl,hy,hb⟩:=is_lst.mp i2
    obtain ⟨its2,r2,t2,_⟩:=I.list (.of hy)
    cases q2
    rw [wZ]
    have l1:=ha.length.trans r1.length
    have l2:=hb.length.trans r2.length
    by_cases hl:ds.length=es.length
    ·have it:=ug (A:=A.in1) ih hd he ha hb r1 r2
     have q:=SeqAt.RcAt.lists t1.isList t2.isList (by rw [List.size_toArray,List.size_toArray]; omega) hA it
     have q':=SeqAt.RcNeAt.lists t1.isList t2.isList (by rw [List.size_toArray,List.size_toArray]; omega) hA it
     rw [List.size_toArray,← l1,mO hl] at q q'
     exact ⟨q,q'⟩
    ·have q:=SeqAt.RcAt.lists_lengths t1.isList t2.isList (by rw [List.size_toArray,List.size_toArray,bne_iff_ne]; omega) hA
     have q':=SeqAt.RcNeAt.lists_lengths t1.isList t2.isList (by rw [List.size_toArray,List.size_toArray,bne_iff_ne]; omega) hA
     rw [pI hl]
     exact ⟨q,q'⟩
def gEq:Dt→Dt→(Dt→Prop)→Prop:=fun d e Q=>okE 40 d=true∧okE 40 e=true∧Q (.bl (eqD d e))
def gNe:Dt→Dt→(Dt→Prop)→Prop:=fun d e Q=>okE 40 d=true∧okE 40 e=true∧Q (.bl (!eqD d e))
theorem wx {k:Nat} (hr:Room k X.A):DOp X (compareOp .Eq) gEq:=by
 refine ⟨fun x y H Q=>∃ d e,Is X.K H d x∧Is X.K H e y∧okE 40 d=true∧okE 40 e=true∧Q (.bl (eqD d e)) H,fun pins s σ H x y v u Q I rx ry h=>?_,fun H x y d e Q i1 i2 q R k=>⟨d,e,Is.mono0 H.sub i1,Is.mono0 H.sub i2,q.1,q.2.1,k _ _ H (Le.refl H) (is_bl.mpr rfl) q.2.2⟩⟩
 obtain ⟨d,e,i1,i2,h1,h2,q⟩:=h
 have hu:=hr.units
 exact (Zr (n:=39) I (A:=X.A) (by omega) h1 h2 i1 i2 rx ry).1 _ _ _ _ ⟨.bl _,H,I,rfl,q⟩
theorem ox {k:Nat} (hr:Room k X.A):DOp X (compareOp .NotEq) gNe:=by
 refine ⟨fun x y H Q=>∃ d e,Is X.K H d x∧Is X.K H e y∧okE 40 d=true∧okE 40 e=true∧Q (.bl (!eqD d e)) H,fun pins s σ H x y v u Q I rx ry h=>?_,fun H x y d e Q i1 i2 q R k=>⟨d,e,Is.mono0 H.sub i1,Is.mono0 H.sub i2,q.1,q.2.1,k _ _ H (Le.refl H) (is_bl.mpr rfl) q.2.2⟩⟩
 obtain ⟨d,e,i1,i2,h1,h2,q⟩:=h
 have hu:=hr.units
 exact (Zr (n:=39) I (A:=X.A) (by omega) h1 h2 i1 i2 rx ry).2 _ _ _ _ ⟨.bl _,H,I,rfl,q⟩
end
end OD
namespace OD
open PySem PySem.Spec PyProof.Rows L2
section
variable {X:Cx} {pins:List (Addr × Obj)} {σ:St} {H:Hp} {s:Shared} {scope:Scope} {x:Str} {fp:List Addr}
end
end OD
namespace OD
variable {Z:Hp}
open PySem PySem.Spec PyProof.Rows L2
section
variable {X:Cx} {pins:List (Addr × Obj)} {σ:St} {H:Hp} {s:Shared} {h':Heap}
theorem ZB {ch:List Addr} (hn:∀ b ∈ ch,vJ X pins H b):∀ b ∈ ch,(b ∈ X.ex∨X.s₀.heap.objs.size ≤ b)∧b ≠ X.env.locals∧(∀ x c,X.env.cells.lookup x=some c→c ≠ b)∧∀ p ∈ X.pn ++ pins,p.1 ≠ b:=fun b hb=>by
 obtain ⟨_,h2,_,h4,h5,h6⟩:=hn b hb
 exact ⟨h4,h2,h5,h6⟩
theorem rD {ch:List Addr} {t':Nat} (I:Inv X pins σ H s) (hn:∀ b ∈ ch,vJ X pins H b) (k:∀ b o,b ∉ ch→s.heap.get? b=some o→h'.get? b=some o):Inv X pins σ H { s with heap:=h',toks:=t' }:=by
 have nit:∀ b u,H b=some u→b ∉ ch:=fun b u e z=>by rw [(hn b z).1] at e; cases e
 refine I.step (g':=s.gens) (d':=s.drawn) (ch:=ch) (ZB hn) (fun b o _ _ hc e _=>k b o hc e) (fun b o _ _ hc e _=>⟨o.slots,k b o hc e⟩) (fun _ _ _ _ n=>n)
  (fun b o hc e=>⟨o,k b o hc e⟩) (fun _ _ e=>e) (fun _ _ _ e=>e) (fun b ps e=>⟨#[],by rw [e]; simp⟩) (fun m hm=>?_) (fun b u e=>?_) I.bare
 ·obtain ⟨o,es,ep,ho,r⟩:=hm
  exact ⟨o,es,ep,k _ o (fun z=>(hn _ z).2.1 rfl) ho,r⟩
 ·refine (I.hok b u e).stay (fun c v hc q=>k c v ?_ q) (fun _ q=>q) fun _ _ q=>q
  rcases hc with z | z
  ·rw [z]; exact nit b u e
  ·exact nit c _ z
theorem tD {ch:List Addr} {t':Nat} {T:Addr} {xs:List V} (I:Inv X pins σ H s) (hn:∀ b ∈ ch,vJ X pins H b) (k:∀ b o,b ∉ ch→s.heap.get? b=some o→h'.get? b=some o) (hT:s.heap.objs.size ≤ T)
  (new:ObjOk X.prog X.w (upd H T (.tup xs)) h' T (.tup xs)):Inv X pins σ (upd H T (.tup xs)) { s with heap:=h',toks:=t' }:=by
 have nit:∀ b u,H b=some u→b ∉ ch:=fun b u e z=>by rw [(hn b z).1] at e; cases e
 have fT:H T=none:=I.hok.fresh hT
 have old:∀ b o,s.heap.get? b=some o→b ≠ T:=fun b o e=>Nat.ne_of_lt (Nat.lt_of_lt_of_le (Heap.lt_size e) hT)
 have up:∀ b u,H b=some u→upd H T (.tup xs) b=some u:=fun b u e=>(zx (zT e fT)).trans e
 refine I.step (g':=s.gens) (d':=s.drawn) (ch:=ch) (ZB hn) (fun b o _ _ hc e _=>k b o hc e) (fun b o _ _ hc e _=>⟨o.slots,k b o hc e⟩) (fun b o _ e n=>(zx (old b o e)).trans n)
  (fun b o hc e=>⟨o,k b o hc e⟩) (fun b xs e=>up b _ e) (fun b o u e=>up b _ e) (fun b ps e=>⟨#[],by rw [up b _ e]; simp⟩) (fun m hm=>?_) (fun b u e=>?_) I.bare
 ·obtain ⟨o,es,ep,ho,r⟩:=hm
  exact ⟨o,es,ep,k _ o (fun z=>(hn _ z).2.1 rfl) ho,r⟩
 ·by_cases hb:b=T
  ·subst hb
   rw [zA] at e
   cases e
   exact new
  ·rw [zx hb] at e
   refine (I.hok b u e).stay (fun c v hc q=>k c v ?_ q) (fun c q=>up c _ q) fun c ys q=>up c _ q
   rcases hc with z | z
   ·rw [z]; exact nit b u e
   ·exact nit c _ z
end
def Itz (K:PySem.W.Frag) (l1 l2:Addr):It:=
 ⟨fun i H=>∃ xs ys x y,SqL K H l1 xs∧SqL K H l2 ys∧xs[i]? = some x∧ys[i]? = some y,
  fun i H v H'=>∃ T x y,v=.ref T∧H T=none∧H'=upd H T (.tup [x,y])∧(∀ xs,SqL K H l1 xs→xs[i]? = some x)∧∀ ys,SqL K H l2 ys→ys[i]? = some y,
  fun i H=>∃ xs ys,SqL K H l1 xs∧SqL K H l2 ys∧(xs.length ≤ i∨ys.length ≤ i)⟩
def Wy (l1 l2 z TI TO i1 i2:Addr) (i:Nat) (h:Heap):Prop:=IsZip h z TI TO .none∧IsPair h TI (.ref i1) (.ref i2)∧(∃ a b,IsPair h TO a b)∧h.IsListIter i1 l1 i∧h.IsListIter i2 l2 i
theorem gZ {P:Program} {w:World} {K:PySem.W.Frag} {elts:List Expr} {x1} {tpos:Pos} (l1 l2 z TI TO i1 i2:Addr) (D:ZipApart z TI TO i1 i2 l1 l2):
  o3 P w K (.Tuple elts x1 tpos) (Itz K l1 l2) [z,TI,TO,i1,i2] z (Wy l1 l2 z TI TO i1 i2) where
 mem:=by simp
 obj:=fun i h ⟨h1,h2,⟨a,b,h3⟩,⟨o4,e4,c4,d4⟩,⟨o5,e5,c5,d5⟩⟩ b hb=>by
  simp only [List.mem_cons,List.not_mem_nil,or_false] at hb
  rcases hb with rfl | rfl | rfl | rfl | rfl
  ·exact ⟨_,h1,fun v z=>by cases z⟩
  ·exact ⟨_,h2,fun v z=>by cases z⟩
  ·exact ⟨_,h3,fun v z=>by cases z⟩
  ·exact ⟨_,e4,fun v z=>by rw [d4] at z; cases z⟩
  ·exact ⟨_,e5,fun v z=>by rw [d5] at z; cases z⟩
 keep:=fun i h h' ⟨h1,h2,⟨a,b,h3⟩,⟨o4,e4,c4⟩,⟨o5,e5,c5⟩⟩ k=>
  ⟨k z (by simp) _ h1,k TI (by simp) _ h2,⟨a,b,k TO (by simp) _ h3⟩,⟨o4,k i1 (by simp) _ e4,c4⟩,⟨o5,k i2 (by simp) _ e5,c5⟩⟩
 item:=fun X hP hw hK hc i pins s σ H E I hfp ⟨h1,h2,⟨a,b,h3⟩,h4,h5⟩ ⟨xs,ys,x,y,q1,q2,e1,e2⟩=>by
  subst hP hw hK
  obtain ⟨its1,r1,p1,z1⟩:=I.list q1
  obtain ⟨its2,r2,p2,z2⟩:=I.list q2
  obtain ⟨u,eu,ru⟩:=r1.get e1
  obtain ⟨v,ev,rv⟩:=r2.get e2
  refine wpAny_pyNext_zip_item D h1 h2 h3 h4 h5 p1.isList p2.isList (x:=u) (y:=v) (by simpa using eu) (by simpa using ev) fun h' a1 a2 a3 a4 a5 a6 a7=>?_
  refine ⟨_,rfl,wpAny_letOwnedTupleGo_zip a1 fun h'' b1 b2=>?_⟩
  have ne:∀ b ∈ [z,TI,TO,i1,i2],b ≠ s.heap.objs.size:=fun b hb=>by
   simp only [List.mem_cons,List.not_mem_nil,or_false] at hb
   obtain ⟨o4,e4,_⟩:=id h4
   obtain ⟨o5,e5,_⟩:=id h5
   rcases hb with rfl | rfl | rfl | rfl | rfl
   ·exact Nat.ne_of_lt (Heap.lt_size h1)
   ·exact Nat.ne_of_lt (Heap.lt_size h2)
   ·exact Nat.ne_of_lt (Heap.lt_size h3)
   ·exact Nat.ne_of_lt (Heap.lt_size e4)
   ·exact Nat.ne_of_lt (Heap.lt_size e5)
  have zn:z ≠ s.heap.objs.size:=ne z (by simp)
  have aT:IsPair h'' s.heap.objs.size u v:=b2.extBut _ _ (Ne.symm zn) a5
  have I':Inv X pins σ (upd H s.heap.objs.size (.tup [x,y])) { s with heap:=h'' }:=tD (ch:=[z,TI,TO,i1,i2]) (t':=s.toks) I hfp (fun b o hb e=>by
    simp only [List.mem_cons,List.not_mem_nil,or_false,not_or] at hb
    exact b2.extBut b o hb.1 (a7 b o hb.1 hb.2.2.1 hb.2.2.2.1 hb.2.2.2.2 e)) (Nat.le_refl _) ⟨by show 2 ≤ sizeLine; rw [sizeLine_eq]; decide,[u,v],.cons ru (.cons rv .nil),_,aT,rfl,_,rfl⟩
  refine ⟨.ref s.heap.objs.size,_,I',rfl,⟨_,x,y,rfl,I.fresh,rfl,fun xs' q=>?_,fun ys' q=>?_⟩,⟨b1,b2.extBut _ _ D.TIz (a7 TI _ D.TIz D.TITO D.TIi1 D.TIi2 h2),⟨u,v,b2.extBut _ _ D.TOz a2⟩,a3.extBut b2.extBut D.i1z,a4.extBut b2.extBut D.i2z⟩,fun b hb=>?_⟩
  ·rw [I.list_inj q q1]; exact e1
  ·rw [I.list_inj q q2]; exact e2
  ·exact (zx (ne b hb)).trans (hfp b hb).1
 done:=fun X hP hw hK hc i pins s σ H E I hfp ⟨h1,h2,⟨a,b,h3⟩,h4,h5⟩ ⟨xs,ys,q1,q2,e⟩=>by
  subst hP hw hK
  obtain ⟨its1,r1,p1,z1⟩:=I.list q1
  obtain ⟨its2,r2,p2,z2⟩:=I.list q2
  refine wpAny_pyNext_zip_end (I.ok.hd hc) D h1 h2 h3 h4 h5 p1.isList p2.isList (e.imp (fun e=>?_) fun e=>?_) fun h' hk=>⟨rfl,?_⟩
  ·have:=r1.length
   simp; omega
  ·have:=r2.length
   simp; omega
  ·exact rD (ch:=[z,TI,TO,i1,i2]) (t':=s.toks) I hfp fun b o hb e=>by
    simp only [List.mem_cons,List.not_mem_nil,or_false,not_or] at hb
    exact hk b o hb.1 hb.2.2.1 hb.2.2.2.1 hb.2.2.2.2 e
 self:=fun A i s Q E ⟨h1,_⟩ q=>wpAny_pyIter_zip h1 q
def PR (K:PySem.W.Frag) (ta:TA):TI:=fun σ H R=>ta σ H fun vs H1=>∃ l1 l2 xs ys,vs=[.ref l1,.ref l2]∧SqL K H1 l1 xs∧SqL K H1 l2 ys∧R (Itz K l1 l2) H1
theorem ig {n l1 l2:Nat} (h1:l1 < n) (h2:l2 < n):ZipApart (n + 4) (n + 2) (n + 3) n (n + 1) l1 l2:=by
 constructor <;> (show (_:Nat) ≠ _; omega)
theorem cw:bootBuiltins "zip"=some (.type "zip"):=by decide +kernel
section
variable {X:Cx}
theorem Yc {a b:Expr} {ta:TA} {p pos:Pos} {elts:List Expr} {x1} {tpos:Pos} (hg:Gl X "zip") (hm:X.mg "zip"=none) (ha:PA X [a,b] ta) (hs:starEach [a,b] X.env=(false,eval a X.env) :: starEach [b] X.env:=by rfl)
  (hpl:(backTo pos (starEach [b] X.env)).any (·.1)=false:=by rfl):PI X (.Tuple elts x1 tpos) (.Call (.Name "zip" p) [a,b] [] pos) (PR X.K ta):=by
 intro pins s σ H R I h
 refine Call_ (xy I hg hm cw (PyProof.Rows.callWith_type1 (thn (ha pos pins s σ H _ I h) fun us s1 ⟨vs,H1,I1,r1,q1⟩=>?_) hs hpl))
 obtain ⟨l1,l2,xs,ys,e,q1,q2,q⟩:=q1
 subst e
 obtain ⟨u,v,rfl,ru,rv⟩:=r1.two
 cases ru
 cases rv
 obtain ⟨its1,r1,p1,z1⟩:=I1.list q1
 obtain ⟨its2,r2,p2,z2⟩:=I1.list q2
 have lt1:l1 < s1.heap.objs.size:=by obtain ⟨o,e,_⟩:=id p1.isList; exact Heap.lt_size e
 have lt2:l2 < s1.heap.objs.size:=by obtain ⟨o,e,_⟩:=id p2.isList; exact Heap.lt_size e
 refine call_zip_2 p1.isList p2.isList fun h' b1 b2 b3 b4 b5 b6 b7=>?_
 have I2:Inv X pins σ H1 { s1 with heap:=h' }:=I1.kept (t':=s1.toks) b7
 refine wpAny_pyIter_zip b1 ⟨s1.heap.objs.size + 4,[s1.heap.objs.size + 4,s1.heap.objs.size + 2,s1.heap.objs.size + 3,s1.heap.objs.size,s1.heap.objs.size + 1],_,_,H1,rfl,I2,
  gZ l1 l2 (s1.heap.objs.size + 4) (s1.heap.objs.size + 2) (s1.heap.objs.size + 3) s1.heap.objs.size (s1.heap.objs.size + 1) (ig lt1 lt2),
  ⟨b1,b2,⟨_,_,b3⟩,b4,b5⟩,fun b hb=>?_,q⟩
 have hb':s1.heap.objs.size ≤ b:=by
  simp only [List.mem_cons,List.not_mem_nil,or_false] at hb
  rcases hb with rfl | rfl | rfl | rfl | rfl
  ·exact Nat.le_add_right _ _
  ·exact Nat.le_add_right _ _
  ·exact Nat.le_add_right _ _
  ·exact Nat.le_refl _
  ·exact Nat.le_add_right _ _
 have f:=I1.fpOk hb' (I1.hok.fresh hb')
 exact f
theorem aF {K:PySem.W.Frag} {l1 l2:Addr} {xs ys:List V} {g:TG} {tb:TS} {D:Ends} {σ:St} {H:Hp} (Pv:Nat→St→Hp→Prop) (h0:Pv 0 σ H) (hl:∀ i σ H,Pv i σ H→SqL K H l1 xs∧SqL K H l2 ys)
  (hs:∀ i x y T σ H,xs[i]? = some x→ys[i]? = some y→H T=none→Pv i σ H→g (.ref T) σ (upd H T (.tup [x,y])) fun σ2 H2=>tb { D with nx:=Pv (i + 1),ct:=Pv (i + 1),bk:=D.nx } σ2 H2) (hd:∀ σ H,Pv (min xs.length ys.length) σ H→D.nx σ H):
  ∃ W:Nat→Nat→St→Hp→Prop,(∃ m,W 0 m σ H)∧∀ i m σ H,W i m σ H→
   ((Itz K l1 l2).stop i H∧D.nx σ H)∨((Itz K l1 l2).go i H∧∃ N:St→Hp→Prop,(∀ σ' H',N σ' H'→∃ m',m' < m∧W (i + 1) m' σ' H')∧∀ x H',(Itz K l1 l2).yld i H x H'→g x σ H' fun σ2 H2=>tb { D with nx:=N,ct:=N,bk:=D.nx } σ2 H2):=by
 refine ⟨fun i m σ H=>m=min xs.length ys.length - i∧i ≤ min xs.length ys.length∧Pv i σ H,⟨_,rfl,Nat.zero_le _,h0⟩,?_⟩
 rintro i m σ H ⟨rfl,hi,p⟩
 obtain ⟨q1,q2⟩:=hl i σ H p
 by_cases hlt:i < min xs.length ys.length
 ·have g1:xs[i]? = some xs[i]:=List.getElem?_eq_getElem (by omega)
  have g2:ys[i]? = some ys[i]:=List.getElem?_eq_getElem (by omega)
  refine .inr ⟨⟨xs,ys,xs[i],ys[i],q1,q2,g1,g2⟩,Pv (i + 1),fun σ' H' p'=>⟨min xs.length ys.length - (i + 1),by omega,rfl,hlt,p'⟩,fun v H' y=>?_⟩
  obtain ⟨T,x,y,rfl,hT,rfl,e1,e2⟩:=y
  exact hs i x y T σ H (e1 xs q1) (e2 ys q2) hT p
 ·have e:i=min xs.length ys.length:=by omega
  subst e
  exact .inl ⟨⟨xs,ys,q1,q2,by omega⟩,hd σ H p⟩
end
section
variable {X:Cx} {fr:Fr} {ta:DTA} {tb:DTS} {pos:Pos}
theorem rB {K:PySem.W.Frag} {W1:Vw} {d:Dt} {v:V} {ds:List Dt} (i1:Is K W1.g d v) (el:xx d=some ds):∃ a xs,v=.ref a∧(∀ W2:Vw,Same W1.g W2.g→SqL K W2.h a xs)∧AllIs K W1.g ds xs:=by
 cases d with
 | lst es=>
  obtain rfl:es=ds:=Option.some.inj el
  obtain ⟨a,xs,rfl,h1,h2⟩:=is_lst.mp i1
  exact ⟨a,xs,rfl,fun W2 s2=>.of (W2.sub _ _ (s2 _ _ h1)),h2⟩
 | scr ns=>
  obtain rfl:ns.map Dt.int=ds:=Option.some.inj el
  obtain ⟨a,rfl,h1⟩:=is_scr.mp i1
  exact ⟨a,_,rfl,fun W2 s2=>W2.sub.seq (s2.seq h1),AllIs.ints⟩
 | _=>cases el
def V6 (i j:Nat) (ta:DTA) (tb:DTS):DTS:=fun D ρ=>ta ρ fun ds=>∃ (d e:Dt) (xs ys:List Dt) (Pv:Nat→DS→Prop),ds=[d,e]∧xx d=some xs∧xx e=some ys∧Pv 0 ρ∧
 (∀ n x y ρ',xs[n]? = some x→ys[n]? = some y→Pv n ρ'→tb { D with nx:=Pv (n + 1),ct:=Pv (n + 1),bk:=D.nx } ((ρ'.set i (.some x)).set j (.some y)))∧∀ ρ',Pv (min xs.length ys.length) ρ'→D.nx ρ'
theorem jh {i j:Nat} {x y:Str} {a b:Expr} {body:List Stmt} {px py pt p0 pos1:Pos} {kt:Nat} (hc:X.calm=true) (hN:X.N.Nodup) (hi:X.N[i]? = some x) (hj:X.N[j]? = some y) (hx:Loc X.env.scope x) (hy:Loc X.env.scope y) (hp:PassesOwn (model X.prog X.w) X.A X.env X.xe)
  (hg:Gl X "zip") (hm:X.mg "zip"=none) (ha:DA X [a,b] ta) (hb:DSs X fr body tb) (hs:∀ z,foldedSetIterable (.Call (.Name "zip" p0) [a,b] [] pos1) X.env z=pure z:=by intro _; rfl)
  (hst:starEach [a,b] X.env=(false,eval a X.env) :: starEach [b] X.env:=by rfl) (hpl:(backTo pos1 (starEach [b] X.env)).any (·.1)=false:=by rfl)
  (hf:X.fn x=true∨X.env.scope.names.lookup x=some .local:=by first | exact .inl rfl | exact .inr rfl | assumption) (hf2:X.fn y=true∨X.env.scope.names.lookup y=some .local:=by first | exact .inl rfl | exact .inr rfl | assumption):
  DSt X fr (.For (.Tuple [.Name x px,.Name y py] kt pt) (.Call (.Name "zip" p0) [a,b] [] pos1) body [] pos) (V6 i j ta tb):=by
 obtain ⟨tt,p,l⟩:=ha
 obtain ⟨tbs,p2,l2⟩:=hb
 refine ⟨_,vh hp hc (Yc hg hm p hst hpl) (sS hc (yl (zX hN hi hx hf) (yl (zX hN hj hy hf2) vN))) p2 hs,fun W0 G ρ σ W D D' at_ s h=>l ρ σ W _ at_.rl h _ fun ds vs W1 s1 i1 ⟨d,e,xs,ys,Pv,ed,el1,el2,h0,ht,hd⟩=>?_⟩
 subst ed
 obtain ⟨v1,v2,rfl,j1,j2⟩:=i1.two
 have hg1:Same G W1.g:=at_.gs.trans s1.g
 obtain ⟨l1,us,rfl,hq1,ha1⟩:=rB j1 el1
 obtain ⟨l2',ws,rfl,hq2,ha2⟩:=rB j2 el2
 refine ⟨l1,l2',us,ws,rfl,hq1 W1 (Same.refl _),hq2 W1 (Same.refl _),aF (K:=X.K) (xs:=us) (ys:=ws) (fun n=>InL X.K (Zx X) W0 W1 (Pv n)) ⟨ρ,W1,rfl,(at_.step s1).now,h0⟩ (fun n σ' H' ⟨_,W2,e2,a2,_⟩=>e2 ▸ ⟨hq1 W2 a2.gs,hq2 W2 a2.gs⟩) ?_ ?_⟩
 ·rintro n u w T σ' _ hu hw hT ⟨ρ',W2,rfl,a2,hp2⟩
  obtain ⟨x',ex,ix⟩:=ha1.get' hu
  obtain ⟨y',ey,iy⟩:=ha2.get' hw
  have s3:=wz hT (.tup [u,w])
  have a3:=a2.step s3
  refine ⟨T,_,rfl,.of zA,rfl,u,[w],rfl,w,[],rfl,rfl,?_⟩
  exact l2 W0 W1.g _ _ (W2.new T (.tup [u,w])) { D with nx:=Pv (n + 1),ct:=Pv (n + 1),bk:=D.nx } _ ((a3.set i (Is.mono0 a3.gs ix)).set j (Is.mono0 a3.gs iy)) (yI s hg1) (ht n x' y' ρ' ex ey hp2)
 ·rintro σ' _ ⟨ρ',W2,rfl,a2,hp2⟩
  exact s.nx ρ' σ' W2 (a2.weak hg1) (hd ρ' (by rw [ha1.length,ha2.length]; exact hp2))
def Zw (K:PySem.W.Frag) (t:DTE):TE:=fun σ H R=>∃ (F:Hp) (ρ:DS) (W:Vw) (Q:Dt→Prop),W.h=H∧Rl K (fun _=>none) F W ρ σ∧t ρ Q∧∀ d v W',Le W W'→Is K W'.g d v→Q d→R v W'.h
theorem DE.up {e:Expr} {t:DTE} (h:DE X e t) (hz:X.stack.length=X.outer.length:=by rfl):PE X e (Zw X.K t):=by
 obtain ⟨te,p,l⟩:=h
 intro pins s σ H R I q
 obtain ⟨F,ρ,W,Q,rfl,r,h,k⟩:=q
 have r':Rl X.K (Zx X) F W ρ σ:=by unfold Zx; rw [if_pos (Or.inl hz)]; exact r
 exact p pins s σ W.h R I (l ρ σ W Q r' h R k)
theorem az {K:PySem.W.Frag} {t:DTE}:LiE K (fun _=>none) (Zw K t) t:=fun ρ σ H Q r h R k=>⟨_,ρ,H,Q,rfl,r,h,k⟩
theorem LiF.le {K:PySem.W.Frag} {te:TE} {t:DTE} (l:LiF K Z te t):LiE K Z te t:=fun ρ σ H Q r h R k=>l ρ σ H Q r h R fun es q xs H' s h0 h1 h2 i z=>k (.lst es) (.ref q) (H'.frz q _ h1) (uZ s h0 h1 h2) (is_lst.mpr ⟨q,xs,rfl,zA,AllIs.mono0 (zK h2 _) i⟩) z
variable {scope:Scope} {x:Str} {elt iter:Expr} {px:Pos} {tl te:DTE}
end
end OD
namespace OD
variable {Z:Hp}
open PySem PySem.Spec PyProof.Rows L2
def Ite (K:PySem.W.Frag) (l:Addr):It:=
 ⟨fun i H=>∃ xs x,SqL K H l xs∧xs[i]? = some x,
  fun i H v H'=>∃ T x,v=.ref T∧H T=none∧H'=upd H T (.tup [.int i,x])∧∀ xs,SqL K H l xs→xs[i]? = some x,
  fun i H=>∃ xs,SqL K H l xs∧xs.length ≤ i⟩
def ZX (l e it:Addr) (i:Nat) (h:Heap):Prop:=(∃ old,IsEnum h e it (i:Int) old)∧h.IsListIter it l i
theorem ij {P:Program} {w:World} {K:PySem.W.Frag} {elts:List Expr} {x1} {tpos:Pos} (l e it:Addr) (hne:e ≠ it):o3 P w K (.Tuple elts x1 tpos) (Ite K l) [e,it] e (ZX l e it) where
 mem:=by simp
 obj:=fun i h ⟨⟨old,h1⟩,⟨o4,e4,c4,d4⟩⟩ b hb=>by
  simp only [List.mem_cons,List.not_mem_nil,or_false] at hb
  rcases hb with rfl | rfl
  ·exact ⟨_,h1,fun v z=>by cases z⟩
  ·exact ⟨_,e4,fun v z=>by rw [d4] at z; cases z⟩
 keep:=fun i h h' ⟨⟨old,h1⟩,⟨o4,e4,c4⟩⟩ k=>⟨⟨old,k e (by simp) _ h1⟩,⟨o4,k it (by simp) _ e4,c4⟩⟩
 item:=fun X hP hw hK hc i pins s σ H E I hfp ⟨⟨old,h1⟩,h4⟩ ⟨xs,x,q1,e1⟩=>by
  subst hP hw hK
  obtain ⟨its1,r1,p1,z1⟩:=I.list q1
  obtain ⟨u,eu,ru⟩:=r1.get e1
  refine wpAny_pyNext_enum_item h1 h4 p1.isList (x:=u) (by simpa using eu) hne fun h' a1 a2 a3 a4 a5=>?_
  refine ⟨_,rfl,wpAny_letOwnedTupleGo_enum a1 fun h'' b1 b2=>?_⟩
  have ne:∀ b ∈ [e,it],b ≠ s.heap.objs.size:=fun b hb=>by
   simp only [List.mem_cons,List.not_mem_nil,or_false] at hb
   obtain ⟨o4,e4,_⟩:=id h4
   rcases hb with rfl | rfl
   ·exact Nat.ne_of_lt (Heap.lt_size h1)
   ·exact Nat.ne_of_lt (Heap.lt_size e4)
  have en:e ≠ s.heap.objs.size:=ne e (by simp)
  have aT:=b2.extBut _ _ (Ne.symm en) a3
  have I':Inv X pins σ (upd H s.heap.objs.size (.tup [.int i,x])) { s with heap:=h'',toks:=s.toks + 1 }:=tD (ch:=[e,it]) (t':=s.toks + 1) I hfp (fun b o hb q=>by
    simp only [List.mem_cons,List.not_mem_nil,or_false,not_or] at hb
    exact b2.extBut b o hb.1 (a5 b o hb.1 hb.2 q)) (Nat.le_refl _) ⟨by show 2 ≤ sizeLine; rw [sizeLine_eq]; decide,[.int i s.toks,u],.cons ⟨_,rfl⟩ (.cons ru .nil),_,aT,rfl,_,rfl⟩
  refine ⟨.ref s.heap.objs.size,_,I',rfl,⟨_,x,rfl,I.fresh,rfl,fun xs' q=>?_⟩,⟨⟨u,?_⟩,a2.extBut b2.extBut (Ne.symm hne)⟩,fun b hb=>?_⟩
  ·rw [I.list_inj q q1]; exact e1
  ·have:((i + 1:Nat):Int)=(i:Int) + 1:=by omega
   show IsEnum h'' e it ((i + 1:Nat):Int) u
   rw [this]
   exact b1
  ·exact (zx (ne b hb)).trans (hfp b hb).1
 done:=fun X hP hw hK hc i pins s σ H E I hfp ⟨⟨old,h1⟩,h4⟩ ⟨xs,q1,e1⟩=>by
  subst hP hw hK
  obtain ⟨its1,r1,p1,z1⟩:=I.list q1
  refine wpAny_pyNext_enum_end (I.ok.hd hc) h1 h4 p1.isList ?_ fun h' hk=>⟨rfl,?_⟩
  ·have:=r1.length
   simp; omega
  ·exact rD (ch:=[e,it]) (t':=s.toks) I hfp fun b o hb q=>by
    simp only [List.mem_cons,List.not_mem_nil,or_false,not_or] at hb
    exact hk b o hb.2 q
 self:=fun A i s Q E ⟨⟨old,h1⟩,_⟩ q=>wpAny_pyIter_enum h1 q
def VI (K:PySem.W.Frag) (ta:TA):TI:=fun σ H R=>ta σ H fun vs H1=>∃ l xs,vs=[.ref l]∧SqL K H1 l xs∧R (Ite K l) H1
section
variable {X:Cx}
theorem gK:bootBuiltins "enumerate"=some (.type "enumerate"):=by decide +kernel
theorem bc {a:Expr} {ta:TA} {p pos:Pos} {elts:List Expr} {x1} {tpos:Pos} (hg:Gl X "enumerate") (hm:X.mg "enumerate"=none) (ha:PA X [a] ta) (hs:starEach [a] X.env=(false,eval a X.env) :: starEach [] X.env:=by rfl)
  (hpl:(backTo pos (starEach [] X.env)).any (·.1)=false:=by rfl):PI X (.Tuple elts x1 tpos) (.Call (.Name "enumerate" p) [a] [] pos) (VI X.K ta):=by
 intro pins s σ H R I h
 refine Call_ (xy I hg hm gK (PyProof.Rows.callWith_type1 (thn (ha pos pins s σ H _ I h) fun us s1 ⟨vs,H1,I1,r1,q1⟩=>?_) hs hpl))
 obtain ⟨l,xs,e,q1,q⟩:=q1
 subst e
 obtain ⟨u,rfl,ru⟩:=r1.one
 cases ru
 obtain ⟨its1,r1,p1,z1⟩:=I1.list q1
 refine call_enumerate_list p1.isList fun h' b1 b2 b3 b4=>?_
 have I2:Inv X pins σ H1 { s1 with heap:=h' }:=I1.kept (t':=s1.toks) b4
 refine wpAny_pyIter_enum b1 ⟨s1.heap.objs.size + 1,[s1.heap.objs.size + 1,s1.heap.objs.size],_,_,H1,rfl,I2,ij l (s1.heap.objs.size + 1) s1.heap.objs.size (Nat.succ_ne_self _),⟨⟨_,b1⟩,b2⟩,fun b hb=>?_,q⟩
 have hb':s1.heap.objs.size ≤ b:=by
  simp only [List.mem_cons,List.not_mem_nil,or_false] at hb
  rcases hb with rfl | rfl
  ·exact Nat.le_add_right _ _
  ·exact Nat.le_refl _
 have f:=I1.fpOk hb' (I1.hok.fresh hb')
 exact f
theorem dI {K:PySem.W.Frag} {l:Addr} {xs:List V} {g:TG} {tb:TS} {D:Ends} {σ:St} {H:Hp} (Pv:Nat→St→Hp→Prop) (h0:Pv 0 σ H) (hl:∀ i σ H,Pv i σ H→SqL K H l xs)
  (hs:∀ (i:Nat) x T σ H,xs[i]? = some x→H T=none→Pv i σ H→g (.ref T) σ (upd H T (.tup [.int i,x])) fun σ2 H2=>tb { D with nx:=Pv (i + 1),ct:=Pv (i + 1),bk:=D.nx } σ2 H2) (hd:∀ σ H,Pv xs.length σ H→D.nx σ H):
  ∃ W:Nat→Nat→St→Hp→Prop,(∃ m,W 0 m σ H)∧∀ i m σ H,W i m σ H→
   ((Ite K l).stop i H∧D.nx σ H)∨((Ite K l).go i H∧∃ N:St→Hp→Prop,(∀ σ' H',N σ' H'→∃ m',m' < m∧W (i + 1) m' σ' H')∧∀ x H',(Ite K l).yld i H x H'→g x σ H' fun σ2 H2=>tb { D with nx:=N,ct:=N,bk:=D.nx } σ2 H2):=by
 refine ⟨fun i m σ H=>m=xs.length - i∧i ≤ xs.length∧Pv i σ H,⟨_,rfl,Nat.zero_le _,h0⟩,?_⟩
 rintro i m σ H ⟨rfl,hi,p⟩
 have q1:=hl i σ H p
 by_cases hlt:i < xs.length
 ·have g1:xs[i]? = some xs[i]:=List.getElem?_eq_getElem hlt
  refine .inr ⟨⟨xs,xs[i],q1,g1⟩,Pv (i + 1),fun σ' H' p'=>⟨xs.length - (i + 1),by omega,rfl,hlt,p'⟩,fun v H' y=>?_⟩
  obtain ⟨T,x,rfl,hT,rfl,e1⟩:=y
  exact hs i x T σ H (e1 xs q1) hT p
 ·have e:i=xs.length:=by omega
  subst e
  exact .inl ⟨⟨xs,q1,Nat.le_refl _⟩,hd σ H p⟩
end
section
variable {X:Cx} {fr:Fr} {ta:DTA} {tb:DTS} {pos p0 p1 p2:Pos}
def V_ (i j:Nat) (ta:DTA) (tb:DTS):DTS:=fun D ρ=>ta ρ fun ds=>∃ (d:Dt) (xs:List Dt) (Pv:Nat→DS→Prop),ds=[d]∧xx d=some xs∧Pv 0 ρ∧
 (∀ (n:Nat) x ρ',xs[n]? = some x→Pv n ρ'→tb { D with nx:=Pv (n + 1),ct:=Pv (n + 1),bk:=D.nx } ((ρ'.set i (.some (.int n))).set j (.some x)))∧∀ ρ',Pv xs.length ρ'→D.nx ρ'
theorem u9 {i j:Nat} {x y:Str} {a:Expr} {body:List Stmt} {px py pt p0 pos1:Pos} {kt:Nat} (hc:X.calm=true) (hN:X.N.Nodup) (hi:X.N[i]? = some x) (hj:X.N[j]? = some y) (hx:Loc X.env.scope x) (hy:Loc X.env.scope y) (hp:PassesOwn (model X.prog X.w) X.A X.env X.xe)
  (hg:Gl X "enumerate") (hm:X.mg "enumerate"=none) (ha:DA X [a] ta) (hb:DSs X fr body tb) (hs:∀ z,foldedSetIterable (.Call (.Name "enumerate" p0) [a] [] pos1) X.env z=pure z:=by intro _; rfl)
  (hst:starEach [a] X.env=(false,eval a X.env) :: starEach [] X.env:=by rfl) (hpl:(backTo pos1 (starEach [] X.env)).any (·.1)=false:=by rfl)
  (hf:X.fn x=true∨X.env.scope.names.lookup x=some .local:=by first | exact .inl rfl | exact .inr rfl | assumption) (hf2:X.fn y=true∨X.env.scope.names.lookup y=some .local:=by first | exact .inl rfl | exact .inr rfl | assumption):
  DSt X fr (.For (.Tuple [.Name x px,.Name y py] kt pt) (.Call (.Name "enumerate" p0) [a] [] pos1) body [] pos) (V_ i j ta tb):=by
 obtain ⟨tt,p,l⟩:=ha
 obtain ⟨tbs,p2,l2⟩:=hb
 refine ⟨_,vh hp hc (bc hg hm p hst hpl) (sS hc (yl (zX hN hi hx hf) (yl (zX hN hj hy hf2) vN))) p2 hs,fun W0 G ρ σ W D D' at_ s h=>l ρ σ W _ at_.rl h _ fun ds vs W1 s1 i1 ⟨d,xs,Pv,ed,el1,h0,ht,hd⟩=>?_⟩
 subst ed
 obtain ⟨v1,rfl,j1⟩:=i1.one
 have hg1:Same G W1.g:=at_.gs.trans s1.g
 obtain ⟨l1,us,rfl,hq1,ha1⟩:=rB j1 el1
 refine ⟨l1,us,rfl,hq1 W1 (Same.refl _),dI (K:=X.K) (xs:=us) (fun n=>InL X.K (Zx X) W0 W1 (Pv n)) ⟨ρ,W1,rfl,(at_.step s1).now,h0⟩ (fun n σ' H' ⟨_,W2,e2,a2,_⟩=>e2 ▸ hq1 W2 a2.gs) ?_ ?_⟩
 ·rintro n u T σ' _ hu hT ⟨ρ',W2,rfl,a2,hp2⟩
  obtain ⟨x',ex,ix⟩:=ha1.get' hu
  have s3:=wz hT (.tup [.int n,u])
  have a3:=a2.step s3
  refine ⟨T,_,rfl,.of zA,rfl,.int n,[u],rfl,u,[],rfl,rfl,?_⟩
  exact l2 W0 W1.g _ _ (W2.new T (.tup [.int n,u])) { D with nx:=Pv (n + 1),ct:=Pv (n + 1),bk:=D.nx } _ ((a3.set i (is_int.mpr rfl)).set j (Is.mono0 a3.gs ix)) (yI s hg1) (ht n x' ρ' ex hp2)
 ·rintro σ' _ ⟨ρ',W2,rfl,a2,hp2⟩
  exact s.nx ρ' σ' W2 (a2.weak hg1) (hd ρ' (by rw [ha1.length]; exact hp2))
theorem dX {j:Nat} {x:Str} {a b:Expr} {body:List Stmt} {px p0 pos1:Pos} (hc:X.calm=true) (hN:X.N.Nodup) (hi:X.N[j]? = some x) (hx:Loc X.env.scope x) (hp:PassesOwn (model X.prog X.w) X.A X.env X.xe)
  (hg:Gl X "range") (hm:X.mg "range"=none) (h:DA X [a,b] ta) (hb:DSs X fr body tb) (hs:∀ x,foldedSetIterable (.Call (.Name "range" p0) [a,b] [] pos1) X.env x=pure x:=by intro _; rfl)
  (hst:starEach [a,b] X.env=[(false,eval a X.env),(false,eval b X.env)]:=by rfl) (hst2:starEach [b] X.env=[(false,eval b X.env)]:=by rfl)
  (hf:X.fn x=true∨X.env.scope.names.lookup x=some .local:=by first | exact .inl rfl | exact .inr rfl | assumption):DSt X fr (.For (.Name x px) (.Call (.Name "range" p0) [a,b] [] pos1) body [] pos) (Wl j ta tb):=by
 obtain ⟨tt,p,l⟩:=h
 obtain ⟨tbs,p2,l2⟩:=hb
 refine ⟨_,vh hp hc (iB hg hm p hst hst2) (zX hN hi hx hf) p2 hs,fun W0 G ρ σ W D D' at_ s h=>l ρ σ W _ at_.rl h _ fun ds vs W1 s1 i1 ⟨m,n,Pv,ed,m1,m2,n1,n2,h0,ht,hd⟩=>?_⟩
 subst ed
 obtain ⟨v1,v2,rfl,j1,j2⟩:=i1.two
 have hg1:Same G W1.g:=at_.gs.trans s1.g
 refine ⟨m,n,by rw [is_int.mp j1,is_int.mp j2],⟨m1,m2,n1,n2⟩,pD (lo:=m) (n:=(n - m).toNat) (fun i=>InL X.K (Zx X) W0 W1 (Pv i)) ⟨ρ,W1,rfl,(at_.step s1).now,h0⟩ ?_ ?_⟩
 ·rintro i σ' _ hi ⟨ρ',W2,rfl,a2,hp2⟩
  exact l2 W0 W1.g _ _ W2 { D with nx:=Pv (i + 1),ct:=Pv (i + 1),bk:=D.nx } _ (a2.set j (is_int.mpr rfl)) (yI s hg1) (ht i ρ' hi hp2)
 ·rintro σ' _ ⟨ρ',W2,rfl,a2,hp2⟩
  exact s.nx ρ' σ' W2 (a2.weak hg1) (hd ρ' hp2)
structure tG (K:PySem.W.Frag) (C:Addr):Prop where
 cl:Cls K C
 ha:PySem.W.findIn K (.ref C) "__class__"=some (some (.builtin "object.__class__"))
 hn:PySem.W.specialIn K (.builtin "object.__class__") "__get__"=some (some (.builtin "getset_descriptor.__get__"))
 htk:PySem.W.takesIn K (.builtin "object.__class__")=some true
 hm:PySem.W.mroIn K C (.type "object")=some true
theorem gJ:CallR X (.builtin "isinstance") (fun xs H Q=>∃ v D tv b,xs=[v,.ref D]∧vH X.K H v tv∧PySem.W.kitOne X.K tv (.ref D)=some b∧Q (.bl b) H):=by
 intro pins s σ H xs us Q I r h
 obtain ⟨v,D,tv,b,rfl,hty,hk,q⟩:=h
 cases r with
 | cons r1 r2=>
  cases r2 with
  | cons r3 r4=>
   cases r4
   cases r3
   exact pC I r1 hty hk fun tk=>⟨.bl b,H,I.tok _,rfl,q⟩
def V5 (K:PySem.W.Frag) (D:Addr) (ta:DTE):DTE:=fun ρ Q=>ta ρ fun d=>∃ C f n b,d=.way C f n∧tG K C∧PySem.W.kitOne K (.ref C) (.ref D)=some b∧Q (.bl b)
theorem sy {a:Expr} {t:DTE} {y:Str} {p':Pos} {D:Addr} (hm:X.mg "isinstance"=none) (hmc:X.mg y=some (.ref D)) (ha:DE X a t)
  (hg:Gl X "isinstance":=by rfl) (hgc:Gl X y:=by rfl) (hdy:(y == ("__debug__":Str))=false:=by decide)
  (hs:starEach [a,.Name y p'] X.env=(false,eval a X.env) :: starEach [.Name y p'] X.env:=by rfl) (hs2:starEach [.Name y p'] X.env=(false,eval (.Name y p') X.env) :: starEach [] X.env:=by rfl)
  (hpl:(backTo pos (starEach [.Name y p'] X.env)).any (·.1)=false:=by rfl):
  DE X (.Call (.Name "isinstance" p0) [a,.Name y p'] [] pos) (V5 X.K D t):=by
 obtain ⟨te,p1,l1⟩:=ha
 have pc:PE X (.Name y p') (tC (.ref D)):=jA hgc hmc rfl hdy
 refine ⟨_,xB gJ hg hm boot_isinstance (zQ p1 (zQ pc yM hs2) hs) (by decide) (by decide) hs hpl,fun ρ σ H Q r h R k=>l1 ρ σ H _ r h _ fun d v H1 s1 i1 ⟨C,f,n,b,ed,ok,e,q⟩=>?_⟩
 subst ed
 obtain ⟨p,dx,rfl,hp⟩:=is_way.mp i1
 exact ⟨_,D,_,b,rfl,.ins (H1.sub _ _ hp) ok.cl ok.ha ok.hn ok.htk ok.hm,e,k _ _ H1 s1 (is_bl.mpr rfl) q⟩
end
end OD
namespace OD
variable {Z:Hp}
open PySem PySem.Spec PyProof.Rows L2
def Itd (lo:Int) (n:Nat):It:=⟨fun i _=>i < n,fun i H x H'=>H'=H∧x=.int (lo - i),fun i _=>n ≤ i⟩
theorem ik {P:Program} {w:World} {K:PySem.W.Frag} {tg:Expr} (it:Addr) (lo:Int) (n:Nat):o3 P w K tg (Itd lo n) [it] it (fun i h=>IsRangeIter h it (lo + (i:Nat) * (-1)) ((n:Int) - (i:Nat)) (-1)) where
 mem:=by simp
 obj:=fun i h st b hb=>by
  have e:b=it:=by simpa using hb
  subst e
  exact ⟨_,st,fun v z=>by
   have z':Data.fields _=Data.cell v:=z
   cases z'⟩
 keep:=fun i h h' st k=>k it (by simp) _ st
 item:=by
  intro X hP hw hK hc i pins s σ H E I hf st hg
  subst hP hw hK
  obtain ⟨f0,f1,f2,f3,f4,f5⟩:=hf it (by simp)
  have W:=Walks.range (prog:=X.prog) (w:=X.w) (I.ok.hd hc) it lo (-1) n
  refine W.item i s _ _ hg st fun v h' tk hv st' kk=>?_
  obtain ⟨t,rfl⟩:=hv
  have I1:Inv X pins σ H { s with heap:=h',toks:=tk }:=I.turned (fun b o hb e=>kk b o (by simpa using hb) e) f0 f1 f3 f4 f5
  refine ⟨_,rfl,jG (s:={ s with heap:=h',toks:=tk }) (n:="range_iterator") st' rfl rfl (by decide) ⟨.int (lo - i),H,I1,⟨t,?_⟩,⟨rfl,rfl⟩,st',fun b hb=>(hf b hb).1⟩⟩
  rw [show lo + (i:Int) * (-1)=lo - i by omega]
 done:=by
  intro X hP hw hK hc i pins s σ H E I hf st hg
  subst hP hw hK
  obtain ⟨f0,f1,f2,f3,f4,f5⟩:=hf it (by simp)
  exact wpAny_pyNext_range_end (I.ok.hd hc) st (by have:n ≤ i:=hg; omega) fun h' eb=>⟨rfl,I.turned (t':=s.toks) (fun b o hb e=>eb b o hb e) f0 f1 f3 f4 f5⟩
 self:=fun _ _ _ _ _ st h=>wpAny_pyIter_rangeiter st h
theorem wv (a b:Int):Builtin.Range.rangeSize a b (-1)=if b < a then a - b else 0:=by
 unfold Builtin.Range.rangeSize
 rw [if_neg (by decide)]
 split
 ·rename_i h
  have:(a - b - 1) / (- -1)=a - b - 1:=by rw [show (- -1:Int)=1 by decide,Int.ediv_one]
  omega
 ·rfl
theorem lm {a b:Int} (ha:-(2 ^ 62) ≤ a) (ha':a < 2 ^ 62) (hb:-(2 ^ 62) ≤ b) (hb':b < 2 ^ 62):Builtin.Range.small a b (-1)=true:=by
 unfold Builtin.Range.small
 rw [wv]
 simp only [Builtin.Range.rangeFitsLong,Bool.and_eq_true,Bool.or_eq_true,decide_eq_true_eq,beq_iff_eq,show ¬ (-1:Int) > 0 by decide,if_false]
 split <;> omega
section
variable {X:Cx} {tg:Expr}
def VJ (ta:TA):TI:=fun σ H R=>ta σ H fun vs H1=>∃ i j:Int,vs=[.int i,.int j,.int (-1)]∧(-(2 ^ 30) ≤ i∧i < 2 ^ 30∧-(2 ^ 30) ≤ j∧j < 2 ^ 30)∧R (Itd i (i - j).toNat) H1
theorem bf {a b c:Expr} {ta:TA} {p pos:Pos} (hg:Gl X "range") (hm:X.mg "range"=none) (ha:PA X [a,b,c] ta) (hs:starEach [a,b,c] X.env=(false,eval a X.env) :: starEach [b,c] X.env:=by rfl)
  (hpl:(backTo pos (starEach [b,c] X.env)).any (·.1)=false:=by rfl):PI X tg (.Call (.Name "range" p) [a,b,c] [] pos) (VJ ta):=by
 intro pins s σ H R I h
 refine Call_ (xy I hg hm boot_range (PyProof.Rows.callWith_type1 (thn (ha pos pins s σ H _ I h) fun us s1 ⟨vs,H1,I1,r1,q1⟩=>?_) hs hpl))
 obtain ⟨i,j,e,⟨q1,q2,q3,q4⟩,q⟩:=q1
 subst e
 cases r1 with
 | cons r rr=>
 cases rr with
 | cons r' rr=>
 cases rr with
 | cons r'' rr=>
  cases rr
  obtain ⟨t,rfl⟩:=r
  obtain ⟨t',rfl⟩:=r'
  obtain ⟨t'',rfl⟩:=r''
  refine call_range_3 (by decide) ?_ (Or.inl (PyProof.noPylong_small (by omega)))
  refine wpAny_pyIter_range (IsRange.new ..) (lm (by omega) (by omega) (by omega) (by omega)) ?_
  have I2:Inv X pins σ H1 { s1 with heap:=s1.heap.push { cls:=.type "range",data:=.fields #[.int i t,.int j t',.int (-1) t''] },toks:=s1.toks }:=I1.kept fun b o e=>Heap.get?_push_of_some _ e
  refine ⟨(s1.heap.push { cls:=.type "range",data:=.fields #[.int i t,.int j t',.int (-1) t''] }).objs.size,[(s1.heap.push { cls:=.type "range",data:=.fields #[.int i t,.int j t',.int (-1) t''] }).objs.size],_,_,H1,rfl,
   I2.kept (t':=s1.toks) fun b o e=>Heap.get?_push_of_some _ e,ik _ i (i - j).toNat,?_,fun b hb=>?_,q⟩
  ·have e1:i + ((0:Nat):Int) * (-1)=i:=by simp
   have e2:(((i - j).toNat:Nat):Int) - ((0:Nat):Int)=Builtin.Range.rangeSize i j (-1):=by rw [wv]; split <;> omega
   show IsRangeIter _ _ (i + ((0:Nat):Int) * (-1)) ((((i - j).toNat:Nat):Int) - ((0:Nat):Int)) (-1)
   rw [e1,e2]
   exact Heap.get?_push_size _ rfl
  ·have e:b=(s1.heap.push { cls:=.type "range",data:=.fields #[.int i t,.int j t',.int (-1) t''] }).objs.size:=by simpa using hb
   subst e
   exact I2.fpOk (Nat.le_refl _) (I2.hok.fresh (Nat.le_refl _))
theorem dJ {lo:Int} {n:Nat} {g:TG} {tb:TS} {D:Ends} {σ:St} {H:Hp} (Pv:Nat→St→Hp→Prop) (h0:Pv 0 σ H)
  (hs:∀ i σ H,i < n→Pv i σ H→g (.int (lo - i)) σ H fun σ2 H2=>tb { D with nx:=Pv (i + 1),ct:=Pv (i + 1),bk:=D.nx } σ2 H2) (hd:∀ σ H,Pv n σ H→D.nx σ H):
  ∃ W:Nat→Nat→St→Hp→Prop,(∃ m,W 0 m σ H)∧∀ i m σ H,W i m σ H→
   ((Itd lo n).stop i H∧D.nx σ H)∨((Itd lo n).go i H∧∃ N:St→Hp→Prop,(∀ σ' H',N σ' H'→∃ m',m' < m∧W (i + 1) m' σ' H')∧∀ x H',(Itd lo n).yld i H x H'→g x σ H' fun σ2 H2=>tb { D with nx:=N,ct:=N,bk:=D.nx } σ2 H2):=by
 refine ⟨fun i m σ H=>m=n - i∧i ≤ n∧Pv i σ H,⟨n,by simp,Nat.zero_le _,h0⟩,?_⟩
 rintro i m σ H ⟨rfl,hi,p⟩
 by_cases hlt:i < n
 ·refine .inr ⟨hlt,Pv (i + 1),fun σ' H' p'=>⟨n - (i + 1),by omega,rfl,hlt,p'⟩,fun x H' y=>?_⟩
  obtain ⟨e,y⟩:=y
  subst e y
  exact hs i σ _ hlt p
 ·have e:i=n:=by omega
  subst e
  exact .inl ⟨Nat.le_refl _,hd σ H p⟩
variable {fr:Fr} {ta:DTA} {tb:DTS} {te:DTE} {pos p0 p1 p2:Pos}
def Ua (j:Nat) (ta:DTA) (tb:DTS):DTS:=fun D ρ=>ta ρ fun ds=>∃ (m n:Int) (Pv:Nat→DS→Prop),ds=[.int m,.int n,.int (-1)]∧-(2 ^ 30) ≤ m∧m < 2 ^ 30∧-(2 ^ 30) ≤ n∧n < 2 ^ 30∧Pv 0 ρ∧
 (∀ (i:Nat) ρ',i < (m - n).toNat→Pv i ρ'→tb { D with nx:=Pv (i + 1),ct:=Pv (i + 1),bk:=D.nx } (ρ'.set j (.some (.int (m - i)))))∧∀ ρ',Pv (m - n).toNat ρ'→D.nx ρ'
theorem AllIs.three {K:PySem.W.Frag} {H:Hp} {d e f:Dt} {xs:List V} (h:AllIs K H [d,e,f] xs):∃ v u w,xs=[v,u,w]∧Is K H d v∧Is K H e u∧Is K H f w:=by
 obtain ⟨x,r,rfl,h1,h2⟩:=allIs_cons.mp h
 obtain ⟨u,w,rfl,h3,h4⟩:=h2.two
 exact ⟨x,u,w,rfl,h1,h3,h4⟩
theorem aN {j:Nat} {x:Str} {a b c:Expr} {body:List Stmt} {px p0 pos1:Pos} (hc:X.calm=true) (hN:X.N.Nodup) (hi:X.N[j]? = some x) (hx:Loc X.env.scope x) (hp:PassesOwn (model X.prog X.w) X.A X.env X.xe)
  (hg:Gl X "range") (hm:X.mg "range"=none) (h:DA X [a,b,c] ta) (hb:DSs X fr body tb) (hs:∀ x,foldedSetIterable (.Call (.Name "range" p0) [a,b,c] [] pos1) X.env x=pure x:=by intro _; rfl)
  (hst:starEach [a,b,c] X.env=(false,eval a X.env) :: starEach [b,c] X.env:=by rfl) (hpl:(backTo pos1 (starEach [b,c] X.env)).any (·.1)=false:=by rfl)
  (hf:X.fn x=true∨X.env.scope.names.lookup x=some .local:=by first | exact .inl rfl | exact .inr rfl | assumption):DSt X fr (.For (.Name x px) (.Call (.Name "range" p0) [a,b,c] [] pos1) body [] pos) (Ua j ta tb):=by
 obtain ⟨tt,p,l⟩:=h
 obtain ⟨tbs,p2,l2⟩:=hb
 refine ⟨_,vh hp hc (bf hg hm p hst hpl) (zX hN hi hx hf) p2 hs,fun W0 G ρ σ W D D' at_ s h=>l ρ σ W _ at_.rl h _ fun ds vs W1 s1 i1 ⟨m,n,Pv,ed,m1,m2,n1,n2,h0,ht,hd⟩=>?_⟩
 subst ed
 obtain ⟨v1,v2,v3,rfl,j1,j2,j3⟩:=i1.three
 have hg1:Same G W1.g:=at_.gs.trans s1.g
 refine ⟨m,n,by rw [is_int.mp j1,is_int.mp j2,is_int.mp j3],⟨m1,m2,n1,n2⟩,dJ (lo:=m) (n:=(m - n).toNat) (fun i=>InL X.K (Zx X) W0 W1 (Pv i)) ⟨ρ,W1,rfl,(at_.step s1).now,h0⟩ ?_ ?_⟩
 ·rintro i σ' _ hi ⟨ρ',W2,rfl,a2,hp2⟩
  exact l2 W0 W1.g _ _ W2 { D with nx:=Pv (i + 1),ct:=Pv (i + 1),bk:=D.nx } _ (a2.set j (is_int.mpr rfl)) (yI s hg1) (ht i ρ' hi hp2)
 ·rintro σ' _ ⟨ρ',W2,rfl,a2,hp2⟩
  exact s.nx ρ' σ' W2 (a2.weak hg1) (hd ρ' hp2)
def dA:Dt→Bool
 | .non=>true
 | _=>false
theorem gr {K:PySem.W.Frag} {H:Hp} {d:Dt} {v:V} (h:Is K H d v):decide (v=.non)=dA d:=by
 cases d with
 | non=>rw [is_non.mp h]; rfl
 | bl b=>rw [is_bl.mp h]; rfl
 | int b=>rw [is_int.mp h]; rfl
 | str b=>rw [is_str.mp h]; rfl
 | tup b=>obtain ⟨a,xs,rfl,_⟩:=is_tup.mp h; rfl
 | lst b=>obtain ⟨a,xs,rfl,_⟩:=is_lst.mp h; rfl
 | scr b=>obtain ⟨a,rfl,_⟩:=is_scr.mp h; rfl
 | way b _ _=>obtain ⟨a,xs,rfl,_⟩:=is_way.mp h; rfl
 | exc b=>obtain ⟨a,rfl,_⟩:=is_exc.mp h; rfl
def ZM (ta:DTE):DTE:=fun ρ Q=>ta ρ fun d=>Q (.bl (dA d))
theorem X7 {a:Expr} {j pos'} (ha:DE X a te):DT X (.Compare a [.Is] [.Constant .none j pos'] pos) (wc (ZM te)):=by
 obtain ⟨t1,p1,l1⟩:=ha
 refine ⟨_,Z9 (Yo p1),oR (te:=WG t1) (t:=ZM te) fun ρ σ H Q r h R k=>l1 ρ σ H _ r h _ fun d v H1 s1 i1 q=>k (.bl (dA d)) (.bl (decide (v=.non))) H1 s1 (is_bl.mpr (by rw [gr i1])) q⟩
end
end OD
namespace OD
variable {Z:Hp}
open PySem PySem.Spec PyProof.Rows L2
section
variable {X:Cx} {a:Expr} {te:TE} {tl th ts:TO} {lo hi:Option Expr} {st:Expr} {pos p2:Pos} {ta:DTE} {dl dh dt:DTO}
def Itv (K:PySem.W.Frag) (a:Addr):It:=
 ⟨fun i H=>∃ xs x,SqL K H a xs∧xs.reverse[i]? = some x,fun i H x H'=>H'=H∧∀ xs,SqL K H a xs→xs.reverse[i]? = some x,fun i H=>∃ xs,SqL K H a xs∧xs.length ≤ i⟩
def Wz (l it:Addr) (n:Nat) (i:Nat) (h:Heap):Prop:=i ≤ n∧h.IsRevIter it l ((n:Int) - 1 - (i:Int))
theorem jy {α:Type} {xs:List α} {i:Nat} {x:α} (h:xs.reverse[i]? = some x):i < xs.length∧xs[xs.length - 1 - i]? = some x:=by
 have hi:i < xs.reverse.length:=by
  rcases Nat.lt_or_ge i xs.reverse.length with q | q
  ·exact q
  ·rw [List.getElem?_eq_none q] at h; cases h
 rw [List.length_reverse] at hi
 rw [List.getElem?_reverse hi] at h
 exact ⟨hi,h⟩
theorem g6 {P:Program} {w:World} {K:PySem.W.Frag} {tg:Expr} (l it:Addr) (n:Nat):o3 P w K tg ⟨fun i H=>∃ xs x,xs.length=n∧SqL K H l xs∧xs.reverse[i]? = some x,(Itv K l).yld,fun i H=>∃ xs,xs.length=n∧SqL K H l xs∧xs.length ≤ i⟩ [it] it (Wz l it n) where
 mem:=by simp
 obj:=fun i h ⟨_,o,e,c,d⟩ b hb=>by
  have e':b=it:=by simpa using hb
  subst e'
  exact ⟨o,e,fun v z=>by rw [d] at z; cases z⟩
 keep:=fun i h h' ⟨hi,o,e,c⟩ k=>⟨hi,o,k it (by simp) _ e,c⟩
 item:=by
  intro X hP hw hK hc i pins s σ H E I hf st hg
  subst hP hw hK
  obtain ⟨xs,x,hn,hq,hx⟩:=hg
  obtain ⟨hi,st⟩:=st
  obtain ⟨hi2,hx2⟩:=jy hx
  obtain ⟨its,rv,p,hz⟩:=I.list hq
  obtain ⟨u,hu,ru⟩:=rv.get hx2
  obtain ⟨f0,f1,f2,f3,f4,f5⟩:=hf it (by simp)
  have e1:(n:Int) - 1 - (i:Int)=((xs.length - 1 - i:Nat):Int):=by omega
  rw [e1] at st
  refine wpAny_pyNext_rev_item st p.isList (x:=u) (by simpa using hu) fun h' st' sb=>?_
  have I1:Inv X pins σ H { s with heap:=h' }:=I.turned (t':=s.toks) (fun b o hb e=>(sb.2 b hb).trans e) f0 f1 f3 f4 f5
  obtain ⟨o,e,c,d⟩:=id st'
  refine ⟨u,rfl,jG (s:={ s with heap:=h' }) e c d (by decide) ⟨x,H,I1,ru,⟨rfl,fun ys hy=>by rw [I.list_inj hy hq]; exact hx⟩,⟨by omega,?_⟩,fun b hb=>(hf b hb).1⟩⟩
  have e2:(n:Int) - 1 - ((i + 1:Nat):Int)=((xs.length - 1 - i:Nat):Int) - 1:=by omega
  rw [e2]
  exact st'
 done:=by
  intro X hP hw hK hc i pins s σ H E I hf st hg
  subst hP hw hK
  obtain ⟨xs,hn,hq,hx⟩:=hg
  obtain ⟨hi,st⟩:=st
  obtain ⟨f0,f1,f2,f3,f4,f5⟩:=hf it (by simp)
  have e1:(n:Int) - 1 - (i:Int)=-1:=by omega
  rw [e1] at st
  exact wpAny_pyNext_rev_end (I.ok.hd hc) st fun h' eb=>⟨rfl,I.turned (t':=s.toks) (fun b o hb e=>eb b o hb e) f0 f1 f3 f4 f5⟩
 self:=fun _ _ _ _ _ st h=>wpAny_pyIter_revIter st.2 h
def PU (K:PySem.W.Frag) (ta:TA):TI:=fun σ H R=>ta σ H fun vs H1=>∃ l xs,vs=[.ref l]∧SqL K H1 l xs∧R ⟨fun i H=>∃ ys x,ys.length=xs.length∧SqL K H l ys∧ys.reverse[i]? = some x,(Itv K l).yld,fun i H=>∃ ys,ys.length=xs.length∧SqL K H l ys∧ys.length ≤ i⟩ H1
theorem cx:bootBuiltins "reversed"=some (.type "reversed"):=by decide +kernel
theorem Yd {a:Expr} {ta:TA} {p pos:Pos} {tg:Expr} (hg:Gl X "reversed") (hm:X.mg "reversed"=none) (ha:PA X [a] ta) (hs:starEach [a] X.env=(false,eval a X.env) :: starEach [] X.env:=by rfl)
  (hpl:(backTo pos (starEach [] X.env)).any (·.1)=false:=by rfl):PI X tg (.Call (.Name "reversed" p) [a] [] pos) (PU X.K ta):=by
 intro pins s σ H R I h
 refine Call_ (xy I hg hm cx (PyProof.Rows.callWith_type1 (thn (ha pos pins s σ H _ I h) fun us s1 ⟨vs,H1,I1,r1,q1⟩=>?_) hs hpl))
 obtain ⟨l,xs,e,q1,q⟩:=q1
 subst e
 obtain ⟨u,rfl,ru⟩:=r1.one
 cases ru
 obtain ⟨its1,r1,p1,z1⟩:=I1.list q1
 refine call_reversed_list p1.isList ?_
 have I2:Inv X pins σ H1 { s1 with heap:=s1.heap.push (revObj l ((its1.toArray.size:Int) - 1)) }:=I1.kept (t':=s1.toks) fun b o e=>Heap.get?_push_of_some _ e
 have st:(s1.heap.push (revObj l ((its1.toArray.size:Int) - 1))).IsRevIter s1.heap.objs.size l ((xs.length:Int) - 1 - ((0:Nat):Int)):=by
  have e:(xs.length:Int) - 1 - ((0:Nat):Int)=(its1.toArray.size:Int) - 1:=by rw [List.size_toArray,← r1.length]; omega
  rw [e]
  exact ⟨_,Heap.get?_push_size _ rfl,rfl,rfl⟩
 refine wpAny_pyIter_revIter (s:={ s1 with heap:=s1.heap.push (revObj l ((its1.toArray.size:Int) - 1)) }) st ⟨s1.heap.objs.size,[s1.heap.objs.size],_,_,H1,rfl,I2,g6 l s1.heap.objs.size xs.length,⟨Nat.zero_le _,st⟩,fun b hb=>?_,q⟩
 have e:b=s1.heap.objs.size:=by simpa using hb
 subst e
 exact I1.fpOk (Nat.le_refl _) (I1.hok.fresh (Nat.le_refl _))
variable {fr:Fr} {tA:DTA} {tb:DTS} {p0 p1:Pos}
def V7 (j:Nat) (ta:DTA) (tb:DTS):DTS:=fun D ρ=>ta ρ fun ds=>∃ (d:Dt) (xs:List Dt) (Pv:Nat→DS→Prop),ds=[d]∧xx d=some xs∧Pv 0 ρ∧
 (∀ (n:Nat) x ρ',xs.reverse[n]? = some x→Pv n ρ'→tb { D with nx:=Pv (n + 1),ct:=Pv (n + 1),bk:=D.nx } (ρ'.set j (.some x)))∧∀ ρ',Pv xs.length ρ'→D.nx ρ'
theorem AllIs.rev {K:PySem.W.Frag} {H:Hp}:∀ {ds:List Dt} {xs:List V},AllIs K H ds xs→AllIs K H ds.reverse xs.reverse
 | [],_,h=>by rw [allIs_nil.mp h]; exact allIs_nil.mpr rfl
 | d :: ds,_,h=>by
  obtain ⟨x,r,rfl,h1,h2⟩:=allIs_cons.mp h
  rw [List.reverse_cons,List.reverse_cons]
  exact (AllIs.rev h2).append (allIs_cons.mpr ⟨x,[],rfl,h1,allIs_nil.mpr rfl⟩)
theorem sd {j:Nat} {x:Str} {a:Expr} {body:List Stmt} {px p0 pos1:Pos} (hc:X.calm=true) (hN:X.N.Nodup) (hi:X.N[j]? = some x) (hx:Loc X.env.scope x) (hp:PassesOwn (model X.prog X.w) X.A X.env X.xe)
  (hg:Gl X "reversed") (hm:X.mg "reversed"=none) (h:DA X [a] tA) (hb:DSs X fr body tb) (hs:∀ x,foldedSetIterable (.Call (.Name "reversed" p0) [a] [] pos1) X.env x=pure x:=by intro _; rfl)
  (hst:starEach [a] X.env=(false,eval a X.env) :: starEach [] X.env:=by rfl) (hpl:(backTo pos1 (starEach [] X.env)).any (·.1)=false:=by rfl)
  (hf:X.fn x=true∨X.env.scope.names.lookup x=some .local:=by first | exact .inl rfl | exact .inr rfl | assumption):DSt X fr (.For (.Name x px) (.Call (.Name "reversed" p0) [a] [] pos1) body [] pos) (V7 j tA tb):=by
 obtain ⟨tt,p,l⟩:=h
 obtain ⟨tbs,p2,l2⟩:=hb
 refine ⟨_,vh hp hc (Yd hg hm p hst hpl) (zX hN hi hx hf) p2 hs,fun W0 G ρ σ W D D' at_ s h=>l ρ σ W _ at_.rl h _ fun ds vs W1 s1 i1 ⟨d,xs,Pv,ed,el1,h0,ht,hd⟩=>?_⟩
 subst ed
 obtain ⟨v1,rfl,j1⟩:=i1.one
 have hg1:Same G W1.g:=at_.gs.trans s1.g
 obtain ⟨l1,us,rfl,hq1,ha1⟩:=rB j1 el1
 refine ⟨l1,us,rfl,hq1 W1 (Same.refl _),fun i m σ' H'=>m=us.length - i∧i ≤ us.length∧InL X.K (Zx X) W0 W1 (Pv i) σ' H',⟨_,rfl,Nat.zero_le _,ρ,W1,rfl,(at_.step s1).now,h0⟩,?_⟩
 rintro i m σ' _ ⟨rfl,hi,ρ',W2,rfl,a2,hp2⟩
 have q1:=hq1 W2 a2.gs
 by_cases hlt:i < us.length
 ·have g1:us.reverse[i]? = some (us.reverse[i]'(by rw [List.length_reverse]; exact hlt)):=List.getElem?_eq_getElem _
  refine .inr ⟨⟨us,_,rfl,q1,g1⟩,InL X.K (Zx X) W0 W1 (Pv (i + 1)),fun σ' H' p'=>⟨us.length - (i + 1),by omega,rfl,hlt,p'⟩,fun v H' y=>?_⟩
  obtain ⟨rfl,y⟩:=y
  obtain ⟨x',ex,ix⟩:=ha1.rev.get' (y us q1)
  exact l2 W0 W1.g _ _ W2 { D with nx:=Pv (i + 1),ct:=Pv (i + 1),bk:=D.nx } _ (a2.set j (Is.mono0 a2.gs ix)) (yI s hg1) (ht i x' ρ' ex hp2)
 ·have e:i=us.length:=by omega
  subst e
  exact .inl ⟨⟨us,rfl,q1,Nat.le_refl _⟩,s.nx ρ' σ' W2 (a2.weak hg1) (hd ρ' (by rw [ha1.length]; exact hp2))⟩
theorem ax:MtR X "int.bit_length" (fun x vs H Q=>∃ i,x=.int i∧vs=[]∧Q (.int (Builtin.Int.intBits i)) H):=by
 intro pins s σ H x vs v us Q I rx rv h
 obtain ⟨i,rfl,rfl,q⟩:=h
 obtain ⟨t,rfl⟩:=rx
 have hus:=rv.zero
 subst hus
 exact call_int_bit_length ⟨.int _,H,I.tok _,⟨_,rfl⟩,q⟩
def Uc (te:DTE):DTE:=fun ρ Q=>te ρ fun d=>∃ i,d=.int i∧Q (.int (Builtin.Int.intBits i))
theorem aQ {o:Expr} {t:DTE} {apos cpos:Pos} (ho:DE X o t) (hbase:attributeBase o "bit_length" X.env (eval o X.env)=eval o X.env:=by rfl) (hline:(apos.endLine == cpos.line)=true:=by rfl):DE X (.Call (.Attribute o "bit_length" apos) [] [] cpos) (Uc t):=by
 obtain ⟨t1,p1,l1⟩:=ho
 refine ⟨_,lG (T:="int") PySem.F.plainAttrs_int PySem.F.slot_int_bit_length PySem.F.type_int_bit_length ax p1 hbase hline,fun ρ σ H Q r h R k=>l1 ρ σ H _ r h _ fun d v H1 s1 i1 ⟨i,e,q⟩=>?_⟩
 subst e
 obtain rfl:=is_int.mp i1
 exact ⟨rfl,i,rfl,rfl,k _ _ H1 s1 (is_int.mpr rfl) q⟩
def cN (i j:Int):Prop:=j ≠ 0∧Builtin.divisionGoesByPylong i j=false
theorem bv:DOp X (binaryOp .FloorDiv) (gIC cN fun i j=>.int (i.fdiv j)):=rM (C:=cN) (opI fun _ _ _ _ _ _ _ hc q=>floordiv_int hc.1 q (.inl hc.2))
theorem Uf {c n:Int} (h0:n ≠ 0) (h:n.natAbs < 2 ^ 9000):cN c n:=⟨h0,PyProof.noPylong_of_log2 ((Nat.log2_lt (by omega)).mpr h)⟩
def ZJ (t u:DTS):DTS:=fun D ρ=>∃ P:DS→Prop,t { D with nx:=P } ρ∧∀ ρ',P ρ'→u D ρ'
theorem yb {sst:Stmt} {yz:List Stmt} {t u:DTS} (h1:DSt X fr sst t) (h2:DSs X fr yz u):DSs X fr (sst :: yz) (ZJ t u):=by
 obtain ⟨ts,p1,l1⟩:=h1
 obtain ⟨us,p2,l2⟩:=h2
 refine ⟨_,nD p1 p2,fun W0 G ρ σ W D D' a s h=>?_⟩
 obtain ⟨P,h,k⟩:=h
 exact l1 W0 G ρ σ W { D with nx:=P } { D' with nx:=us D' } a ⟨fun ρ' σ' W' a' q=>l2 W0 G ρ' σ' W' D D' a' s (k ρ' q),s.tl,s.bk,s.ct⟩ h
end
end OD
namespace OD
open PySem PySem.Spec PyProof.Rows L2
section
variable {X:Cx} {ta:DTE} {pos p0:Pos}
end
end OD
namespace OD
variable {Z:Hp}
open PySem PySem.Spec PyProof.Rows L2
section
variable {X:Cx} {K:PySem.W.Frag} {H:Hp}
def gS (f:Str→Str→Dt):Dt→Dt→(Dt→Prop)→Prop:=fun d e Q=>∃ x y,d=.str x∧e=.str y∧Q (f x y)
theorem mQ {x y:Str}:decide (V.str x=V.str y)=(x == y):=by
 rw [Bool.eq_iff_iff]
 simp
theorem yP:DOp X (compareOp .Eq) (gS fun x y=>.bl (x == y)):=by
 refine ⟨_,W8,fun H x y d e Q i1 i2 ⟨a,b,ed,ee,q⟩ R k=>?_⟩
 subst ed
 subst ee
 obtain rfl:=is_str.mp i1
 obtain rfl:=is_str.mp i2
 refine ⟨rfl,?_⟩
 rw [mQ]
 exact k _ _ H (Le.refl H) (is_bl.mpr rfl) q
theorem Vc:DOp X (compareOp .NotEq) (gS fun x y=>.bl (!(x == y))):=by
 refine ⟨_,WY,fun H x y d e Q i1 i2 ⟨a,b,ed,ee,q⟩ R k=>?_⟩
 subst ed
 subst ee
 obtain rfl:=is_str.mp i1
 obtain rfl:=is_str.mp i2
 refine ⟨rfl,?_⟩
 rw [mQ]
 exact k _ _ H (Le.refl H) (is_bl.mpr rfl) q
def sA:List Dt→Option (List Str)
 | []=>some []
 | .str i :: r=>(sA r).map (i :: ·)
 | _=>none
theorem rT:∀ {ds:List Dt} {ns:List Str} {xs:List V},sA ds=some ns→AllIs K H ds xs→xs=ns.map V.str
 | [],ns,xs,e,h=>by
  cases e
  exact allIs_nil.mp h
 | d :: ds,ns,xs,e,h=>by
  cases d with
  | str i=>
   obtain ⟨ms,e1,e2⟩:=Option.map_eq_some_iff.mp (show (sA ds).map (i :: ·)=some ns from e)
   obtain ⟨x,r,rfl,h1,h2⟩:=allIs_cons.mp h
   rw [rT e1 h2,is_str.mp h1,← e2]
   rfl
  | _=>cases e
theorem mE (i:Str):∀ ns:List Str,inV (.str i) (ns.map V.str)=ns.any fun a=>a == i
 | []=>rfl
 | n :: ns=>by
  have ih:=mE i ns
  unfold inV at ih ⊢
  rw [List.map_cons,List.any_cons,List.any_cons,ih]
  rfl
theorem pF:∀ ns:List Str,(ns.map V.str).all wB=true
 | []=>rfl
 | n :: ns=>by rw [List.map_cons,List.all_cons,pF ns]; rfl
theorem fO:DOp X (compareOp .In) (fun d e Q=>∃ i ds ns,d=.str i∧nr e=some ds∧sA ds=some ns∧Q (.bl (ns.any fun a=>a == i))):=by
 refine ⟨_,iF,fun H x y d e Q i1 i2 q R k=>?_⟩
 obtain ⟨i,ds,ns,rfl,e1,e2,q⟩:=q
 obtain ⟨p,xs,rfl,h1,h2⟩:=pZ i2 e1
 obtain rfl:=rT e2 h2
 obtain rfl:=is_str.mp i1
 refine ⟨p,_,rfl,h1,rfl,pF ns,?_⟩
 show R (.bl (inV (.str i) (ns.map V.str))) H.h
 rw [mE]
 exact k _ _ H (Le.refl H) (is_bl.mpr rfl) q
end
section
variable {X:Cx} {fr:Fr} {te:DTE} {tb:DTS} {pos p0 p1 p2:Pos}
end
end OD
namespace OD
variable {Z:Hp}
open PySem PySem.Spec PyProof.Rows L2
def sf (σ:St) (js:List Nat):St:=js.map fun j=>(σ[j]?).getD none
section
variable {X:Cx} {pins:List (Addr × Obj)} {σ:St} {H:Hp} {s:Shared} {scope:Scope} {cl:List (Str × Addr)} {x:Str} {caps:List Str} {js:List Nat} {fp:List Addr}
end
def vF (cells:List (Str × Addr)) (names:List (Str × NameKind)):List (Str × Addr):=(names.filterMap fun y=>if y.2 == .free then (cells.lookup y.1).map (y.1,·) else none).reverse
theorem rq {α:Type} {y:Str} {c:α}:∀ {l:List (Str × α)},(y,c) ∈ l→∃ c',l.lookup y=some c'
 | [],h=>nomatch h
 | (z,d) :: r,h=>by
  rw [List.lookup_cons]
  cases q:y == z with
  | true=>exact ⟨d,rfl⟩
  | false=>
   rcases List.mem_cons.mp h with e | e
   ·cases e
    rw [beq_self_eq_true] at q
    cases q
   ·exact rq e
theorem mem_clOf {cells:List (Str × Addr)} {names:List (Str × NameKind)} {y:Str} {c:Addr}:(y,c) ∈ vF cells names ↔ (y,NameKind.free) ∈ names∧cells.lookup y=some c:=by
 unfold vF
 rw [List.mem_reverse,List.mem_filterMap]
 constructor
 ·rintro ⟨⟨z,k⟩,hz,e⟩
  split at e
  ·rename_i hk
   obtain rfl:=eq_of_beq hk
   obtain ⟨d,hd,e⟩:=Option.map_eq_some_iff.mp e
   cases e
   exact ⟨hz,hd⟩
  ·cases e
 ·rintro ⟨h1,h2⟩
  exact ⟨(y,.free),h1,by show Option.map _ (List.lookup y cells)=_; rw [h2]; rfl⟩
theorem aZ {scope:Scope} {env:Env} (h:∀ y,(y,NameKind.free) ∈ scope.names→∃ c,env.cells.lookup y=some c):closureFor scope env=pure (vF env.cells scope.names):=by
 have key:∀ (names:List (Str × NameKind)) (acc:List (Str × Addr)),(∀ y,(y,NameKind.free) ∈ names→∃ c,env.cells.lookup y=some c)→
   (forIn names acc fun x r=>(if x.2 == NameKind.free then do let c ← cellOf env x.1; pure (ForInStep.yield ((x.1,c) :: r)) else pure (ForInStep.yield r):Sem (ForInStep (List (Str × Addr)))))=(pure (vF env.cells names ++ acc):Sem (List (Str × Addr))):=by
  intro names
  induction names with
  | nil=>intro acc _; rfl
  | cons a r ih=>
   intro acc ha
   obtain ⟨n,k⟩:=a
   rw [List.forIn_cons]
   cases hk:k == NameKind.free with
   | true=>
    obtain rfl:=eq_of_beq hk
    obtain ⟨c,hc⟩:=ha n List.mem_cons_self
    have e1:cellOf env n=pure c:=by unfold cellOf; rw [hc]
    have e2:vF env.cells ((n,NameKind.free) :: r)=vF env.cells r ++ [(n,c)]:=by
     unfold vF
     rw [List.filterMap_cons_some (b:=(n,c)) (by show Option.map _ (List.lookup n env.cells)=_; rw [hc]; rfl),List.reverse_cons]
    show (do let c ← cellOf env n; pure (ForInStep.yield ((n,c) :: acc)):Sem _) >>= _=_
    rw [e1,pure_bind,pure_bind,e2,List.append_assoc]
    exact ih ((n,c) :: acc) fun y hy=>ha y (List.mem_cons_of_mem _ hy)
   | false=>
    have e2:vF env.cells ((n,k) :: r)=vF env.cells r:=by
     unfold vF
     rw [List.filterMap_cons_none (by show (if (k == NameKind.free)=true then _ else none)=none; rw [hk]; rfl)]
    show (pure (ForInStep.yield acc):Sem _) >>= _=_
    rw [pure_bind,e2]
    exact ih acc fun y hy=>ha y (List.mem_cons_of_mem _ hy)
 have:=key scope.names [] h
 rw [List.append_nil] at this
 unfold closureFor
 rw [← this]
 exact (bind_pure _).trans rfl
theorem yQ {env:Env} (hk:env.scope.kind=.function):∀ {names:List (Str × NameKind)} {x:Str},names.lookup x=some .free→env.scope.names.lookup x=some .cell→
  (names.map fun (n,k)=>if (k == NameKind.free && env.scope.kind == .function && env.kindOf n == some .cell) then (n,NameKind.cell) else (n,k)).lookup x=some .cell
 | [],_,h,_=>by simp at h
 | (n,k) :: r,x,h,he=>by
  have ih:=@yQ env hk r x
  show List.lookup x ((if (k == NameKind.free && env.scope.kind == .function && env.kindOf n == some .cell)=true then (n,NameKind.cell) else (n,k)) :: _)=_
  cases hx:x == n with
  | true=>
   obtain rfl:=eq_of_beq hx
   simp only [List.lookup_cons,hx] at h
   cases h
   have e:env.kindOf x=some .cell:=he
   rw [hk,e]
   simp [List.lookup_cons]
  | false=>
   simp only [List.lookup_cons,hx] at h
   by_cases hc:(k == NameKind.free && env.scope.kind == .function && env.kindOf n == some .cell)=true
   ·rw [if_pos hc]; simp only [List.lookup_cons,hx]; exact ih h he
   ·rw [if_neg hc]; simp only [List.lookup_cons,hx]; exact ih h he
def rS (ρ:DS) (js:List Nat):DS:=js.map fun j=>match (ρ[j]?:Option Sl) with
 | Option.some (Sl.some d)=>Sl.some d
 | _=>Sl.none
section
variable {X:Cx} {fr:Fr} {osc scope:Scope} {x:Str} {caps:List Str} {js:List Nat} {N0:List Str} {L:Addr} {a elt:Expr} {ta te:DTE} {px p0 pos pos1:Pos}
end
section
variable {X:Cx} {a:Expr} {p0 pos:Pos}
end
end OD
namespace OD
variable {Z:Hp}
open PySem PySem.Spec PyProof.Rows L2
section
variable {X:Cx} {fr:Fr} {osc scope:Scope} {x:Str} {caps:List Str} {js:List Nat} {N0:List Str} {L:Addr} {iter elt:Expr} {ta te:DTE} {px pos:Pos}
end
end OD
namespace L2
open PySem PySem.Spec PyProof.Rows
section
variable {P:Program} {w:World} {H H':Hp} {h B:Heap}
theorem HOk.part (x:HOk P w H h) (k:∀ b u,H b ≠ none→h.get? b=some u→B.get? b=some u):HOk P w H B:=fun a o e=>
 (x a o e).stay (fun b u hb q=>k b u (fun z=>by rcases hb with rfl | y; (rw [e] at z; cases z); (rw [y] at z; cases z)) q) (fun _ q=>q) fun _ _ q=>q
theorem ObjOk.there {a:Addr} {o:HO} (x:ObjOk P w H h a o):∃ u,h.get? a=some u:=by
 cases o with
 | lst xs=>obtain ⟨_,_,_,_,e⟩:=x; exact ⟨_,e⟩
 | tup xs=>obtain ⟨_,_,_,o,e,_⟩:=x; exact ⟨_,e⟩
 | dK kvs=>obtain ⟨_,_,_,_,o,_,_,e,_⟩:=x; exact ⟨_,e⟩
 | dT kvs=>obtain ⟨_,_,_,_,o,_,_,e,_⟩:=x; exact ⟨_,e⟩
 | set S n=>obtain ⟨o,_,_,_,e,_⟩:=x; exact ⟨_,e⟩
 | ins C dx fs=>obtain ⟨_,_,_,e,_⟩:=x; exact ⟨_,e⟩
 | own y=>exact x
 | xd fs=>obtain ⟨_,⟨_,_,_,e,_⟩,_⟩:=x; exact ⟨_,e⟩
 | rng lo hi=>obtain ⟨_,_,_,e⟩:=x; exact ⟨_,e⟩
 | frz ob u=>obtain ⟨e,_⟩:=x; exact ⟨_,e⟩
 | tbl ps=>exact ⟨_,(show h.get? a=some _ from x)⟩
 | met f y=>exact ⟨_,(show h.get? a=some _ from x)⟩
 | ext φ=>obtain ⟨_,e,_⟩:=x; exact e
end
structure Flies (P:Program) (w:World) (stack:List Env) (H:Hp) (h0:Heap) (H':Hp) (e:Addr) (cls:Value) (h:Heap):Prop where
 ex:∃ B a0,Heap.FlyingW B stack e cls a0 h∧(∀ b o,h0.get? b=some o→H b=none→b ∉ frs stack→B.get? b=some o)∧(∀ b o,h0.get? b=some o→b ∉ frs stack→∃ o',B.get? b=some o')∧HOk P w H' B
 slot:∀ b o,h0.get? b=some o→b ∈ frs stack→∃ sl,h.get? b=some { o with slots:=sl }
 free:∀ b o,h0.get? b=some o→H b=none→H' b=none
 tups:∀ b xs,H b=some (.tup xs)→H' b=some (.tup xs)
 frzs:∀ b o u,H b=some (.frz o u)→H' b=some (.frz o u)
 tbls:∀ b ps,H b=some (.tbl ps)→∃ more,H' b=some (.tbl (ps ++ more))
 new:h0.get? e=none
section
variable {P:Program} {w:World} {stack:List Env} {H H':Hp} {h0 h:Heap} {e:Addr} {cls:Value}
theorem Flies.un (f:Flies P w stack H h0 H' e cls h):Un (frs stack) [] H H' h0 h:=by
 obtain ⟨B,a0,⟨st,_,_,_⟩,k1,k2,_⟩:=f.ex
 refine ⟨fun b o q n hb _=>st b o (k1 b o q n hb),fun b o q _ hb _=>f.slot b o q hb,fun b o q n _=>f.free b o q n,fun b o q _=>?_,f.tups,f.frzs,f.tbls⟩
 by_cases hb:b ∈ frs stack
 ·obtain ⟨sl,z⟩:=f.slot b o q hb
  exact ⟨_,z⟩
 ·obtain ⟨o',z⟩:=k2 b o q hb
  exact ⟨o',st b o' z⟩
theorem Flies.hok (f:Flies P w stack H h0 H' e cls h):HOk P w H' h:=by
 obtain ⟨B,a0,⟨st,_,_,_⟩,_,_,k3⟩:=f.ex
 exact k3.kept st
theorem Flies.out (f:Flies P w stack H h0 H' e cls h):H' e=none:=by
 obtain ⟨B,a0,⟨st,n,_,_⟩,_,_,k3⟩:=f.ex
 cases q:H' e with
 | none=>rfl
 | some o=>
  obtain ⟨u,z⟩:=(k3 e o q).there
  rw [n] at z; cases z
theorem Flies.go (f:Flies P w stack H h0 H' e cls h):∃ B a0,Heap.FlyingW B stack e cls a0 h∧∀ h',Heap.FlyingW B stack e cls a0 h'→h.UpToSlots h'→Flies P w stack H h0 H' e cls h':=by
 obtain ⟨B,a0,fl,k1,k2,k3⟩:=f.ex
 refine ⟨B,a0,fl,fun h' fl' up=>⟨⟨B,a0,fl',k1,k2,k3⟩,fun b o q hb=>?_,f.free,f.tups,f.frzs,f.tbls,f.new⟩⟩
 obtain ⟨sl,z⟩:=f.slot b o q hb
 obtain ⟨_,ob,ho,hd⟩:=fl.2.2.1.mem hb
 rw [z] at ho
 cases ho
 obtain ⟨sl',z'⟩:=up b _ z hd
 exact ⟨sl',z'⟩
end
section
variable {X:Cx} {pins:List (Addr × Obj)} {σ:St} {H H':Hp} {s s':Shared} {M:Model} {E:Value→Shared→Prop} {e:Addr} {cls:Value}
theorem Inv.neL (I:Inv X pins σ H s) {b:Addr} {o:Obj} (q:X.s₀.heap.get? b=some o):b ≠ X.env.locals:=Nat.ne_of_lt (Nat.lt_of_lt_of_le (Heap.lt_size q) I.ok.above)
theorem dL {vs:List Value} {h1:Heap} {Q:Unit→Shared→Prop} (I:Inv X pins σ H s) (hstk:X.stack=X.env :: X.outer) (hf:X.env.frame=some X.env.locals) (hex:X.ex=[]) (hx:Heap.MadeExcOf s.heap h1 e cls vs)
  (hQ:∀ h',Flies X.prog X.w X.outer X.H₀ X.s₀.heap H e cls h'→Q () { s with heap:=h' }):wpAny M X.A (leaving X.env (.ref e)) Q E { s with heap:=h1 }:=by
 have hfr:X.A.frames=some (X.env :: X.outer):=by rw [← hstk]; exact I.ok.frames
 have hfs:frs X.stack=X.env.locals :: frs X.outer:=by rw [hstk]; unfold frs; rw [List.filterMap_cons,hf]
 have hl:s.heap.FunFrames (PySem.W.hideAll s.heap (frs X.stack)) (X.env :: X.outer):=by
  have z:=I.stack
  rw [hstk] at z
  refine PySem.W.funFrames_hide z fun env he a ha=>?_
  rw [hstk]
  exact List.mem_filterMap.mpr ⟨env,he,ha⟩
 have nx:∀ b,b ∉ X.ex:=fun b z=>by rw [hex] at z; cases z
 have nst:∀ b o,X.s₀.heap.get? b=some o→b ∉ frs X.outer→b ∉ frs X.stack:=fun b o q nb z=>by
  rw [hfs] at z
  rcases List.mem_cons.mp z with z | z
  ·exact I.neL q z
  ·exact nb z
 refine PySem.wpAny_leaves_madeW (s:={ s with heap:=h1 }) (h:=s.heap) (base:=PySem.W.hideAll s.heap (frs X.stack)) hfr hf (fun b o q=>PySem.W.of_hideAll _ q) hl hx fun h' t x1 x2 x3 x4=>hQ h' ⟨⟨_,_,x1,fun b o q n nb=>?_,fun b o q nb=>?_,?_⟩,fun b o q hb=>?_,fun b o q n=>I.base.free b o q n (nx b),I.base.tups,I.base.frzs,I.base.tbls,?_⟩
 ·exact PySem.W.hideAll_get _ (I.base.keep b o q n nb (nx b)) (nst b o q nb)
 ·obtain ⟨o',z⟩:=I.base.there b o q (nx b)
  exact ⟨o',PySem.W.hideAll_get _ z (nst b o q nb)⟩
 ·exact I.hok.part fun b u hb q=>PySem.W.hideAll_get _ q fun z=>hb (I.stkFree b z)
 ·obtain ⟨sl,z⟩:=I.base.slot b o q (I.ok.frf b hb) hb (nx b)
  obtain ⟨_,ob,ho,hd⟩:=I.funs.mem hb
  rw [z] at ho
  cases ho
  obtain ⟨sl',z'⟩:=x4 b _ (hx.keeps b _ z) hd
  exact ⟨sl',z'⟩
 ·cases q:X.s₀.heap.get? e with
  | none=>rfl
  | some o=>
   obtain ⟨o',z⟩:=I.base.there e o q (nx e)
   rw [hx.new] at z; cases z
theorem X4 {Q:Unit→Shared→Prop} (I:Inv X pins σ H s) (hstk:X.stack=X.env :: X.outer) (hf:X.env.frame=some X.env.locals) (hex:X.ex=[]) (f:Flies X.prog X.w X.stack H s.heap H' e cls s'.heap)
  (hQ:∀ h',Flies X.prog X.w X.outer X.H₀ X.s₀.heap H' e cls h'→Q () { s' with heap:=h' }):wpAny M X.A (leaving X.env (.ref e)) Q E s':=by
 have hfr:X.A.frames=some (X.env :: X.outer):=by rw [← hstk]; exact I.ok.frames
 have hfs:frs X.stack=X.env.locals :: frs X.outer:=by rw [hstk]; unfold frs; rw [List.filterMap_cons,hf]
 have nx:∀ b,b ∉ X.ex:=fun b z=>by rw [hex] at z; cases z
 have nst:∀ b o,X.s₀.heap.get? b=some o→b ∉ frs X.outer→b ∉ frs X.stack:=fun b o q nb z=>by
  rw [hfs] at z
  rcases List.mem_cons.mp z with z | z
  ·exact I.neL q z
  ·exact nb z
 obtain ⟨B,a0,fl,k1,k2,k3⟩:=f.ex
 have fl':=fl
 rw [hstk] at fl'
 refine PySem.wpAny_leaves_onW hfr hf fl' fun h' x1 x2=>hQ h' ⟨⟨B,a0,x1,fun b o q n nb=>?_,fun b o q nb=>?_,k3⟩,fun b o q hb=>?_,fun b o q n=>?_,fun b xs q=>f.tups b xs (I.base.tups b xs q),fun b o u q=>f.frzs b o u (I.base.frzs b o u q),fun b ps q=>?_,?_⟩
 ·exact k1 b o (I.base.keep b o q n nb (nx b)) (I.base.free b o q n (nx b)) (nst b o q nb)
 ·obtain ⟨o',z⟩:=I.base.there b o q (nx b)
  exact k2 b o' z (nst b o q nb)
 ·obtain ⟨sl,z⟩:=I.base.slot b o q (I.ok.frf b hb) hb (nx b)
  have hb':b ∈ frs X.stack:=by rw [hfs]; exact List.mem_cons_of_mem _ hb
  obtain ⟨sl',z'⟩:=f.slot b _ z hb'
  obtain ⟨_,ob,ho,hd⟩:=fl.2.2.1.mem hb'
  rw [z'] at ho
  cases ho
  obtain ⟨sl2,z2⟩:=x2 b _ z' hd
  exact ⟨sl2,z2⟩
 ·obtain ⟨o',z⟩:=I.base.there b o q (nx b)
  exact f.free b o' z (I.base.free b o q n (nx b))
 ·obtain ⟨m1,e1⟩:=I.base.tbls b ps q
  obtain ⟨m2,e2⟩:=f.tbls b _ e1
  exact ⟨m1 ++ m2,by rw [e2,Array.append_assoc]⟩
 ·cases q:X.s₀.heap.get? e with
  | none=>rfl
  | some o=>
   obtain ⟨o',z⟩:=I.base.there e o q (nx e)
   rw [f.new] at z; cases z
end
def ExcK (K:PySem.W.Frag) (C:Addr):Prop:=PySem.W.excIn K C [.type "ValueError",.type "Exception",.type "BaseException",.type "object"] "ValueError.__new__"=true
theorem aI {K:PySem.W.Frag} {h:Heap} {C:Addr} (X:K.In h) (q:ExcK K C):∃ bm N nm qn bs hdct sn sub ab col dd k0 k1 k2 k3 k5 mN,h.get? C=some (excClassObj nm qn C N bs bm hdct sn sub ab col dd k0 k1 k2 k3 k5 "ValueError.__new__")∧h.Ns N mN∧mN "__init__"=none∧OwnTail h [.type "ValueError",.type "Exception",.type "BaseException",.type "object"] bm:=by
 unfold ExcK PySem.W.excIn at q
 split at q
 ·rename_i d1 cl s1 look
  split at q
  ·rename_i C1 tl w0 w1 w2 w3 nid w5 em es
   simp only [Bool.and_eq_true,Bool.not_eq_true',beq_iff_eq] at q
   obtain ⟨⟨⟨⟨⟨rfl,rfl⟩,q1⟩,q2⟩,q3⟩,q4⟩:=q
   obtain ⟨a1,a2,a3,a4,a5,a6,a7,a8,a9,b1,b2⟩:=cl
   dsimp only at em q1 q3 q4
   subst em q1
   obtain rfl:s1=#[w0,w1,w2,w3,some (.builtin "ValueError.__new__"),w5]:=by
    obtain ⟨l⟩:=s1
    simp only at es; rw [es]
   exact ⟨tl,a4,a1,a5,a2,a6,a7,a8,a9,b1,d1,w0,w1,w2,w3,w5,_,X _ _ look,.of_isNs (PySem.W.isNs_of_in X q3),PySem.W.nsMap_none_of_in X q3 q4,PySem.W.tail_of_in X q2⟩
  ·cases q
 ·cases q
def XOk (X:Cx) (C:Addr) (H:Hp):Prop:=∀ (pins:List (Addr × Obj)) (σ:St) (s:Shared) (h1:Heap) (e:Addr) (vs:List Value),Inv X pins σ H s→Heap.MadeExcOf s.heap h1 e (.ref C) vs→X.xe (.ref e) { s with heap:=h1 }
def Z2 (X:Cx) (C:Addr) (te:TE):TS:=fun _ σ H=>te σ H fun _ H1=>XOk X C H1
theorem fC {X:Cx} {C:Addr} {x:Str} {a:Expr} {te:TE} {np cpos pos:Pos} (hc:X.calm=true) (hg:Gl X x) (hm:X.mg x=some (.ref C)) (hC:ExcK X.K C) (ha:PE X a te)
  (hdb:(x == ("__debug__":Str))=false:=by decide) (he:starEach [a] X.env=(false,eval a X.env) :: starEach [] X.env:=by rfl):PS X (.Raise (some (.Call (.Name x np) [a] [] cpos)) none pos) (Z2 X C te):=by
 intro pins s σ H D I h
 obtain ⟨bm,N,nm,qn,bs,hdct,sn,sub,ab,col,dd,k0,k1,k2,k3,k5,mN,hO,hN,hni,T⟩:=aI I.ok.mod.kin hC
 refine PySem.wpAny_Raise_call_subU (C:=C) (nm:=nm) (q:=qn) (N:=N) (bs:=bs) (bm:=bm) (hdct:=hdct) (sn:=sn) (sub:=sub) (ab:=ab) (col:=col) (dd:=dd) (k0:=k0) (k1:=k1) (k2:=k2) (k3:=k3) (k5:=k5)
  PySem.F.excBase_ValueError (by decide) PySem.F.excBase_ValueError (mN:=mN) (T.hasType PySem.F.excBase_ValueError.hasBase) (I.ok.hd hc) (by rw [he]; rfl) hni (x6 I hg hm ⟨rfl,?_⟩ hdb)
 have z:=zQ ha yM he cpos pins s σ H (fun us H1=>us.length=1∧XOk X C H1) I (show te σ H (fun x H1=>[x].length=1∧XOk X C H1) from by
  have h:te σ H (fun _ H1=>XOk X C H1):=h
  simpa using h)
 rw [he] at z ⊢
 refine Calls.evalArgs_plain (thn z fun vs s1 ⟨us,H1,I1,r,hl,q⟩=>⟨rfl,?_,I1.bk _ _ hO,hN.keeps I1.bk,T.keeps I1.bk,fun h' e hx=>q pins σ s1 h' e vs I1 hx⟩)
 show vs.length ≤ _
 rw [← r.length,hl]
 decide
def CX1 (P:Program) (w:World):CXT:=fun outer H s E e s'=>∃ a C H',e=.ref a∧s'.os=s.os∧AllBare s'.gens∧Flies P w outer H s.heap H' a (.ref C) s'.heap∧E (.ref C) none H'
section
variable {P:Program} {w:World} {K:PySem.W.Frag} {mg:Str→Option Value} {base:Heap} {N:List Str} {qual:Str} {scope:Scope} {f C:Addr} {cd:Value} {A:Around} {outer:List Env} {s:Shared} {H H1:Hp} {E:XK}
theorem ZS (h:E (.ref C) none H1):XOk (yC (CX1 P w) P w K mg base N qual scope f cd A outer s H E) C H1:=fun pins σ s' h1 e vs I hx=>
 dL (X:=yC (CX1 P w) P w K mg base N qual scope f cd A outer s H E) I rfl rfl rfl hx fun h' fl=>⟨e,C,H1,rfl,I.os,I.bare,fl,h⟩
theorem QG:PassesOwn (model P w) (A.deeper (envOfC qual scope s.heap.objs.size f cd)) (envOfC qual scope s.heap.objs.size f cd) (yC (CX1 P w) P w K mg base N qual scope f cd A outer s H E).xe:=PassesOwn.leaving
end
section
variable {X:Cx} {CX:CXT} {k:Nat} {f C:Addr} {fd:FuncData} {ps:List Str} {sp:Sp} {dvs:List V} {ds:List Value} {x y:Str} {p pos:Pos} {e:Expr} {es:List Expr} {t:TA}
def XPx (X:Cx) (pins:List (Addr × Obj)) (σ:St) (E:XK) (e:Value) (s':Shared):Prop:=∃ a C H' H1 s1,e=.ref a∧Inv X pins σ H1 s1∧s'.os=s1.os∧AllBare s'.gens∧Flies X.prog X.w X.stack H1 s1.heap H' a (.ref C) s'.heap∧E (.ref C) none H'
theorem cr (F:FnOk X.prog X.w X.K X.mg X.base (CX1 X.prog X.w) k f fd ps sp) (hr:Room k X.A) (hg:Gl X x) (hm:X.mg x=some (.ref f)) (hk:PySem.W.keepIn X.K (.ref f)=true) (hb:Binds X.K fd ps [])
  (ha:PA X.nox (e :: es) t) {pins:List (Addr × Obj)} {s:Shared} {σ:St} {H:Hp} {Q:VK} {E:XK} (I:Inv X pins σ H s) (h:t σ H fun vs H1=>sp vs H1 Q E)
  (hdb:(x == ("__debug__":Str))=false:=by decide) (he:starEach (e :: es) X.env=(false,eval e X.env) :: starEach es X.env:=by rfl) (hpl:(backTo pos (starEach es X.env)).any (·.1)=false:=by rfl):
  wpAny (model X.prog X.w) X.A (eval (.Call (.Name x p) (e :: es) [] pos) X.env) (EP X pins σ Q) (XPx X pins σ E) s:=by
 refine wpAny_Call_Name_kw (x6 I hg hm ?_ hdb)
 refine PySem.W.callWith_K (h₀:=X.base) I.ok.mod.kin hk (wpAny_mono (ha pos pins s σ H _ (I.wish _) h) (fun us s1 ⟨vs,H1,I1,r,q⟩=>⟨I1.unwish.kIn,?_⟩) fun _ _ z=>z.elim) he hpl
 have I1:=I1.unwish
 have hl:us.length=ps.length:=by rw [← r.length]; exact F.len _ _ _ _ q
 refine wpAny_call (codeAny_mono (F.run X.A X.stack s1 H1 ⟨us,[]⟩ us vs Q E hr I1.env0 ?_ r q) fun rr s' hq=>?_)
 ·have z:=hb s1 us I1.kIn (by rw [List.append_nil]; exact hl)
  rw [List.append_nil] at z
  exact z
 cases rr with
 | error e=>
  obtain ⟨a,C,H',ee,os,bare,fl,z⟩:=hq
  exact ⟨a,C,H',H1,s1,ee,I1,os,bare,fl,z⟩
 | ok fl=>
  cases fl with
  | ret u=>exact I1.after hq
  | next=>exact False.elim hq
  | brk=>exact False.elim hq
  | cont=>exact False.elim hq
end
abbrev TB:=(St→Hp→Prop)→XK→St→Hp→Prop
def PB (X:Cx) (body:List Stmt) (t:TB):Prop:=∀ (pins:List (Addr × Obj)) (s:Shared) (σ:St) (H:Hp) (nx:St→Hp→Prop) (E:XK),Inv X pins σ H s→t nx E σ H→
 wpAny (model X.prog X.w) X.A (execs body X.env) (fun f s'=>f=.next∧∃ σ' H',Inv X pins σ' H' s'∧nx σ' H') (XPx X pins σ E) s
def Cx.inH (X:Cx) (a:Addr):Cx:={ X with A:=X.A.mark (some (.ref a)),calm:=false,xe:=fun _ _=>False }
section
variable {X:Cx} {pins:List (Addr × Obj)} {σ:St} {H:Hp} {s:Shared} {a:Addr}
theorem Inv.inH (I:Inv X pins σ H s) (a:Addr):Inv (X.inH a) pins σ H s:=
 ⟨⟨I.ok.mod,I.ok.kind,I.ok.glob,I.ok.blt,I.ok.above,I.ok.inj,I.ok.has,I.ok.cab,fun z=>Bool.noConfusion z,I.ok.frames,I.ok.stk,I.ok.exf,I.ok.bs,I.ok.bsz,I.ok.noex,I.ok.exfs,I.ok.funs,I.ok.frf⟩,I.os,I.bare,I.base,I.loc,I.cell,I.free,I.freeC,I.pin,I.hok,I.len⟩
theorem Inv.outH (ok:X.Ok) (I:Inv (X.inH a) pins σ H s):Inv X pins σ H s:=⟨ok,I.os,I.bare,I.base,I.loc,I.cell,I.free,I.freeC,I.pin,I.hok,I.len⟩
theorem SP.outH {D:Ends} {f:Flow} {s':Shared} (ok:X.Ok) (h:SP (X.inH a) pins D f s'):SP X pins D f s':=by
 cases f with
 | next=>obtain ⟨σ',H',I,q⟩:=h; exact ⟨σ',H',I.outH ok,q⟩
 | brk=>obtain ⟨σ',H',I,q⟩:=h; exact ⟨σ',H',I.outH ok,q⟩
 | cont=>obtain ⟨σ',H',I,q⟩:=h; exact ⟨σ',H',I.outH ok,q⟩
 | ret u=>obtain ⟨v,σ',H',I,r,q⟩:=h; exact ⟨v,σ',H',I.outH ok,r,q⟩
end
section
variable {X:Cx} {t:TB} {th:TS} {y:Str} {c:Value} {py hpos pos:Pos} {body:List Stmt} {b₀:Stmt} {suite:List Stmt}
def QB (K:PySem.W.Frag) (c:Value) (t:TB) (th:TS):TS:=fun D σ H=>t D.nx (fun cls _ H'=>PySem.W.exmOne K cls c=some true∧th D σ H') σ H
theorem Yb (hstk:X.stack=X.env :: X.outer) (hf:X.env.frame=some X.env.locals) (hb:PB X body t) (hh:∀ a,PSs (X.inH a) (b₀ :: suite) th) (hg:Gl X y) (hm:X.mg y=some c) (hd:(y == ("__debug__":Str))=false:=by decide):
  PS X (.Try body [.ExceptHandler (some (.Name y py)) none (b₀ :: suite) hpos] [] [] pos) (QB X.K c t th):=by
 intro pins s σ H D I h
 have hfr:X.A.frames=some (X.env :: X.outer):=by rw [← hstk]; exact I.ok.frames
 refine wpAny_Try_except (wpAny_mono (hb pins s σ H _ _ I h) (fun f s1 ⟨ef,σ',H',I',q⟩=>?_) fun e s1 hx=>?_)
 ·subst ef
  exact wpAny_execs_nil ⟨σ',H',I',q⟩
 ·obtain ⟨a,C,H',H1,s2,rfl,I1,os,bare,fl,hex,hth⟩:=hx
  obtain ⟨B,a0,fl0,go⟩:=fl.go
  have inv:∀ h',Heap.FlyingW B X.stack a (.ref C) a0 h'→s1.heap.UpToSlots h'→Inv X pins σ H' { s1 with heap:=h' }:=fun h' x1 x2=>
   have f':=go h' x1 x2
   I1.call' (s':={ s1 with heap:=h' }) os f'.un f'.hok bare (fun _ z=>nomatch z)
  rw [hstk] at fl0
  refine wpAny_looks_onW hfr hf fl0 fun h4 held4 up4=>?_
  refine wpAny_landsW held4 fun h5 fl5 up5=>?_
  have I5:=inv h5 (by rw [hstk]; exact fl5) (up4.trans up5)
  obtain ⟨ob,hob,hoc⟩:=fl5.there
  have ty:PySem.W.Looks (model X.prog X.w) h5 (typeOf (.ref a)) (.ref C):=by rw [← hoc]; exact (PySem.W.Looks.ld hob).andThen .now
  refine wpAny_handleBy_cons (codeAny_handlers_test (x6 (X:=X.inH a) (I5.inH a) hg hm ((PySem.W.exm_one I5.kIn ty hex).here ?_) hd)) (by intro q; cases q)
  refine codeAny_handlers_suite ?_
  refine lands_againW fl5 fun h6 fl6 up6=>?_
  have I6:=inv h6 (by rw [hstk]; exact fl6) ((up4.trans up5).trans up6)
  exact wpAny_mono (hh a pins _ σ H' D (I6.inH a) hth) (fun f s3 q=>SP.outH I.ok q) fun _ _ z=>z.elim
end
section
variable {X:Cx} {pins:List (Addr × Obj)} {σ:St} {H:Hp} {s:Shared}
theorem wM {M:Model} {A:Around} {E:Value→Shared→Prop} {i:Nat} {x:Str} {pos:Pos} {Q:Unit→Shared→Prop} (I:Inv X pins σ H s) (hN:X.N.Nodup) (hi:X.N[i]? = some x) (hx:X.env.scope.names.lookup x=some .local)
  (h:∀ s',Inv X pins (σ.set i none) H s'→Q () s'):wpAny M A (do bindName X.env x .none; unbindBehindTheSuite X.env x pos) Q E s:=by
 have hcls:(X.env.scope.kind == .class || (X.env.scope.kind == .module && X.env.locals != X.env.globals))=false:=by rw [I.ok.kind]; rfl
 have hiσ:i < σ.length:=by rw [I.len]; exact (List.getElem?_eq_some_iff.mp hi).1
 refine wpAny_bind (wpAny_bindName (wl I hN hi (.inl hx) (v:=V.non) (u:=Value.none) rfl (fun s1 I1=>?_) (.inr hx)))
 obtain ⟨m,hn,hl⟩:=id I1.loc
 have hv:∃ v,m x=some v:=by
  obtain ⟨u,_,q⟩:=hl i x V.non hi (List.getElem?_set_self hiσ) (.inl hx)
  rcases q with ⟨_,z⟩ | ⟨k,_⟩
  ·exact ⟨u,z⟩
  ·have k:X.env.scope.names.lookup x=some .cell∨X.env.scope.names.lookup x=some .free:=k
   rw [hx] at k
   rcases k with k | k <;> cases k
 obtain ⟨v,hv⟩:=hv
 unfold unbindBehindTheSuite
 refine wpAny_onRaise (wpAny_unbindName_local hx hn hv hcls fun h' u hn' hs=>h _ ?_)
 obtain ⟨oL,_,_,hoL,_⟩:=id hn
 have cne:=I1.cne
 refine ⟨I1.ok,I1.os,I1.bare,⟨fun b o e n hb hx=>?_,fun b o e n hb hx=>?_,I1.base.free,fun b o e hx=>?_,I1.base.tups,I1.base.frzs,I1.base.tbls⟩,⟨_,hn',fun j y v' e1 e2 e3=>?_⟩,fun y c e=>?_,I1.free,I1.freeC,fun p hp=>?_,fun b ob e=>?_,by rw [List.length_set]; exact I.len⟩
 ·exact (hs.2 b (Nat.ne_of_lt (Nat.lt_of_lt_of_le (Heap.lt_size e) I1.ok.above))).trans (I1.base.keep b o e n hb hx)
 ·obtain ⟨sl,e1⟩:=I1.base.slot b o e n hb hx
  exact ⟨sl,(hs.2 b (Nat.ne_of_lt (Nat.lt_of_lt_of_le (Heap.lt_size e) I1.ok.above))).trans e1⟩
 ·obtain ⟨o',e1⟩:=I1.base.there b o e hx
  exact ⟨o',(hs.2 b (Nat.ne_of_lt (Nat.lt_of_lt_of_le (Heap.lt_size e) I1.ok.above))).trans e1⟩
 ·by_cases hj:j=i
  ·subst hj
   rw [List.getElem?_set_self hiσ] at e2
   cases e2
  ·rw [List.getElem?_set_ne (Ne.symm hj)] at e2
   obtain ⟨u',r',q⟩:=hl j y v' e1 (by rw [List.getElem?_set_ne (Ne.symm hj)]; exact e2) e3
   refine ⟨u',r',?_⟩
   rcases q with ⟨k,e⟩ | ⟨k,c,e,z⟩
   ·refine .inl ⟨k,?_⟩
    have:y ≠ x:=fun e=>hj (rn hN e1 (e ▸ hi))
    simp [this,e]
   ·exact .inr ⟨k,c,e,z.sameBut hs (cne y c e)⟩
 ·obtain ⟨w',z⟩:=I1.cell y c e
  exact ⟨w',z.sameBut hs (cne y c e)⟩
 ·obtain ⟨e,n,ne,nf,d⟩:=I1.pin p hp
  exact ⟨(hs.2 p.1 ne).trans e,n,ne,nf,d⟩
 ·refine (I1.hok b ob e).stay (fun c w' hc q=>(hs.2 c ?_).trans q) (fun _ q=>q) fun _ _ q=>q
  rintro rfl
  have fr:=I1.free
  rcases hc with rfl | hc
  ·rw [fr] at e; cases e
  ·rw [fr] at hc; cases hc
theorem Flies.track {P:Program} {w:World} {stack:List Env} {H':Hp} {h0 h:Heap} {e C:Addr} (f:Flies P w stack H h0 H' e (.ref C) h):Un (frs stack) [] H (upd H' e (.ext (OD.excAt e C))) h0 h∧HOk P w (upd H' e (.ext (OD.excAt e C))) h:=by
 have u:=f.un
 have out:=f.out
 obtain ⟨B,a0,fl,_⟩:=f.ex
 obtain ⟨ob,hob,hoc⟩:=fl.there
 have ne0:∀ b o,h0.get? b=some o→b ≠ e:=fun b o q z=>by rw [z,f.new] at q; cases q
 have ne1:∀ b o,H' b=some o→b ≠ e:=fun b o q z=>by rw [z,out] at q; cases q
 refine ⟨⟨u.keep,u.slot,fun b o q n hx=>by rw [zx (ne0 b o q)]; exact u.free b o q n hx,u.there,fun b xs q=>by rw [zx (ne1 b _ (u.tups b xs q))]; exact u.tups b xs q,fun b o v q=>by rw [zx (ne1 b _ (u.frzs b o v q))]; exact u.frzs b o v q,fun b ps q=>?_⟩,fun b o q=>?_⟩
 ·obtain ⟨m,z⟩:=u.tbls b ps q
  exact ⟨m,by rw [zx (ne1 b _ z)]; exact z⟩
 ·by_cases hb:b=e
  ·subst hb
   rw [zA] at q
   cases q
   exact ⟨⟨ob,hob,hoc⟩,⟨ob,hob⟩,fun h1 h2 ⟨o,ho,hc⟩ k=>⟨o,k o ho,hc⟩⟩
  ·rw [zx hb] at q
   exact (f.hok b o q).stay (fun _ _ _ z=>z) (fun c z=>by rw [zx (ne1 c _ z)]; exact z) fun c xs z=>by rw [zx (ne1 c _ z)]; exact z
end
section
variable {X:Cx} {t:TB} {th:TS} {y n:Str} {j:Nat} {c:Value} {py hpos pos:Pos} {body:List Stmt} {b₀:Stmt} {suite:List Stmt}
def Ends.off (D:Ends) (j:Nat):Ends:=⟨fun σ H=>D.nx (σ.set j none) H,D.rt,fun σ H=>D.bk (σ.set j none) H,fun σ H=>D.ct (σ.set j none) H⟩
def Z1 (K:PySem.W.Frag) (c:Value) (j:Nat) (t:TB) (th:TS):TS:=fun D σ H=>t D.nx (fun cls _ H'=>PySem.W.exmOne K cls c=some true∧∀ a C,cls=.ref C→H' a=none→th (D.off j) (σ.set j (some (.ref a))) (upd H' a (.ext (OD.excAt a C)))) σ H
theorem nE (hstk:X.stack=X.env :: X.outer) (hf:X.env.frame=some X.env.locals) (hN:X.N.Nodup) (hj:X.N[j]? = some n) (hn:X.env.scope.names.lookup n=some .local) (hb:PB X body t) (hh:∀ a,PSs (X.inH a) (b₀ :: suite) th) (hg:Gl X y) (hm:X.mg y=some c)
  (hd:(y == ("__debug__":Str))=false:=by decide):PS X (.Try body [.ExceptHandler (some (.Name y py)) (some n) (b₀ :: suite) hpos] [] [] pos) (Z1 X.K c j t th):=by
 intro pins s σ H D I h
 have hfr:X.A.frames=some (X.env :: X.outer):=by rw [← hstk]; exact I.ok.frames
 refine wpAny_Try_except (wpAny_mono (hb pins s σ H _ _ I h) (fun f s1 ⟨ef,σ',H',I',q⟩=>?_) fun e s1 hx=>?_)
 ·subst ef
  exact wpAny_execs_nil ⟨σ',H',I',q⟩
 ·obtain ⟨a,C,H',H1,s2,rfl,I1,os,bare,fl,hex,hth⟩:=hx
  obtain ⟨B,a0,fl0,go⟩:=fl.go
  have inv:∀ h',Heap.FlyingW B X.stack a (.ref C) a0 h'→s1.heap.UpToSlots h'→Inv X pins σ H' { s1 with heap:=h' }:=fun h' x1 x2=>
   have f':=go h' x1 x2
   I1.call' (s':={ s1 with heap:=h' }) os f'.un f'.hok bare (fun _ z=>nomatch z)
  rw [hstk] at fl0
  refine wpAny_looks_onW hfr hf fl0 fun h4 held4 up4=>?_
  refine wpAny_landsW held4 fun h5 fl5 up5=>?_
  have I5:=inv h5 (by rw [hstk]; exact fl5) (up4.trans up5)
  obtain ⟨ob,hob,hoc⟩:=fl5.there
  have ty:PySem.W.Looks (model X.prog X.w) h5 (typeOf (.ref a)) (.ref C):=by rw [← hoc]; exact (PySem.W.Looks.ld hob).andThen .now
  refine wpAny_handleBy_cons (codeAny_handlers_test (x6 (X:=X.inH a) (I5.inH a) hg hm ((PySem.W.exm_one I5.kIn ty hex).here ?_) hd)) (by intro q; cases q)
  refine codeAny_handlers_suite_as ?_
  refine lands_againW fl5 fun h6 fl6 up6=>?_
  have f6:=go h6 (by rw [hstk]; exact fl6) ((up4.trans up5).trans up6)
  have I6:Inv X pins σ (upd H' a (.ext (OD.excAt a C))) { s1 with heap:=h6 }:=I1.call' (s':={ s1 with heap:=h6 }) os f6.track.1 f6.track.2 bare (fun _ z=>nomatch z)
  refine wl (X:=X.inH a) (v:=V.ref a) (I6.inH a) hN hj (.inl hn) rfl (fun s7 I7=>?_) (.inr hn)
  refine wpAny_mono (hh a pins s7 _ _ (D.off j) I7 (hth a C rfl f6.out)) (fun f s3 q=>?_) fun _ _ z=>z.elim
  have q:=SP.outH I.ok q
  cases f with
  | next=>obtain ⟨σ',H',I',q⟩:=q; exact wM I' hN hj hn fun s' I''=>⟨_,H',I'',q⟩
  | brk=>obtain ⟨σ',H',I',q⟩:=q; exact wM I' hN hj hn fun s' I''=>⟨_,H',I'',q⟩
  | cont=>obtain ⟨σ',H',I',q⟩:=q; exact wM I' hN hj hn fun s' I''=>⟨_,H',I'',q⟩
  | ret u=>obtain ⟨v,σ',H',I',r,q⟩:=q; exact wM I' hN hj hn fun s' I''=>⟨v,_,H',I'',r,q⟩
end
end L2
namespace L2
open PySem PySem.Spec PyProof.Rows PySem.W PySem.Builtin PySem.Builtin.ObjectAttr PySem.Builtin.Getset_descriptor
structure tF (K:PySem.W.Frag) (C:Addr):Prop where
 ga:PySem.W.findIn K (.ref C) "__getattribute__"=some (some (.builtin "BaseException.__getattribute__"))
 gn:PySem.W.findIn K (.ref C) "__getattr__"=some none
 ha:PySem.W.findIn K (.ref C) "__class__"=some (some (.builtin "object.__class__"))
 hn:PySem.W.specialIn K (.builtin "object.__class__") "__get__"=some (some (.builtin "getset_descriptor.__get__"))
 htk:PySem.W.takesIn K (.builtin "object.__class__")=some true
 hm:PySem.W.mroIn K C (.type "object")=some true
 hb:PySem.W.mroIn K C (.type "BaseException")=some true
section
variable {prog:Program} {w:World} {A:Around} {E:Value→Shared→Prop} {s:Shared} {K:PySem.W.Frag} {a C:Addr} {oa:Obj}
theorem aJ {R:Result→Shared→Prop} {tp:Value} (X:K.In s.heap) (e1:s.heap.get? a=some oa) (e2:oa.cls=.ref C) (hm:mroIn K C (.type "object")=some true) (h:R (.ok (.ret (.ref C))) s):
  codeAny (model prog w) A (.call (.builtin "getset_descriptor.__get__") ⟨[.builtin "object.__class__",.ref a,tp],[]⟩) R s:=by
 obtain ⟨h0,gs,dn,tn,oo⟩:=s
 have e1:h0.get? a=some oa:=e1
 have Lt:Looks (model prog w) h0 (typeOf (.ref a)) (.ref C):=e2 ▸ (Looks.ld e1).andThen .now
 have Lm:=looks_mroIn (M:=model prog w) X hm
 refine codeAny_call_builtin KF.slot_gs.plain KF.entry_gs (KF.slot_gs.check (model prog w) _ _ _ _ _ _ _ KF.type_class (KF.args_gs _ _ _) ?_)
 unfold Builtin.«getset_descriptor.__get__» descrGet; rw [dga_obj]
 refine wpAny_bind (wpAny_pure ?_); unfold descrGetter descrCheckInstance descrNameAndClass isInstance
 simp only [KF.owner_class]
 repeat lk
 refine ⟨Code.quiet_builtin _ (by decide +kernel),codeAny_builtin KF.entry_class (by
  unfold Builtin.«object.__class__» shownTypeOf
  repeat lk
  exact h)⟩
theorem gH {Q:Option Value→Shared→Prop} (O:tF K C) (X:K.In s.heap) (e1:s.heap.get? a=some oa) (e2:oa.cls=.ref C)
  (h:Q (some (.ref C)) { s with toks:=s.toks + 1 }):wpAny (model prog w) A (getAttr? (.ref a) "__class__") Q E s:=by
 obtain ⟨h0,gs,dn,tn,oo⟩:=s
 have Lt:Looks (model prog w) h0 (typeOf (.ref a)) (.ref C):=e2 ▸ (Looks.ld e1).andThen .now
 have La:=looks_findIn (M:=model prog w) X O.ga
 have Ln:=looks_findIn (M:=model prog w) X O.gn
 have Lf:Looks (model prog w) h0 (Builtin.ObjectAttr.find (.ref a) (.ref C) "__class__") (.bind (.builtin "getset_descriptor.__get__") (.builtin "object.__class__")):=
  (looks_findIn X O.ha).andThen ((looks_specialIn X O.hn).andThen ((show Looks _ h0 (Builtin.ObjectAttr.dataDescriptor? (some (.builtin "object.__class__")) (some (.builtin "getset_descriptor.__get__"))) (some (.builtin "getset_descriptor.__get__",.builtin "object.__class__")) from (looks_takesIn X O.htk).andThen .now).andThen (Looks.tag .now)))
 unfold getAttr? getAttrBy? getAttrBy
 refine wpAny_bind (wpAny_mkText (wpAny_bind (wpAny_attempt (wpAny_holding (wpAny_bind (Lt.at (wpAny_bind (La.at ?_))))))))
 show wpAny _ _ (getAttrByItsOwn _ _ _ _ _ _) _ _ _
 unfold getAttrByItsOwn hookBefore
 refine wpAny_bind (show wpAny _ _ (typeLookup _ _) _ _ _ from Ln.at (wpAny_bind (wpAny_attempt (wpAny_holding (show wpAny _ _ (boundAndCalled _ _ _) _ _ _ from ?_)))))
 unfold boundAndCalled
 refine wpAny_bind (wpAny_of_eq (PySem.F.attrBase_ValueError.ga.bind (.ref a)) ?_)
 have Lb:=looks_mroIn (M:=model prog w) X O.hb
 refine wpAny_call (codeAny_call_builtin PySem.F.attrBase_ValueError.ga.plain PySem.F.entry_bexc_ga ?_)
 have hk1:builtinKind "BaseException.__getattribute__"=some .slot:=by decide +kernel
 have hk2:splitId "BaseException.__getattribute__"=some ("BaseException","__getattribute__"):=by decide +kernel
 have hk3:=PySem.F.args_bexc_ga (.ref a) (.str "__class__" tn)
 simp only [checkBuiltinCall,hk1,hk2]
 unfold isInstance
 refine wpAny_bind (wpAny_bind (Lt.at (Lb.at ?_)))
 have hid:∃ z,z=oa∧h0.get? a=some z:=⟨oa,rfl,e1⟩
 clear e1
 repeat (any_goals (first | assumption | wp_step))
 obtain ⟨z,rfl,e1⟩:=hid
 refine wpAny_loadPart_at e1 ?_
 refine wpAny_pure ?_
 rw [e2]
 refine wpAny_bind (Lf.at ?_)
 show wpAny _ _ (holding [Value.builtin "object.__class__"] (call (Value.builtin "getset_descriptor.__get__") [Value.builtin "object.__class__",Value.ref a,Value.ref C]) >>= ret) _ _ _
 exact wpAny_bind (wpAny_holding (wpAny_call (aJ (s:=⟨h0,gs,dn,tn + 1,oo⟩) X e1 e2 O.hm (wpAny_pure (handed_on rfl (wpAny_pure h))))))
end
theorem pM {K:PySem.W.Frag} {C:Addr} {b:Value} {r:Bool} (e:mroIn K C b=some r):∃ c d cd sl,K.lookup C=some ⟨c,d,.cls cd,sl⟩:=by
 unfold mroIn clsIn at e
 revert e
 cases q:K.lookup C with
 | none=>intro e; simp at e
 | some o=>
  obtain ⟨c,d,dt,sl⟩:=o
  cases dt <;> intro e <;> first | exact ⟨_,_,_,_,rfl⟩ | simp at e
theorem dw {K:PySem.W.Frag} {a C:Addr} (O:tF K C):KitX K (.ref a) (.ref C) (OD.excAt a C) where
 ty:=fun _ _ _ ⟨_,e1,e2⟩=>e2 ▸ (Looks.ld e1).andThen .now
 it:=fun _ _ X _=>by
  obtain ⟨c,d,cd,sl,hl⟩:=pM O.hm
  intro A1 Q1 E1 s1 k1 q1
  unfold isType loadHead
  exact wpAny_bind (wpAny_loadPart (k1 _ _ (X _ _ hl)) (wpAny_pure q1))
 ne:=fun h tp dd its n sl X htp=>by
  obtain ⟨c,d,cd,sl1,hl⟩:=pM O.hm
  refine Bool.eq_false_iff.mpr fun q=>?_
  have e:C=tp:=Value.ref.inj (eq_of_beq q)
  rw [e] at hl
  have z:=(X _ _ hl).symm.trans htp; cases z
 ca:=fun X ⟨_,e1,e2⟩ k=>gH O X e1 e2 k
end L2
namespace OD
open PySem PySem.Spec PyProof.Rows L2
variable {Z:Hp}
def XOn (X:Cx) (C:Addr) (H':Hp):Prop:=∀ (pins:List (Addr × Obj)) (σ:L2.St) (H:Hp) (s:Shared) (a:Addr) (s':Shared),Inv X pins σ H s→s'.os=s.os→AllBare s'.gens→Flies X.prog X.w X.stack H s.heap H' a (.ref C) s'.heap→X.xe (.ref a) s'
def Oi (X:Cx):XK:=fun cls _ H'=>∃ C,cls=.ref C∧XOn X C H'
theorem nI {X:Cx}:tu (CX1 X.prog X.w) X (Oi X):=fun pins σ H s e s' I ⟨a,C,H',ee,os,bare,fl,C',ec,h⟩=>by
 cases ec
 subst ee
 exact h pins σ H s a s' I os bare fl
def Rz (X:Cx) (C:Addr):Prop:=∀ H',Same (Zx X) H'→XOk X C H'∧XOn X C H'
section
variable {P:Program} {w:World} {K:PySem.W.Frag} {mg:Str→Option Value} {base:Heap} {N:List Str} {qual:Str} {scope:Scope} {f C:Addr} {cd:Value} {A:Around} {outer:List Env} {s:Shared} {H H1:Hp} {E:XK}
theorem Zq (h:∀ H',Same H H'→E (.ref C) none H'):Rz (yC (CX1 P w) P w K mg base N qual scope f cd A outer s H E) C:=fun H' z=>by
 rw [gL] at z
 refine ⟨ZS (h H' z),fun pins σ H2 s2 a s' I os bare fl=>?_⟩
 exact X4 (X:=yC (CX1 P w) P w K mg base N qual scope f cd A outer s H E) I rfl rfl rfl fl fun h' fl'=>⟨a,C,H',rfl,os.trans I.os,bare,fl',h H' z⟩
end
abbrev y1:=List Dt→(Dt→Prop)→(Addr→Prop)→Prop
def sG (K:PySem.W.Frag) (S:y1):Sp:=fun vs H Q E=>∃ (W:Vw) (ds:List Dt) (Qd:Dt→Prop) (Ed:Addr→Prop),W.h=H∧AllIs K W.g ds vs∧S ds Qd Ed∧(∀ d v W',Le W W'→Is K W'.g d v→Qd d→Q v W'.h)∧∀ C H',Same W.h H'→Ed C→E (.ref C) none H'
def wL (K:PySem.W.Frag) (S:y1):Sp:=fun vs H Q E=>∃ (W:Vw) (ds:List Dt) (Qd:Dt→Prop) (Ed:Addr→Prop),W.h=H∧AllIs K W.g ds vs∧S ds Qd Ed∧
 (∀ es p xs W',Le W W'→W.h p=none→W'.h p=some (.lst xs)→W'.g p=none→AllIs K W'.g es xs→Qd (.lst es)→Q (.ref p) W'.h)∧∀ C H',Same W.h H'→Ed C→E (.ref C) none H'
structure DOkX (P:Program) (w:World) (K:PySem.W.Frag) (mg:Str→Option Value) (base:Heap) (n:Nat) (x:Str) (S:y1):Prop where
 ex:∃ f fd ps,mg x=some (.ref f)∧PySem.W.keepIn K (.ref f)=true∧Binds K fd ps []∧FnOk P w K mg base (CX1 P w) n f fd ps (sG K S)
structure FOkX (P:Program) (w:World) (K:PySem.W.Frag) (mg:Str→Option Value) (base:Heap) (n:Nat) (x:Str) (S:y1):Prop where
 ex:∃ f fd ps,mg x=some (.ref f)∧PySem.W.keepIn K (.ref f)=true∧Binds K fd ps []∧FnOk P w K mg base (CX1 P w) n f fd ps (wL K S)
section
variable {P:Program} {w:World} {K:PySem.W.Frag} {mg:Str→Option Value} {base:Heap}
theorem Fun.okX {CX:CXT} {x qual:Str} {st:Stmt} {f:Addr} {fd:FuncData} {N ps:List Str} {k:Nat} {sp:Sp} (F:Fun K x qual st f fd) (S:zi N ps (defScope st)) (len:∀ vs H Q E,sp vs H Q E→vs.length=ps.length)
  (hbody:∀ (cdv:Value) (A:Around) (outer:List Env) (s:Shared) (H:Hp) (vs:List V) (Q:VK) (E:XK),Room k (A.deeper (envOfC qual (defScope st) s.heap.objs.size f cdv))→sp vs H Q E→
   ∃ t,PSs (yC CX P w K mg base N qual (defScope st) f cdv A outer s H E) (defBody st) t∧t { nx:=fun _ H'=>Q .non H',rt:=Q } (start N vs) H):FnOk P w K mg base CX (k + 1) f fd ps sp:=by
 obtain ⟨oc,od,kV,doc,pm,an,cdv,ct,osl,rfl,lk,hcd⟩:=F.ex
 exact ZC lk hcd S len fun A outer s H vs Q E hr h=>hbody cdv A outer s H vs Q E hr h
theorem QH {x qual:Str} {st:Stmt} {f:Addr} {fd:FuncData} {N ps:List Str} {k:Nat} {S:y1} (F:Fun K x qual st f fd) (sc:zi N ps (defScope st)) (len:∀ ds Q R,S ds Q R→ds.length=ps.length)
  (hbody:∀ (cdv:Value) (A:Around) (outer:List Env) (s:Shared) (H:Hp) (E:XK),Room k (A.deeper (envOfC qual (defScope st) s.heap.objs.size f cdv))→∀ (ds:List Dt) (Q:Dt→Prop) (R:Addr→Prop),S ds Q R→
   (∀ C,R C→Rz (yC (CX1 P w) P w K mg base N qual (defScope st) f cdv A outer s H E) C)→
   ∃ t,DSs (yC (CX1 P w) P w K mg base N qual (defScope st) f cdv A outer s H E) .d (defBody st) t∧t { nx:=fun _=>Q .non,rt:=Q } (yp N.length ds)):FnOk P w K mg base (CX1 P w) (k + 1) f fd ps (sG K S):=by
 refine Fun.okX F sc (fun vs H Q E h=>?_) (fun cdv A outer s H vs Q E hr h=>?_)
 ·obtain ⟨W,ds,Qd,Ed,_,ia,hS,_⟩:=h
  rw [← ia.length]
  exact len ds Qd Ed hS
 obtain ⟨W,ds,Qd,Ed,rfl,ia,hS,kk,ke⟩:=h
 obtain ⟨t,⟨ts,p,l⟩,ht⟩:=hbody cdv A outer s W.h E hr ds Qd Ed hS fun C hC=>Zq fun H' z=>ke C H' z hC
 refine ⟨ts,p,l W W.g (yp N.length ds) (start N vs) W { nx:=fun _=>Qd .non,rt:=Qd } _ (wI ia (sI (Nat.succ_ne_self _))) ⟨fun ρ σ W' a q=>kk .non .non W' a.le (is_non.mpr rfl) q,fun d v W' s' i' q=>kk d v W' s' i' q,fun _ _ _ _ q=>q.elim,fun _ _ _ _ q=>q.elim⟩ ht⟩
theorem W_ {x qual:Str} {st:Stmt} {f:Addr} {fd:FuncData} {N ps:List Str} {k:Nat} {S:y1} (F:Fun K x qual st f fd) (sc:zi N ps (defScope st)) (len:∀ ds Q R,S ds Q R→ds.length=ps.length)
  (hbody:∀ (cdv:Value) (A:Around) (outer:List Env) (s:Shared) (H:Hp) (E:XK),Room k (A.deeper (envOfC qual (defScope st) s.heap.objs.size f cdv))→∀ (ds:List Dt) (Q:Dt→Prop) (R:Addr→Prop),S ds Q R→
   (∀ C,R C→Rz (yC (CX1 P w) P w K mg base N qual (defScope st) f cdv A outer s H E) C)→
   ∃ t,DSs (yC (CX1 P w) P w K mg base N qual (defScope st) f cdv A outer s H E) .l (defBody st) t∧t { nx:=fun _=>False,rt:=Q } (yp N.length ds)):FnOk P w K mg base (CX1 P w) (k + 1) f fd ps (wL K S):=by
 refine Fun.okX F sc (fun vs H Q E h=>?_) (fun cdv A outer s H vs Q E hr h=>?_)
 ·obtain ⟨W,ds,Qd,Ed,_,ia,hS,_⟩:=h
  rw [← ia.length]
  exact len ds Qd Ed hS
 obtain ⟨W,ds,Qd,Ed,rfl,ia,hS,kk,ke⟩:=h
 obtain ⟨t,⟨ts,p,l⟩,ht⟩:=hbody cdv A outer s W.h E hr ds Qd Ed hS fun C hC=>Zq fun H' z=>ke C H' z hC
 exact ⟨ts,p,l W W.g (yp N.length ds) (start N vs) W { nx:=fun _=>False,rt:=Qd } _ (wI ia (sI (Nat.succ_ne_self _))) ⟨fun ρ σ W' a q=>q.elim,fun d v W' s' ⟨es,p,xs,e1,e2,e3,e4,e5,e6⟩ q=>by subst e1; subst e2; exact kk es p xs W' s' e3 e4 e5 e6 q,fun _ _ _ _ q=>q.elim,fun _ _ _ _ q=>q.elim⟩ ht⟩
theorem DOkX.mk' {x qual:Str} {st:Stmt} {f:Addr} {fd:FuncData} {ps:List Str} {n:Nat} {S:y1} (F:Fun K x qual st f fd) (hm:mg x=some (.ref f)) (hb:Binds K fd ps []) (h:FnOk P w K mg base (CX1 P w) n f fd ps (sG K S)):DOkX P w K mg base n x S:=
 ⟨f,fd,ps,hm,F.kp,hb,h⟩
theorem FOkX.mk' {x qual:Str} {st:Stmt} {f:Addr} {fd:FuncData} {ps:List Str} {n:Nat} {S:y1} (F:Fun K x qual st f fd) (hm:mg x=some (.ref f)) (hb:Binds K fd ps []) (h:FnOk P w K mg base (CX1 P w) n f fd ps (wL K S)):FOkX P w K mg base n x S:=
 ⟨f,fd,ps,hm,F.kp,hb,h⟩
theorem DOkX.mono {x:Str} {m n:Nat} {S:y1} (h:DOkX P w K mg base m x S) (hl:m ≤ n):DOkX P w K mg base n x S:=
 let ⟨f,fd,ps,h1,h2,h3,h4⟩:=h.ex; ⟨f,fd,ps,h1,h2,h3,h4.mono hl⟩
theorem FOkX.mono {x:Str} {m n:Nat} {S:y1} (h:FOkX P w K mg base m x S) (hl:m ≤ n):FOkX P w K mg base n x S:=
 let ⟨f,fd,ps,h1,h2,h3,h4⟩:=h.ex; ⟨f,fd,ps,h1,h2,h3,h4.mono hl⟩
end
section
variable {X:Cx} {e a:Expr} {es:List Expr} {t:DTA} {ta:DTE} {n:Nat} {x y:Str} {S:y1} {p pos np cpos:Pos} {fr:Fr} {C:Addr}
theorem fm {F:Hp} {W:Vw} {ρ:DS} {σ:L2.St} {K:PySem.W.Frag} (r:Rl K Z F W ρ σ):Same Z W.h:=r.z.trans r.fr
def cg (X:Cx) (S:y1) (t:DTA):DTE:=fun ρ Q=>t ρ fun ds=>S ds Q (Rz X)
theorem d9 (G:DOkX X.prog X.w X.K X.mg X.base n x S) (hr:Room n X.A) (hg:Gl X x) (ha:DA X (e :: es) t) (hdb:(x == ("__debug__":Str))=false:=by decide)
  (he:starEach (e :: es) X.env=(false,eval e X.env) :: starEach es X.env:=by rfl) (hpl:(backTo pos (starEach es X.env)).any (·.1)=false:=by rfl):DE X (.Call (.Name x p) (e :: es) [] pos) (cg X S t):=by
 obtain ⟨f,fd,ps,hm,hk,hb,F⟩:=G.ex
 obtain ⟨te,p1,l1⟩:=ha
 refine ⟨_,vO F hr hg hm hk hb .nil nI p1 hdb he hpl,fun ρ σ H Q r h R k=>l1 ρ σ H _ r h _ fun ds vs H1 s1 i1 q1=>?_⟩
 rw [List.append_nil]
 exact ⟨H1,ds,Q,Rz X,rfl,i1,q1,fun d v H2 s2 i2 q2=>k d v H2 (s1.trans s2) i2 q2,fun C H' s' hC=>⟨C,rfl,(hC H' (((fm r).trans s1.h).trans s')).2⟩⟩
theorem d3 (G:FOkX X.prog X.w X.K X.mg X.base n x S) (hr:Room n X.A) (hg:Gl X x) (ha:DA X (e :: es) t) (hdb:(x == ("__debug__":Str))=false:=by decide)
  (he:starEach (e :: es) X.env=(false,eval e X.env) :: starEach es X.env:=by rfl) (hpl:(backTo pos (starEach es X.env)).any (·.1)=false:=by rfl):DF X (.Call (.Name x p) (e :: es) [] pos) (cg X S t):=by
 obtain ⟨f,fd,ps,hm,hk,hb,F⟩:=G.ex
 obtain ⟨te,p1,l1⟩:=ha
 refine ⟨_,vO F hr hg hm hk hb .nil nI p1 hdb he hpl,fun ρ σ H Q r h R k=>l1 ρ σ H _ r h _ fun ds vs H1 s1 i1 q1=>?_⟩
 rw [List.append_nil]
 exact ⟨H1,ds,Q,Rz X,rfl,i1,q1,fun es p xs H2 s2 h0 h1 h2 i2 q2=>k es p xs H2 (s1.trans s2) (s1.h.free h0) h1 h2 i2 q2,fun C H' s' hC=>⟨C,rfl,(hC H' (((fm r).trans s1.h).trans s')).2⟩⟩
def Wd (X:Cx) (C:Addr) (ta:DTE):DTS:=fun _ ρ=>ta ρ fun _=>Rz X C
theorem mP (hc:X.calm=true) (hg:Gl X x) (hm:X.mg x=some (.ref C)) (hC:ExcK X.K C) (ha:DE X a ta) (hdb:(x == ("__debug__":Str))=false:=by decide)
  (he:starEach [a] X.env=(false,eval a X.env) :: starEach [] X.env:=by rfl):DSt X fr (.Raise (some (.Call (.Name x np) [a] [] cpos)) none pos) (Wd X C ta):=by
 obtain ⟨te,p1,l1⟩:=ha
 exact ⟨_,fC hc hg hm hC p1 hdb he,fun W0 G ρ σ W D D' at_ s h=>l1 ρ σ W _ at_.rl h _ fun d v W1 s1 i1 q1=>(q1 W1.h ((fm at_.rl).trans s1.h)).1⟩
def jD (K:PySem.W.Frag) (Z:Hp) (fr:Fr) (t:DTS):TS:=fun D' σ H=>∃ (W0:Vw) (G:Hp) (ρ:DS) (W:Vw) (D:DEnds),W.h=H∧At K Z W0 G W ρ σ∧Sim K Z fr W0 G D D'∧t D ρ
theorem DSs.up {sts:List Stmt} {t:DTS} (h:DSs X fr sts t):PSs X sts (jD X.K (Zx X) fr t):=by
 obtain ⟨ts,p,l⟩:=h
 intro pins s σ H D' I q
 obtain ⟨W0,G,ρ,W,D,rfl,a,sm,ht⟩:=q
 exact p pins s σ W.h D' I (l W0 G ρ σ W D D' a sm ht)
def Vw.at (W:Vw) (H':Hp) (s:Same W.h H'):Vw:=⟨W.g,H',W.sub.trans s⟩
theorem Zy {W:Vw} {H':Hp} (s:Same W.h H'):Le W (W.at H' s):=⟨Same.refl _,s,fun _ _ h=>h⟩
variable {b₀:Stmt} {suite:List Stmt} {th:DTS} {c:Value} {py hpos epos tpos:Pos}
theorem bn {f:Addr} {fd:FuncData} {ps:List Str} {sp:Sp} {te:TA} (F:FnOk X.prog X.w X.K X.mg X.base (CX1 X.prog X.w) n f fd ps sp) (hr:Room n X.A) (hg:Gl X x) (hm:X.mg x=some (.ref f)) (hk:PySem.W.keepIn X.K (.ref f)=true) (hb:Binds X.K fd ps []) (ha:PA X.nox (e :: es) te)
  (hs:swapsWith (.Call (.Name x p) (e :: es) [] pos) none epos.line X.env=pure false:=by rfl) (hdb:(x == ("__debug__":Str))=false:=by decide)
  (he:starEach (e :: es) X.env=(false,eval e X.env) :: starEach es X.env:=by rfl) (hpl:(backTo pos (starEach es X.env)).any (·.1)=false:=by rfl):
  PB X [.Expr (.Call (.Name x p) (e :: es) [] pos) epos] (fun nx E σ H=>te σ H fun vs H1=>sp vs H1 (fun _ H2=>nx σ H2) E):=by
 intro pins s σ H nx E I h
 refine wpAny_execs_cons (wpAny_Expr_any (thn (cr F hr hg hm hk hb ha I h hdb he hpl) fun v s1 ⟨x,H1,I1,r1,q1⟩=>?_) I.quiet hs)
 exact wpAny_execs_nil ⟨rfl,σ,H1,I1,q1⟩
end
theorem Rl.unset {K:PySem.W.Frag} {F:Hp} {W:Vw} {ρ:DS} {σ:L2.St} (r:Rl K Z F W ρ σ) (j:Nat):Rl K Z F W (ρ.set j .none) (σ.set j none):=by
 refine ⟨by rw [List.length_set,List.length_set]; exact r.len,fun i d q=>?_,fun i ds q=>?_,fun i k ds es hik q1 q2=>?_,r.fr,r.z,fun i c ds q=>?_⟩
 ·rcases zt q with ⟨_,_,e1⟩ | ⟨hij,q⟩
  ·cases e1
  ·rw [List.getElem?_set_ne hij]; exact r.at_ i d q
 ·rcases zt q with ⟨_,_,e1⟩ | ⟨hij,q⟩
  ·cases e1
  ·rw [List.getElem?_set_ne hij]; exact r.ow i ds q
 ·rcases zt q1 with ⟨_,_,e1⟩ | ⟨h1,q1⟩
  ·cases e1
  rcases zt q2 with ⟨_,_,e1⟩ | ⟨h2,q2⟩
  ·cases e1
  rw [List.getElem?_set_ne h1,List.getElem?_set_ne h2]; exact r.ne i k ds es hik q1 q2
 ·rcases zt q with ⟨_,_,e1⟩ | ⟨hij,q⟩
  ·cases e1
  obtain ⟨⟨ys',g1,g2⟩,k1,k2⟩:=r.ar i c ds q
  refine ⟨⟨ys',by rw [List.getElem?_set_ne hij]; exact g1,g2⟩,fun k es' q'=>?_,fun k c' es' q'=>?_⟩
  ·rcases zt q' with ⟨_,_,e1⟩ | ⟨hik,q'⟩
   ·cases e1
   ·rw [List.getElem?_set_ne hik]; exact k1 k es' q'
  ·rcases zt q' with ⟨_,_,e1⟩ | ⟨hik,q'⟩
   ·cases e1
   exact k2 k c' es' q'
theorem At.unset {K:PySem.W.Frag} {W0 W:Vw} {G:Hp} {ρ:DS} {σ:L2.St} (a:At K Z W0 G W ρ σ) (j:Nat):At K Z W0 G W (ρ.set j .none) (σ.set j none):=⟨a.le,a.gs,a.rl.unset j⟩
abbrev DEnds.off (D:DEnds) (j:Nat):DEnds:=⟨fun ρ=>D.nx (ρ.set j .none),D.rt,fun ρ=>D.bk (ρ.set j .none),fun ρ=>D.ct (ρ.set j .none)⟩
theorem Sim.off {K:PySem.W.Frag} {fr:Fr} {W0:Vw} {G:Hp} {D:DEnds} {D':Ends} (s:Sim K Z fr W0 G D D') (j:Nat):Sim K Z fr W0 G (D.off j) (D'.off j):=
 ⟨fun ρ σ W' a q=>s.nx _ _ W' (a.unset j) q,s.tl,fun ρ σ W' a q=>s.bk _ _ W' (a.unset j) q,fun ρ σ W' a q=>s.ct _ _ W' (a.unset j) q⟩
section
variable {X:Cx} {e:Expr} {es:List Expr} {t:DTA} {n:Nat} {x y m:Str} {i j:Nat} {S:y1} {p pos py hpos epos tpos:Pos} {fr:Fr} {b₀:Stmt} {suite:List Stmt} {th:DTS} {c:Value}
theorem fJ {f:Addr} {fd:FuncData} {ps:List Str} {sp:Sp} {te:TA} (hN:X.N.Nodup) (hi:X.N[i]? = some m) (hx:Loc X.env.scope m) (F:FnOk X.prog X.w X.K X.mg X.base (CX1 X.prog X.w) n f fd ps sp) (hr:Room n X.A) (hg:Gl X x) (hm:X.mg x=some (.ref f)) (hk:PySem.W.keepIn X.K (.ref f)=true) (hb:Binds X.K fd ps []) (ha:PA X.nox (e :: es) te)
  (hs:swapsWith (.Call (.Name x p) (e :: es) [] pos) (some (.Name m py)) epos.line X.env=pure false:=by rfl) (hdb:(x == ("__debug__":Str))=false:=by decide)
  (he:starEach (e :: es) X.env=(false,eval e X.env) :: starEach es X.env:=by rfl) (hpl:(backTo pos (starEach es X.env)).any (·.1)=false:=by rfl) (hf:X.fn m=true∨X.env.scope.names.lookup m=some .local:=by first | exact .inl rfl | exact .inr rfl | assumption):
  PB X [.Assign [.Name m py] (.Call (.Name x p) (e :: es) [] pos) epos] (fun nx E σ H=>te σ H fun vs H1=>sp vs H1 (fun v H2=>nx (σ.set i (some v)) H2) E):=by
 intro pins s σ H nx E I h
 refine wpAny_execs_cons (wpAny_Assign_Name (thn (cr F hr hg hm hk hb ha I h hdb he hpl) fun v s1 ⟨y,H1,I1,r1,q1⟩=>?_) hs)
 exact wl I1 hN hi hx r1 (fun s2 I2=>wpAny_execs_nil ⟨rfl,_,H1,I2,q1⟩) hf
def Wc (K:PySem.W.Frag) (c:Value) (j:Nat) (S:y1) (t:DTA) (th:DTS):DTS:=fun D ρ=>t ρ fun ds=>S ds (fun _=>D.nx ρ) fun C=>PySem.W.exmOne K (.ref C) c=some true∧th (D.off j) (ρ.set j (.some (.exc C)))
def cb (K:PySem.W.Frag) (c:Value) (i:Nat) (S:y1) (t:DTA) (th:DTS):DTS:=fun D ρ=>t ρ fun ds=>S ds (fun d=>∃ es,d=.lst es∧D.nx (ρ.set i (.own es))) fun C=>PySem.W.exmOne K (.ref C) c=some true∧th D ρ
def jl (K:PySem.W.Frag) (c:Value) (i j:Nat) (S:y1) (t:DTA) (th:DTS):DTS:=fun D ρ=>t ρ fun ds=>S ds (fun d=>∃ es,d=.lst es∧D.nx (ρ.set i (.own es))) fun C=>PySem.W.exmOne K (.ref C) c=some true∧th (D.off j) (ρ.set j (.some (.exc C)))
theorem cz {K:PySem.W.Frag} {W0 W1:Vw} {G H':Hp} {ρ:DS} {σ:L2.St} {C a:Addr} (at_:At K Z W0 G W1 ρ σ) (s':Same W1.h H') (hn:H' a=none) (j:Nat):
  At K Z W0 G ((W1.at H' s').new a (.ext (excAt a C))) (ρ.set j (.some (.exc C))) (σ.set j (some (.ref a))):=
 ((at_.step (Zy s')).step (wz (W:=W1.at H' s') hn _)).set j (is_exc.mpr ⟨a,rfl,zA⟩)
theorem VP (hstk:X.stack=X.env :: X.outer) (hf:X.env.frame=some X.env.locals) (hN:X.N.Nodup) (hj:X.N[j]? = some m) (hmj:X.env.scope.names.lookup m=some .local) (G:DOkX X.prog X.w X.K X.mg X.base n x S) (hr:Room n X.A) (hg:Gl X x) (ha:DA X.nox (e :: es) t) (hh:∀ a,DSs (X.inH a) fr (b₀ :: suite) th) (hgy:Gl X y) (hmy:X.mg y=some c)
  (hs:swapsWith (.Call (.Name x p) (e :: es) [] pos) none epos.line X.env=pure false:=by rfl) (hdb:(x == ("__debug__":Str))=false:=by decide) (hdy:(y == ("__debug__":Str))=false:=by decide)
  (he:starEach (e :: es) X.env=(false,eval e X.env) :: starEach es X.env:=by rfl) (hpl:(backTo pos (starEach es X.env)).any (·.1)=false:=by rfl):
  DSt X fr (.Try [.Expr (.Call (.Name x p) (e :: es) [] pos) epos] [.ExceptHandler (some (.Name y py)) (some m) (b₀ :: suite) hpos] [] [] tpos) (Wc X.K c j S t th):=by
 obtain ⟨f,fd,ps,hm,hk,hb,F⟩:=G.ex
 obtain ⟨te,p1,l1⟩:=ha
 refine ⟨_,nE (th:=jD X.K (Zx X) fr th) hstk hf hN hj hmj (bn F hr hg hm hk hb p1 hs hdb he hpl) (fun a=>(hh a).up) hgy hmy hdy,fun W0 G ρ σ W D D' at_ s h=>?_⟩
 refine l1 ρ σ W _ at_.rl h _ fun ds vs W1 s1 i1 q1=>⟨W1,ds,_,_,rfl,i1,q1,fun d v W2 s2 i2 q2=>s.nx ρ σ W2 ((at_.step s1).step s2) q2,fun C H' s' ⟨e1,e2⟩=>⟨e1,fun a C' ec hn=>?_⟩⟩
 cases ec
 exact ⟨W0,G,_,_,_,rfl,cz (at_.step s1) s' hn j,s.off j,e2⟩
theorem ZG {m2:Str} {pm:Pos} (hstk:X.stack=X.env :: X.outer) (hf:X.env.frame=some X.env.locals) (hN:X.N.Nodup) (hi:X.N[i]? = some m) (hx:Loc X.env.scope m) (G:FOkX X.prog X.w X.K X.mg X.base n x S) (hr:Room n X.A) (hg:Gl X x) (ha:DA X.nox (e :: es) t) (hh:∀ a,DSs (X.inH a) fr (b₀ :: suite) th) (hgy:Gl X y) (hmy:X.mg y=some c)
  (hs:swapsWith (.Call (.Name x p) (e :: es) [] pos) (some (.Name m pm)) epos.line X.env=pure false:=by rfl) (hdb:(x == ("__debug__":Str))=false:=by decide) (hdy:(y == ("__debug__":Str))=false:=by decide)
  (he:starEach (e :: es) X.env=(false,eval e X.env) :: starEach es X.env:=by rfl) (hpl:(backTo pos (starEach es X.env)).any (·.1)=false:=by rfl) (hfm:X.fn m=true∨X.env.scope.names.lookup m=some .local:=by first | exact .inl rfl | exact .inr rfl | assumption):
  DSt X fr (.Try [.Assign [.Name m pm] (.Call (.Name x p) (e :: es) [] pos) epos] [.ExceptHandler (some (.Name y py)) none (b₀ :: suite) hpos] [] [] tpos) (cb X.K c i S t th):=by
 obtain ⟨f,fd,ps,hm,hk,hb,F⟩:=G.ex
 obtain ⟨te,p1,l1⟩:=ha
 refine ⟨_,Yb (th:=jD X.K (Zx X) fr th) hstk hf (fJ hN hi hx F hr hg hm hk hb p1 hs hdb he hpl hfm) (fun a=>(hh a).up) hgy hmy hdy,fun W0 G ρ σ W D D' at_ s h=>?_⟩
 exact l1 ρ σ W _ at_.rl h _ fun ds vs W1 s1 i1 q1=>⟨W1,ds,_,_,rfl,i1,q1,fun es q xs W2 s2 h0 h1 h2 i2 ⟨es',ee,q2⟩=>by cases ee; exact s.nx _ _ W2 ((at_.step s1).own s2 i h0 h1 h2 i2) q2,fun C H' s' ⟨e1,e2⟩=>⟨e1,W0,G,ρ,W1.at H' s',D,rfl,(at_.step s1).step (Zy s'),s,e2⟩⟩
theorem q0 {m2:Str} {pm:Pos} (hstk:X.stack=X.env :: X.outer) (hf:X.env.frame=some X.env.locals) (hN:X.N.Nodup) (hi:X.N[i]? = some m) (hx:Loc X.env.scope m) (hj:X.N[j]? = some m2) (hmj:X.env.scope.names.lookup m2=some .local) (G:FOkX X.prog X.w X.K X.mg X.base n x S) (hr:Room n X.A) (hg:Gl X x) (ha:DA X.nox (e :: es) t) (hh:∀ a,DSs (X.inH a) fr (b₀ :: suite) th) (hgy:Gl X y) (hmy:X.mg y=some c)
  (hs:swapsWith (.Call (.Name x p) (e :: es) [] pos) (some (.Name m pm)) epos.line X.env=pure false:=by rfl) (hdb:(x == ("__debug__":Str))=false:=by decide) (hdy:(y == ("__debug__":Str))=false:=by decide)
  (he:starEach (e :: es) X.env=(false,eval e X.env) :: starEach es X.env:=by rfl) (hpl:(backTo pos (starEach es X.env)).any (·.1)=false:=by rfl) (hfm:X.fn m=true∨X.env.scope.names.lookup m=some .local:=by first | exact .inl rfl | exact .inr rfl | assumption):
  DSt X fr (.Try [.Assign [.Name m pm] (.Call (.Name x p) (e :: es) [] pos) epos] [.ExceptHandler (some (.Name y py)) (some m2) (b₀ :: suite) hpos] [] [] tpos) (jl X.K c i j S t th):=by
 obtain ⟨f,fd,ps,hm,hk,hb,F⟩:=G.ex
 obtain ⟨te,p1,l1⟩:=ha
 refine ⟨_,nE (th:=jD X.K (Zx X) fr th) hstk hf hN hj hmj (fJ hN hi hx F hr hg hm hk hb p1 hs hdb he hpl hfm) (fun a=>(hh a).up) hgy hmy hdy,fun W0 G ρ σ W D D' at_ s h=>?_⟩
 refine l1 ρ σ W _ at_.rl h _ fun ds vs W1 s1 i1 q1=>⟨W1,ds,_,_,rfl,i1,q1,fun es q xs W2 s2 h0 h1 h2 i2 ⟨es',ee,q2⟩=>by cases ee; exact s.nx _ _ W2 ((at_.step s1).own s2 i h0 h1 h2 i2) q2,fun C H' s' ⟨e1,e2⟩=>⟨e1,fun a C' ec hn=>?_⟩⟩
 cases ec
 exact ⟨W0,G,_,_,_,rfl,cz (at_.step s1) s' hn j,s.off j,e2⟩
theorem pN:CallR X (.builtin "isinstance") (fun xs H Q=>∃ a C vc c b,xs=[.ref a,vc]∧(∀ u,RelV vc u→u=c)∧H a=some (.ext (excAt a C))∧tF X.K C∧PySem.W.kitOne X.K (.ref C) c=some b∧Q (.bl b) H):=by
 intro pins s σ H xs us Q I r h
 obtain ⟨a,C,vc,c,b,rfl,hvc,ha,O,hk,q⟩:=h
 cases r with
 | cons r1 r2=>
  cases r2 with
  | cons r3 r4=>
   cases r4
   cases r1
   cases hvc _ r3
   exact PySem.W.kia_one (dw O) I.kIn (I.hok a _ ha).1 hk (fun z=>nomatch z) fun tk=>⟨.bl b,H,I.tok _,rfl,q⟩
def ZL (K:PySem.W.Frag) (c:Value) (ta:DTE):DTE:=fun ρ Q=>ta ρ fun d=>∃ C b,d=.exc C∧tF K C∧PySem.W.kitOne K (.ref C) c=some b∧Q (.bl b)
theorem yo {a:Expr} {ta:DTE} {p0 p':Pos} {D:Addr} (hm:X.mg "isinstance"=none) (hmc:X.mg y=some (.ref D)) (ha:DE X a ta)
  (hg:Gl X "isinstance":=by rfl) (hgc:Gl X y:=by rfl) (hdy:(y == ("__debug__":Str))=false:=by decide)
  (hs:starEach [a,.Name y p'] X.env=(false,eval a X.env) :: starEach [.Name y p'] X.env:=by rfl) (hs2:starEach [.Name y p'] X.env=(false,eval (.Name y p') X.env) :: starEach [] X.env:=by rfl)
  (hpl:(backTo pos (starEach [.Name y p'] X.env)).any (·.1)=false:=by rfl):
  DE X (.Call (.Name "isinstance" p0) [a,.Name y p'] [] pos) (ZL X.K (.ref D) ta):=by
 obtain ⟨te,p1,l1⟩:=ha
 have pc:PE X (.Name y p') (tC (.ref D)):=jA hgc hmc rfl hdy
 refine ⟨_,xB pN hg hm boot_isinstance (zQ p1 (zQ pc yM hs2) hs) (by decide) (by decide) hs hpl,fun ρ σ H Q r h R k=>l1 ρ σ H _ r h _ fun d v H1 s1 i1 ⟨C,b,ed,ok,e,q⟩=>?_⟩
 subst ed
 obtain ⟨z,rfl,hz⟩:=is_exc.mp i1
 exact ⟨z,C,_,_,b,rfl,fun u hu=>hu,H1.sub _ _ hz,ok,e,k _ _ H1 s1 (is_bl.mpr rfl) q⟩
theorem d8 {a:Expr} {ta:DTE} {p0 p':Pos} (hm:X.mg "isinstance"=none) (hmc:X.mg "ValueError"=none) (ha:DE X a ta)
  (hg:Gl X "isinstance":=by rfl) (hgc:Gl X "ValueError":=by rfl)
  (hs:starEach [a,.Name "ValueError" p'] X.env=(false,eval a X.env) :: starEach [.Name "ValueError" p'] X.env:=by rfl) (hs2:starEach [.Name "ValueError" p'] X.env=(false,eval (.Name "ValueError" p') X.env) :: starEach [] X.env:=by rfl)
  (hpl:(backTo pos (starEach [.Name "ValueError" p'] X.env)).any (·.1)=false:=by rfl):
  DE X (.Call (.Name "isinstance" p0) [a,.Name "ValueError" p'] [] pos) (ZL X.K (.type "ValueError") ta):=by
 obtain ⟨te,p1,l1⟩:=ha
 have pc:PE X (.Name "ValueError" p') (tC (.ty "ValueError")):=fun pins s σ H Q I h=>xy I hgc hmc (by decide +kernel) ⟨.ty "ValueError",H,I,rfl,h⟩
 refine ⟨_,xB pN hg hm boot_isinstance (zQ p1 (zQ pc yM hs2) hs) (by decide) (by decide) hs hpl,fun ρ σ H Q r h R k=>l1 ρ σ H _ r h _ fun d v H1 s1 i1 ⟨C,b,ed,ok,e,q⟩=>?_⟩
 subst ed
 obtain ⟨z,rfl,hz⟩:=is_exc.mp i1
 exact ⟨z,C,_,_,b,rfl,fun u hu=>hu,H1.sub _ _ hz,ok,e,k _ _ H1 s1 (is_bl.mpr rfl) q⟩
end
end OD
namespace OD
variable {Z:Hp}
open PySem PySem.Spec PyProof.Rows L2
def zE (X:Cx) (scope:Scope) (cl:List (Str × Addr)) (bs caps:List Str) (C:Addr) (s:Shared) (H:Hp) (fp:List Addr) (pins:List (Addr × Obj)):Cx where
 prog:=X.prog
 w:=X.w
 K:=X.K
 mg:=X.mg
 base:=X.base
 A:=X.A
 N:=bs ++ caps
 s₀:=s
 H₀:=H
 env:=compEnvC scope cl C X.env
 outer:=X.stack
 stack:=X.stack
 ex:=fp
 fn:=fun y=>bs.contains y
 calm:=X.calm
 pn:=X.pn ++ pins
 xe:=fun _ _=>False
structure sH (X:Cx) (scope:Scope) (cl:List (Str × Addr)) (bs caps:List Str) (js:List Nat):Prop where
 clos:closureFor scope X.env=pure cl
 sub:∀ y c,cl.lookup y=some c→X.env.cells.lookup y=some c
 has:∀ y,((relabel scope X.env).names.lookup y=some .cell∨(relabel scope X.env).names.lookup y=some .free)→∃ c,cl.lookup y=some c
 nox:∀ x ∈ bs,cl.lookup x=none
 cell:∀ y ∈ scope.names,y.2 ≠ .cell
 kind:scope.kind=.function
 names:∀ y ∈ scope.names,y.2=.local→scope.names.lookup y.1=some .local
 loc:∀ x ∈ bs,scope.names.lookup x=some .local
 nd:(bs ++ caps).Nodup
 len:js.length=caps.length
 at_:∀ (k:Nat) y,caps[k]? = some y→∃ j,js[k]? = some j∧X.N[j]? = some y
 cap:∀ y ∈ caps,(relabel scope X.env).names.lookup y=some .cell∧X.env.scope.names.lookup y=some .cell
theorem wG {prog:Program} {w:World} {A:Around} {s:Shared} {elt target iter:Expr} {ifs:List Expr} {scope:Scope} {pos:Pos} {it acc:Value} {env:Env} {R:Result→Shared→Prop} (I:Nat→Shared→Prop)
  (turn:∀ n s,I n s→wpAny (model prog w) A (pyNext it) (fun r s₁=>match r with
   | none=>R (.ok .next) s₁
   | some v=>wpAny (model prog w) A (letOwnedTupleGo target it v) (fun _ s₁'=>wpAny (model prog w) A (assign target env v) (fun _ s₂=>
     wpAny (model prog w) A (forIn ifs true fun c r=>if r=true then do let ok ← isTrue c env (eval c env); pure (ForInStep.yield ok) else pure (ForInStep.yield r)) (fun ok s₃=>
      if ok=true then wpAny (model prog w) A (eval elt env) (fun x s₄=>
       wpAny (model prog w) A (call (.builtin "list.append") [acc,x]) (fun _ s₅=>∃ m,m < n∧I m s₅) (notedBy (model prog w) A env fun e s'=>R (.error e) s') s₄) (notedBy (model prog w) A env fun e s'=>R (.error e) s') s₃
      else ∃ m,m < n∧I m s₃) (notedBy (model prog w) A env fun e s'=>R (.error e) s') s₂)
     (notedBy (model prog w) A env fun e s'=>R (.error e) s') s₁') (notedBy (model prog w) A env fun e s'=>R (.error e) s') s₁) (notedBy (model prog w) A env fun e s'=>R (.error e) s') s)
  (n:Nat) (h:I n s):codeAny (model prog w) A (.compLoop (.ListComp elt [⟨target,iter,ifs,0⟩] scope pos) 0 it acc env) R s:=by
 refine codeAny_loop rfl I (fun n s hI=>?_) n h
 show wpAny _ A ((compTurn (.ListComp elt [⟨target,iter,ifs,0⟩] scope pos) 0 it acc env).onRaise (fun x=>do noteFrame x env; theTreesLotGoes x)) _ _ s
 refine wpAny_noted ?_
 rw [compTurn_list]
 refine wpAny_bind (wpAny_standAt (wpAny_bind (wpAny_mono (turn n s hI) (fun r s₁ h₁=>?_) fun _ _ h'=>h')))
 cases r with
 | none=>exact wpAny_pure h₁
 | some v=>
  refine wpAny_bind (wpAny_mono h₁ (fun _ s₁' h₁'=>?_) fun _ _ h'=>h')
  refine wpAny_bind (wpAny_mono h₁' (fun _ s₂ h₂=>wpAny_bind (wpAny_mono h₂ (fun ok s₃ h₃=>?_) fun _ _ h'=>h')) fun _ _ h'=>h')
  cases ok with
  | false=>exact wpAny_pure ⟨rfl,h₃⟩
  | true=>
   exact wpAny_bind (wpAny_bind (wpAny_mono h₃ (fun x s₄ h₄=>wpAny_bind (wpAny_mono h₄ (fun _ s₅ h₅=>wpAny_pure (wpAny_pure ⟨rfl,h₅⟩)) fun _ _ h'=>h')) fun _ _ h'=>h'))
def PC (X:Cx) (ifs:List Expr) (t:TT):Prop:=
 ∀ (pins:List (Addr × Obj)) (s:Shared) (σ:St) (H:Hp) (Q:Bool→Hp→Prop) (E:Value→Shared→Prop),(∀ v s,X.xe v s→E v s)→Inv X pins σ H s→t σ H Q→
  wpAny (model X.prog X.w) X.A (forIn ifs true fun c r=>if r=true then do let ok ← isTrue c X.env (eval c X.env); pure (ForInStep.yield ok) else pure (ForInStep.yield r)) (TP X pins σ Q) E s
theorem Yn {X:Cx} {c:Expr} {t:TT} (p:PT X c t):PC X [c] t:=fun pins s σ H Q _ hE I h=>wpAny_tests_one (wpAny_mono (p pins s σ H Q I h) (fun _ _ z=>z) hE)
section
variable {X:Cx} {pins:List (Addr × Obj)} {σ:St} {H:Hp} {s:Shared} {scope:Scope} {cl:List (Str × Addr)} {bs caps:List Str} {js:List Nat} {fp:List Addr}
theorem gv {h₁:Heap} {t:Nat} {m:Str→Option Value} (I:Inv X pins σ H s) (S:sH X scope cl bs caps js) (hfp:∀ b ∈ fp,vJ X pins H b) (hob:∀ b ∈ fp,∃ o,s.heap.get? b=some o)
  (hn:h₁.Ns s.heap.objs.size m) (hk:∀ b o,s.heap.get? b=some o→h₁.get? b=some o):Inv (zE X scope cl bs caps s.heap.objs.size s H fp pins) [] (bs.map (fun _=>none) ++ sf σ js) H { s with heap:=h₁,toks:=t }:=by
 refine ⟨⟨I.ok.mod,S.kind,I.ok.glob,I.ok.blt,Nat.le_refl _,fun y z c h1 h2=>?_,fun y hy=>?_,fun y c hf h=>?_,I.ok.hd,I.ok.frames,.inl rfl,fun b hb=>⟨?_,fun y c h=>?_⟩,I.bs,Nat.le_trans I.ok.bsz I.sz,fun b o e hb=>?_,fun b hb z=>?_,I.stack,I.stkFree⟩,
  rfl,I.bare,Un.kept hk,⟨_,hn,fun i y v h1 h2 h3=>?_⟩,fun y c h=>?_,I.hok.fresh (Nat.le_refl _),fun y c h=>?_,fun p hp=>?_,I.hok.kept hk,?_⟩
 ·exact I.ok.inj y z c (S.sub y c h1) (S.sub z c h2)
 ·exact S.has y hy
 ·have hf:y ∈ bs:=List.contains_iff_mem.mp hf
  have h:cl.lookup y=some c:=h
  rw [S.nox y hf] at h
  cases h
 ·obtain ⟨o,e⟩:=hob b hb
  exact Nat.ne_of_lt (Heap.lt_size e)
 ·exact (hfp b hb).2.2.2.2.1 y c (S.sub y c h)
 ·obtain ⟨_,_,_,h4,_⟩:=hfp b hb
  rcases h4 with h4 | h4
  ·exact I.ok.noex b o e h4
  ·exact absurd (Nat.lt_of_lt_of_le (Heap.lt_size e) (Nat.le_trans I.ok.bsz h4)) (Nat.lt_irrefl _)
 ·obtain ⟨_,h2,h3,_⟩:=hfp b hb
  rcases List.mem_cons.mp (I.stkSub b z) with q | q
  ·exact h2 q
  ·exact h3 q
 ·by_cases hi:i < bs.length
  ·rw [List.getElem?_append_left (by rw [List.length_map]; exact hi),List.getElem?_map] at h2
   obtain ⟨_,_,e⟩:=Option.map_eq_some_iff.mp h2
   cases e
  ·have hi:bs.length ≤ i:=Nat.le_of_not_lt hi
   have h1:(bs ++ caps)[i]? = some y:=h1
   rw [List.getElem?_append_right hi] at h1
   rw [List.getElem?_append_right (by rw [List.length_map]; exact hi),List.length_map] at h2
   obtain ⟨j,hj,hN⟩:=S.at_ _ y h1
   have hv:σ[j]? = some (some v):=by
    unfold sf at h2
    rw [List.getElem?_map,hj] at h2
    have h2:(σ[j]?).getD none=some v:=Option.some.inj h2
    cases q:σ[j]? with
    | none=>rw [q] at h2; cases h2
    | some w=>rw [q] at h2; exact congrArg some h2
   obtain ⟨c1,c2⟩:=S.cap y (List.mem_of_getElem? h1)
   obtain ⟨m0,_,hl⟩:=I.loc
   obtain ⟨u,ru,lk⟩:=hl j y v hN hv (.inr (.inl c2))
   refine ⟨u,ru,.inr ⟨.inl c1,?_⟩⟩
   obtain ⟨c,hc⟩:=S.has y (.inl c1)
   rcases lk with ⟨lk,_⟩ | ⟨_,c',hc',hcell⟩
   ·have lk:X.env.scope.names.lookup y=some .local:=lk
    rw [c2] at lk
    cases lk
   ·have e:=S.sub y c hc
    rw [hc'] at e
    cases e
    obtain ⟨o,ho,hd⟩:=hcell
    exact ⟨_,hc,o,hk _ _ ho,hd⟩
 ·obtain ⟨v,o,ho,hd⟩:=I.cell y c (S.sub y c h)
  exact ⟨v,o,hk _ _ ho,hd⟩
 ·exact I.freeC y c (S.sub y c h)
 ·have hp:p ∈ X.pn ++ pins:=by
   rcases List.mem_append.mp hp with q | q
   ·exact q
   ·cases q
  obtain ⟨h1,h2,h3,h4,h5⟩:=I.pin p hp
  refine ⟨hk _ _ h1,h2,Nat.ne_of_lt (Heap.lt_size h1),fun z=>?_,h5⟩
  rcases List.mem_cons.mp (I.stkSub _ z) with q | q
  ·exact h3 q
  ·exact h4 q
 ·show (bs.map (fun _=>none) ++ sf σ js).length=(bs ++ caps).length
  unfold sf
  rw [List.length_append,List.length_append,List.length_map,List.length_map,S.len]
theorem gw {C:Addr} {σ':St} {H':Hp} {s':Shared} (I:Inv X pins σ H s) (hfp:∀ b ∈ fp,vJ X pins H b) (I':Inv (zE X scope cl bs caps C s H fp pins) [] σ' H' s'):Inv X pins σ H' s':=
 I.call' (ch:=fp) I'.os I'.base I'.hok I'.bare fun b hb=>by
  obtain ⟨_,h2,_,h4,h5,h6⟩:=hfp b hb
  exact ⟨h4,h2,h5,h6⟩
def lE (gt:TG) (tt:TT) (te:TE) (k:Nat) (τ:St) (Q:V→Hp→Prop):It→Hp→Prop:=fun J H1=>∃ (n:Nat) (vals:Nat→V→Prop),n < sizeLine∧∀ D,H1 D=none→∃ Pv:Nat→List V→Hp→Prop,
 Pv 0 [] (upd H1 D (.lst []))∧(∀ i ys H2,i ≤ n→Pv i ys H2→H2 D=some (.lst ys)∧ys.length ≤ i)∧
 (∀ i ys H2,i < n→Pv i ys H2→J.go i H2∧∀ v H3,J.yld i H2 v H3→H3=H2∧vals i v)∧(∀ ys H2,Pv n ys H2→J.stop n H2)∧
 (∀ i v ys H2 (σ0:St),i < n→vals i v→Pv i ys H2→σ0.length=k→gt v (σ0 ++ τ) H2 fun σ1 H3=>(∃ σ2:St,σ1=σ2 ++ τ∧σ2.length=k)∧tt σ1 H3 fun b H4=>
  if b=true then te σ1 H4 fun y H5=>H5 D=some (.lst ys)∧Pv (i + 1) (ys ++ [y]) (upd H5 D (.lst (ys ++ [y]))) else Pv (i + 1) ys H4)∧∀ ys H2,Pv n ys H2→Q (.ref D) H2
def g9 (wi:TI) (gt:TG) (tt:TT) (te:TE) (k:Nat) (js:List Nat):TE:=fun σ H Q=>wi σ H (lE gt tt te k (sf σ js) Q)
theorem mU {elt tg iter:Expr} {ifs:List Expr} {pos:Pos} {it D:Addr} {n:Nat} {J:It} {vals:Nat→V→Prop} {τ:St} {tn:Nat→Heap→Prop} {gt:TG} {tt:TT} {te:TE} {R:Result→Shared→Prop} {s₄:Shared} {Pv:Nat→List V→Hp→Prop} {C:Addr} (hc:X.calm=true)
  (hg:PG (zE X scope cl bs caps C s H fp pins) tg gt) (ht':PC (zE X scope cl bs caps C s H fp pins) ifs tt)
  (he:PE (zE X scope cl bs caps C s H fp pins) elt te) {σ0:St} (hσ0:σ0.length=bs.length) (I:Inv (zE X scope cl bs caps C s H fp pins) [] (σ0 ++ τ) H s₄) (T:o3 X.prog X.w X.K tg J fp it tn) (t0:tn 0 s₄.heap)
  (hfp:∀ b ∈ fp,vJ (zE X scope cl bs caps C s H fp pins) [] H b) (hn:n < sizeLine)
  (h0:Pv 0 [] H) (hl:∀ i ys H2,i ≤ n→Pv i ys H2→H2 D=some (.lst ys)∧ys.length ≤ i)
  (hgo:∀ i ys H2,i < n→Pv i ys H2→J.go i H2∧∀ v H3,J.yld i H2 v H3→H3=H2∧vals i v) (hst:∀ ys H2,Pv n ys H2→J.stop n H2)
  (ht:∀ i v ys H2 (σ0:St),i < n→vals i v→Pv i ys H2→σ0.length=bs.length→gt v (σ0 ++ τ) H2 fun σ1 H3=>(∃ σ2:St,σ1=σ2 ++ τ∧σ2.length=bs.length)∧tt σ1 H3 fun b H4=>
   if b=true then te σ1 H4 fun y H5=>H5 D=some (.lst ys)∧Pv (i + 1) (ys ++ [y]) (upd H5 D (.lst (ys ++ [y]))) else Pv (i + 1) ys H4)
  (hR:∀ σ' H' ys s',Inv (zE X scope cl bs caps C s H fp pins) [] σ' H' s'→Pv n ys H'→R (.ok .next) s'):
  codeAny (model X.prog X.w) X.A (.compStart (.ListComp elt [⟨tg,iter,ifs,0⟩] scope pos) 0 (.ref it) (.ref D) (compEnvC scope cl C X.env)) R s₄:=by
 have loop:codeAny (model X.prog X.w) X.A (.compLoop (.ListComp elt [⟨tg,iter,ifs,0⟩] scope pos) 0 (.ref it) (.ref D) (compEnvC scope cl C X.env)) R s₄:=by
  refine wG (fun k s'=>∃ i ys,∃ σ1:St,∃ H',k=n + 1 - i∧i ≤ n∧σ1.length=bs.length∧Inv (zE X scope cl bs caps C s H fp pins) [] (σ1 ++ τ) H' s'∧tn i s'.heap∧(∀ b ∈ fp,vJ (zE X scope cl bs caps C s H fp pins) [] H' b)∧Pv i ys H') ?_ (n + 1) ⟨0,[],σ0,H,rfl,Nat.zero_le _,hσ0,I,t0,hfp,h0⟩
  rintro k s' ⟨i,ys,σ1,H',rfl,hi,hσ1,I',tn',hfp',hp⟩
  obtain ⟨q2,q3⟩:=hl i ys H' hi hp
  by_cases hlt:i < n
  ·obtain ⟨g,gy⟩:=hgo i ys H' hlt hp
   refine wpAny_mono (T.item (zE X scope cl bs caps C s H fp pins) rfl rfl rfl hc i [] s' (σ1 ++ τ) H' (notedBy (model X.prog X.w) X.A (compEnvC scope cl C X.env) fun e s'=>R (.error e) s') I' hfp' tn' g) (fun r s1 ⟨u,er,hq⟩=>?_) fun _ _ z=>z
   subst er
   refine wpAny_mono hq (fun _ s1' hq'=>?_) fun _ _ z=>z
   obtain ⟨v,H1,I1,rv,yv,tn1,fn1⟩:=hq'
   obtain ⟨eH,hv⟩:=gy v H1 yv
   subst eH
   have hpin:∀ b ∈ fp,∃ o,s1'.heap.get? b=some o∧∀ v,o.data ≠ .cell v:=T.obj (i + 1) s1'.heap tn1
   have IP:Inv (zE X scope cl bs caps C s H fp pins) (xv fp s1'.heap) (σ1 ++ τ) H1 s1':=by
    have:=I1.pinned hfp' hpin
    rw [List.nil_append] at this
    exact this
   refine wpAny_mono (hg (xv fp s1'.heap) s1' (σ1 ++ τ) H1 v u _ IP rv (ht i v ys H1 σ1 hlt hv hp hσ1)) (fun _ s2 h2=>?_) fun _ _ z=>z.elim
   obtain ⟨σ2',H2,I2,⟨σ2,e2,l2⟩,w2⟩:=h2
   subst e2
   refine wpAny_mono (ht' (xv fp s1'.heap) s2 (σ2 ++ τ) H2 _ (fun _ _=>False) (fun _ _ z=>z) I2 w2) (fun b s3 h3=>?_) fun _ _ z=>z.elim
   obtain ⟨H3,I3,w3⟩:=h3
   have pinned:∀ {s4:Shared} {H4:Hp} {σ4:St},Inv (zE X scope cl bs caps C s H fp pins) (xv fp s1'.heap) σ4 H4 s4→∀ b ∈ fp,∀ o,s1'.heap.get? b=some o→s4.heap.get? b=some o∧H4 b=none:=fun I4 b hb o e=>
    have z:=I4.pin (b,o) (List.mem_append_right _ (vA hb e))
    ⟨z.1,z.2.1⟩
   cases b with
   | false=>
    have w3:Pv (i + 1) ys H3:=w3
    show ∃ m,m < n + 1 - i∧_
    refine ⟨n + 1 - (i + 1),by omega,i + 1,ys,σ2,H3,rfl,hlt,l2,I3.pins_of (fun p z=>nomatch z),T.keep _ _ _ tn1 fun b hb o e=>(pinned I3 b hb o e).1,fun b hb=>⟨?_,(hfp' b hb).2⟩,w3⟩
    obtain ⟨o,e,_⟩:=hpin b hb
    exact (pinned I3 b hb o e).2
   | true=>
    show wpAny _ _ _ _ _ _
    refine wpAny_mono (he (xv fp s1'.heap) s3 (σ2 ++ τ) H3 _ I3 w3) (fun y s4 h4=>?_) fun _ _ z=>z.elim
    obtain ⟨y',H4,I4,ry,hD,hp4⟩:=h4
    refine wpAny_mono (pq (X:=zE X scope cl bs caps C s H fp pins) (xv fp s1'.heap) s4 (σ2 ++ τ) H4 (.ref D) [y'] (.ref D) [y] (fun _ H5=>H5=upd H4 D (.lst (ys ++ [y']))) I4 rfl (.cons ry .nil) ⟨D,ys,y',rfl,rfl,hD,by omega,rfl⟩) (fun _ s5 h5=>?_) fun _ _ z=>z.elim
    obtain ⟨_,H5,I5,_,e5⟩:=h5
    subst e5
    refine ⟨n + 1 - (i + 1),by omega,i + 1,ys ++ [y'],σ2,_,rfl,hlt,l2,I5.pins_of (fun p z=>nomatch z),T.keep _ _ _ tn1 fun b hb o e=>(pinned I5 b hb o e).1,fun b hb=>⟨?_,(hfp' b hb).2⟩,hp4⟩
    obtain ⟨o,e,_⟩:=hpin b hb
    exact (pinned I5 b hb o e).2
  ·have e:i=n:=by omega
   subst e
   refine wpAny_mono (T.done (zE X scope cl bs caps C s H fp pins) rfl rfl rfl hc i [] s' (σ1 ++ τ) H' (fun _ _=>False) I' hfp' tn' (hst ys H' hp)) (fun r s1 ⟨er,I1⟩=>?_) fun _ _ z=>z.elim
   subst er
   exact hR _ H' ys s1 I1 hp
 exact codeAny_compStart_list loop (T.self X.A 0 s₄ _ _ t0 loop)
theorem jo {elt tg iter:Expr} {ifs:List Expr} {pos:Pos} {gt:TG} {tt:TT} {te:TE} {Q:V→Hp→Prop} {s2:Shared} {it:Addr} {tn:Nat→Heap→Prop} {J:It} {H':Hp} {RR:Value→Addr→Result→Shared→Prop} {E:Value→Shared→Prop} (hc:X.calm=true) (S:sH X scope cl bs caps js)
  (hg:∀ C s H fp pins,PG (zE X scope cl bs caps C s H fp pins) tg gt) (ht':∀ C s H fp pins,PC (zE X scope cl bs caps C s H fp pins) ifs tt)
  (he:∀ C s H fp pins,PE (zE X scope cl bs caps C s H fp pins) elt te) (I2:Inv X pins σ H' s2) (T:o3 X.prog X.w X.K tg J fp it tn) (t0:tn 0 s2.heap) (hfp:∀ b ∈ fp,vJ X pins H' b) (hr:lE gt tt te bs.length (sf σ js) Q J H')
  (hRR:∀ D C H3 s',Inv X pins σ H3 s'→(∃ m,s'.heap.Ns C m)→H3 C=none→C ≠ X.env.locals→X.s₀.heap.objs.size ≤ C→(∀ y c,X.env.cells.lookup y=some c→c ≠ C)→(∀ p ∈ X.pn ++ pins,p.1 ≠ C)→Q (.ref D) H3→
   RR (.ref D) C (.ok .next) s'):
  wpAny (model X.prog X.w) X.A (newList []) (fun acc s₃=>wpAny (model X.prog X.w) X.A (newFunctionEnv scope X.env.globals cl [] X.env.qual none .none (some X.env)) (fun cenv s₄=>
   codeAny (model X.prog X.w) X.A (.compStart (.ListComp elt [⟨tg,iter,ifs,0⟩] scope pos) 0 (.ref it) acc { cenv with scope:=relabel scope X.env }) (RR acc cenv.locals) s₄) E s₃) E s2:=by
 obtain ⟨n,vals,hn,hD⟩:=hr
 obtain ⟨Pv,h0,hl,hgo,hst,ht,hd⟩:=hD s2.heap.objs.size I2.fresh
 refine wpAny_newObj_type (wpAny_newFunctionEnv S.cell (by intro y hy; simp at hy) (fun h₁ hns₁ hsb₁=>?_) S.kind)
 dsimp only at hns₁ hsb₁ ⊢
 have I3:Inv X pins σ (upd H' s2.heap.objs.size (.lst [])) { s2 with heap:=s2.heap.push { cls:=.type "list",data:=.seq ([]:List Value).toArray } }:=I2.lnew (its:=[]) (t':=s2.toks) .nil (by show 0 ≤ sizeLine; omega)
 have hob:=T.obj 0 s2.heap t0
 have keep:∀ b o,(s2.heap.push { cls:=.type "list",data:=.seq ([]:List Value).toArray }).get? b=some o→h₁.get? b=some o:=fun b o e=>
  hsb₁.extBut b o (Nat.ne_of_lt (Heap.lt_size e)) (Heap.get?_push_of_some _ e)
 have fp3:∀ b ∈ fp,vJ X pins (upd H' s2.heap.objs.size (.lst [])) b:=fun b hb=>by
  obtain ⟨o,e,_⟩:=hob b hb
  exact ⟨(zx (Nat.ne_of_lt (Heap.lt_size e))).trans (hfp b hb).1,(hfp b hb).2⟩
 have IY:=gv (t:=s2.toks + ([]:List (Str × Value)).length) I3 S fp3 (fun b hb=>by
  obtain ⟨o,e,_⟩:=hob b hb
  exact ⟨o,Heap.get?_push_of_some _ e⟩) hns₁ keep
 refine mU (D:=s2.heap.objs.size) (n:=n) (vals:=vals) (Pv:=Pv) hc (hg _ _ _ _ _) (ht' _ _ _ _ _) (he _ _ _ _ _) (List.length_map _) IY T (T.keep _ _ _ t0 fun b hb o e=>keep b o (Heap.get?_push_of_some _ e)) (fun b hb=>?_) hn h0 hl hgo hst ht (fun σ' H3 ys s' I' hp=>?_)
 ·obtain ⟨f1,f2,f3,f4,f5,f6⟩:=fp3 b hb
  obtain ⟨o,e,_⟩:=hob b hb
  refine ⟨f1,Nat.ne_of_lt (Heap.lt_size (Heap.get?_push_of_some _ e)),fun z=>?_,.inl hb,fun y c h=>f5 y c (S.sub y c h),fun p hp=>?_⟩
  ·rcases List.mem_cons.mp (I3.stkSub b z) with q | q
   ·exact f2 q
   ·exact f3 q
  ·rcases List.mem_append.mp hp with q | q
   ·exact f6 p q
   ·cases q
 ·obtain ⟨m,hn,_⟩:=I'.loc
  refine hRR _ _ H3 s' (gw I3 fp3 I') ⟨m,hn⟩ I'.free (Nat.ne_of_gt I3.lt) I3.sz (fun y c h z=>?_) (fun p hp z=>?_) (hd ys H3 hp)
  ·obtain ⟨v,q⟩:=I3.cell y c h
   exact absurd q.lt (by rw [z]; exact Nat.lt_irrefl _)
  ·exact absurd (Heap.lt_size (I3.pin p hp).1) (by rw [z]; exact Nat.lt_irrefl _)
theorem fI {elt tg iter:Expr} {ifs:List Expr} {pos:Pos} {wi:TI} {gt:TG} {tt:TT} {te:TE} (hc:X.calm=true) (S:sH X scope cl bs caps js) (hl:PI X tg iter wi) (hg:∀ C s H fp pins,PG (zE X scope cl bs caps C s H fp pins) tg gt)
  (ht':∀ C s H fp pins,PC (zE X scope cl bs caps C s H fp pins) ifs tt) (he:∀ C s H fp pins,PE (zE X scope cl bs caps C s H fp pins) elt te)
  (hs:∀ y,foldedSetIterable iter X.env y=pure y:=by intro _; rfl):PE X (.ListComp elt [⟨tg,iter,ifs,0⟩] scope pos) (g9 wi gt tt te bs.length js):=by
 intro pins s σ H Q I h
 rw [eval_ListComp]
 refine wpAny_comprehension_free (use:=none) rfl hs S.clos S.kind S.names (thn (hl pins s σ H (lE gt tt te bs.length (sf σ js) Q) I h) fun v s1 h1=>thn h1 fun itv s2 h2=>?_)
 obtain ⟨it,fp,tn,J,H',rfl,I2,T,t0,hfp,hr⟩:=h2
 refine jo (RR:=fun acc C=>compPost (model X.prog X.w) X.A X.xe none (EP X pins σ Q) acc C) hc S hg ht' he I2 T t0 hfp hr ?_
 intro D C H3 s' I' ⟨m,hn⟩ hC h1 h2 h3 h4 q
 exact ⟨m,hn,fun h' hs'=>⟨.ref D,H3,I'.turned (it:=C) (fun b o hb e=>hs'.extBut b o hb e) hC h1 (.inr h2) h3 h4,rfl,q⟩⟩
end
end OD
namespace OD
variable {Z:Hp}
open PySem PySem.Spec PyProof.Rows L2
def oX (osc scope:Scope) (bs caps:List Str) (js:List Nat) (N:List Str):Bool:=
 scope.names.all (fun y=>y.2 != .cell && (y.2 != .local || scope.names.lookup y.1 == some .local) && (y.2 != .free || (osc.names.lookup y.1 == some .cell && !bs.contains y.1))) && (scope.kind == .function) && (osc.kind == .function) && bs.all (fun x=>scope.names.lookup x == some .local) &&
 decide (bs ++ caps).Nodup && (js.map (fun j=>N[j]?) == caps.map some) && caps.all (fun y=>scope.names.lookup y == some .free && osc.names.lookup y == some .cell)
theorem aY {X:Cx} {osc scope:Scope} {bs:List Str} {caps:List Str} {js:List Nat} {L:Addr} (h:oX osc scope bs caps js X.N=true) (he:X.env.scope=osc) (hc:X.env.cells=cellsFrom (L + 1) osc.names []):sH X scope (vF X.env.cells scope.names) bs caps js:=by
 unfold oX at h
 simp only [Bool.and_eq_true] at h
 obtain ⟨⟨⟨⟨⟨⟨h1,h2⟩,h3⟩,h4⟩,h5⟩,h6⟩,h7⟩:=h
 rw [List.all_eq_true] at h1 h4 h7
 have hfree:∀ y,(y,NameKind.free) ∈ scope.names→osc.names.lookup y=some .cell∧bs.contains y=false:=fun y hy=>by
  have q:=h1 _ hy
  rw [Bool.and_eq_true,Bool.and_eq_true] at q
  have q:(osc.names.lookup y == some .cell && !bs.contains y)=true:=q.2
  rw [Bool.and_eq_true] at q
  exact ⟨eq_of_beq q.1,by cases z:bs.contains y with | false=>rfl | true=>rw [z] at q; cases q.2⟩
 have hcell:∀ y,osc.names.lookup y=some .cell→∃ c,X.env.cells.lookup y=some c:=fun y hy=>by rw [hc]; exact rQ hy
 have hfc:∀ y,(y,NameKind.free) ∈ scope.names→∃ c,X.env.cells.lookup y=some c:=fun y hy=>hcell y (hfree y hy).1
 have hk:X.env.scope.kind=.function:=by rw [he]; exact eq_of_beq h3
 have hj:js.map (fun j=>X.N[j]?)=caps.map some:=eq_of_beq h6
 refine ⟨aZ hfc,fun y c q=>(mem_clOf.mp (PySem.mem_of_lookup q)).2,fun y q=>?_,fun x hx=>?_,fun y hy e=>?_,eq_of_beq h2,fun y hy e=>?_,fun x hx=>eq_of_beq (h4 x hx),of_decide_eq_true h5,?_,fun k y q=>?_,fun y hy=>?_⟩
 ·have:(y,NameKind.free) ∈ scope.names:=by
   have mem:∃ k,(y,k) ∈ (relabel scope X.env).names∧(k=.cell∨k=.free):=by
    rcases q with q | q
    ·exact ⟨_,PySem.mem_of_lookup q,.inl rfl⟩
    ·exact ⟨_,PySem.mem_of_lookup q,.inr rfl⟩
   obtain ⟨k,hm,hk'⟩:=mem
   obtain ⟨⟨n,k0⟩,hn,e⟩:=List.mem_map.mp hm
   have ncell:k0 ≠ .cell:=fun z=>by
    have q:=h1 _ hn
    rw [Bool.and_eq_true,Bool.and_eq_true] at q
    exact absurd z (bne_iff_ne.mp q.1.1)
   dsimp only at e
   split at e
   ·rename_i hz
    rw [Bool.and_eq_true,Bool.and_eq_true] at hz
    obtain rfl:=eq_of_beq hz.1.1
    cases e
    exact hn
   ·cases e
    rcases hk' with z | z
    ·exact absurd z ncell
    ·rw [z] at hn; exact hn
  obtain ⟨c,hc'⟩:=hfc y this
  exact rq (mem_clOf.mpr ⟨this,hc'⟩)
 ·cases q:(vF X.env.cells scope.names).lookup x with
  | none=>rfl
  | some c=>
   have z:=(hfree x (mem_clOf.mp (PySem.mem_of_lookup q)).1).2
   rw [List.contains_iff_mem.mpr hx] at z
   cases z
 ·have q:=h1 y hy
  rw [Bool.and_eq_true,Bool.and_eq_true] at q
  exact absurd e (bne_iff_ne.mp q.1.1)
 ·have q:=h1 y hy
  rw [Bool.and_eq_true,Bool.and_eq_true,e] at q
  exact eq_of_beq (show (scope.names.lookup y.1 == some .local)=true from q.1.2)
 ·have:=congrArg List.length hj
  rwa [List.length_map,List.length_map] at this
 ·have e:(js.map fun j=>X.N[j]?)[k]? = (caps.map some)[k]?:=by rw [hj]
  rw [List.getElem?_map,List.getElem?_map,q] at e
  obtain ⟨j,hj1,hj2⟩:=Option.map_eq_some_iff.mp e
  exact ⟨j,hj1,hj2⟩
 ·have q:=h7 y hy
  rw [Bool.and_eq_true] at q
  have q2:X.env.scope.names.lookup y=some .cell:=by rw [he]; exact eq_of_beq q.2
  exact ⟨yQ hk (eq_of_beq q.1) q2,q2⟩
theorem jx {K:PySem.W.Frag} {F:Hp} {W W2:Vw} {ρ:DS} {σ:St} {js:List Nat} {ds:List Dt} {vs:List V} (r:Rl K Z F W ρ σ) (s2:Same W.g W2.g) (i:AllIs K W2.g ds vs):Rl K (fun _=>none) W2.h W2 (ds.map Sl.some ++ rS ρ js) (vs.map some ++ sf σ js):=by
 have no:∀ (j:Nat) (es:List Dt),(ds.map Sl.some ++ rS ρ js)[j]? = some (.own es)→False:=fun j es q=>by
  have q:=List.mem_of_getElem? q
  rcases List.mem_append.mp q with q | q
  ·obtain ⟨_,_,e⟩:=List.mem_map.mp q
   cases e
  ·unfold rS at q
   obtain ⟨j,_,e⟩:=List.mem_map.mp q
   split at e <;> cases e
 have noA:∀ (j:Nat) (a:Addr) (es:List Dt),(ds.map Sl.some ++ rS ρ js)[j]? = some (.arg a es)→False:=fun j a es q=>by
  have q:=List.mem_of_getElem? q
  rcases List.mem_append.mp q with q | q
  ·obtain ⟨_,_,e⟩:=List.mem_map.mp q
   cases e
  ·unfold rS at q
   obtain ⟨j,_,e⟩:=List.mem_map.mp q
   split at e <;> cases e
 refine ⟨by unfold rS sf; rw [List.length_append,List.length_append,List.length_map,List.length_map,List.length_map,List.length_map,i.length],fun j e q=>?_,fun j ds q=>(no j ds q).elim,fun j j' ds ds' _ q _=>(no j ds q).elim,Same.refl _,(fun _ _ q=>nomatch q),fun j a ds q=>(noA j a ds q).elim⟩
 by_cases hj:j < ds.length
 ·rw [List.getElem?_append_left (by rw [List.length_map]; exact hj),List.getElem?_map] at q
  obtain ⟨d,hd,e1⟩:=Option.map_eq_some_iff.mp q
  cases e1
  obtain ⟨v,hv,iv⟩:=i.get hd
  exact ⟨v,by rw [List.getElem?_append_left (by rw [List.length_map,← i.length]; exact hj),List.getElem?_map,hv]; rfl,iv⟩
 ·have hj:ds.length ≤ j:=Nat.le_of_not_lt hj
  rw [List.getElem?_append_right (by rw [List.length_map]; exact hj),List.length_map] at q
  rw [List.getElem?_append_right (by rw [List.length_map,← i.length]; exact hj),List.length_map,← i.length]
  unfold rS at q
  rw [List.getElem?_map] at q
  obtain ⟨k,hk,e2⟩:=Option.map_eq_some_iff.mp q
  split at e2
  ·rename_i d' hd
   cases e2
   obtain ⟨u,hu,iu⟩:=r.at_ k e hd
   refine ⟨u,?_,Is.mono0 s2 iu⟩
   unfold sf
   rw [List.getElem?_map,hk]
   show some ((σ[k]?).getD none)=_
   rw [hu]
   rfl
  ·cases e2
abbrev DTI:=DS→(Nat→(Nat→Dt→Prop)→Prop)→Prop
def LiI (K:PySem.W.Frag) (Z:Hp) (wi:TI) (di:DTI):Prop:=∀ {F:Hp} (ρ:DS) (σ:St) (W:Vw) (Q:Nat→(Nat→Dt→Prop)→Prop),Rl K Z F W ρ σ→di ρ Q→∀ R:It→Hp→Prop,
 (∀ (J:It) (n:Nat) (vals:Nat→Dt→Prop) (W1:Vw),Le W W1→n ≤ 100000→(∀ W2:Vw,Same W1.g W2.g→(∀ i,i < n→J.go i W2.h∧∀ v H3,J.yld i W2.h v H3→H3=W2.h∧∃ e,vals i e∧Is K W1.g e v)∧J.stop n W2.h)→Q n vals→R J W1.h)→wi σ W.h R
def DI (X:Cx) (tg iter:Expr) (di:DTI):Prop:=∃ wi,PI X tg iter wi∧LiI X.K (Zx X) wi di
def LiG (K:PySem.W.Frag) (k:Nat) (gt:TG) (dg:Dt→List Dt→Prop):Prop:=∀ (e:Dt) (v:V) (σ0 τ:St) (W:Vw) (as:List Dt),σ0.length=k→Is K W.g e v→dg e as→∀ Q:St→Hp→Prop,
 (∀ vs,AllIs K W.g as vs→vs.length=k→Q (vs.map some ++ τ) W.h)→gt v (σ0 ++ τ) W.h Q
def VT:Dt→List Dt→Prop:=fun e as=>∃ a b,e=.tup [a,b]∧as=[a,b]
theorem ay {K:PySem.W.Frag}:LiG K 2 (VL K 2 (dG (jH 0) (dG (jH 1) VM))) VT:=by
 rintro e v σ0 τ W as hl i ⟨a,b,rfl,rfl⟩ Q q
 obtain ⟨T,us,rfl,hT,hu⟩:=is_tup.mp i
 obtain ⟨v1,v2,rfl,k1,k2⟩:=hu.two
 match σ0,hl with
 | [x,y],_=>exact ⟨T,_,rfl,.of (W.sub _ _ hT),rfl,v1,[v2],rfl,v2,[],rfl,rfl,q [v1,v2] hu rfl⟩
def DC (X:Cx) (ifs:List Expr) (t:DTT):Prop:=∃ tt,PC X ifs tt∧LiT X.K (Zx X) tt t
theorem Wb {X:Cx} {c:Expr} {t:DTT} (h:DT X c t):DC X [c] t:=let ⟨_,p,l⟩:=h; ⟨_,Yn p,l⟩
def Zv (K:PySem.W.Frag) (t:DTT):TT:=fun σ H R=>∃ (F:Hp) (ρ:DS) (W:Vw) (Q:Bool→Prop),W.h=H∧Rl K (fun _=>none) F W ρ σ∧t ρ Q∧∀ d W',Le W W'→Q d→R d W'.h
theorem DC.up {X:Cx} {ifs:List Expr} {t:DTT} (h:DC X ifs t) (hz:X.stack.length=X.outer.length:=by rfl):PC X ifs (Zv X.K t):=by
 obtain ⟨te,p,l⟩:=h
 intro pins s σ H R E hE I q
 obtain ⟨F,ρ,W,Q,rfl,r,h,k⟩:=q
 have r':Rl X.K (Zx X) F W ρ σ:=by unfold Zx; rw [if_pos (Or.inl hz)]; exact r
 exact p pins s σ W.h R E hE I (l ρ σ W Q r' h R k)
theorem dq {K:PySem.W.Frag} {t:DTT}:LiT K (fun _=>none) (Zv K t) t:=fun ρ σ H Q r h R k=>⟨_,ρ,H,Q,rfl,r,h,k⟩
def jm (js:List Nat) (di:DTI) (dg:Dt→List Dt→Prop) (tt:DTT) (te:DTE):DTE:=fun ρ Q=>di ρ fun n vals=>∃ Pv:Nat→List Dt→Prop,Pv 0 []∧
 (∀ (i:Nat) e es,i < n→vals i e→Pv i es→∃ as,dg e as∧tt (as.map Sl.some ++ rS ρ js) fun b=>if b=true then te (as.map Sl.some ++ rS ρ js) fun y=>Pv (i + 1) (es ++ [y]) else Pv (i + 1) es)∧∀ es,Pv n es→Q (.lst es)
theorem dr {K:PySem.W.Frag} {wi:TI} {gt:TG} {tt:TT} {te:TE} {di:DTI} {dg:Dt→List Dt→Prop} {dt:DTT} {u:DTE} {k:Nat} {js:List Nat} (h1:LiI K Z wi di) (hg:LiG K k gt dg) (ht':LiT K (fun _=>none) tt dt) (h2:LiE K (fun _=>none) te u):LiF K Z (g9 wi gt tt te k js) (jm js di dg dt u):=by
 intro F ρ σ H Q r h R kk
 refine h1 ρ σ H _ r h _ fun J n vals W1 s1 hn hJ ⟨Pv,h0,ht,hd⟩=>?_
 have r1:=r.mono s1
 refine ⟨n,fun i v=>∃ e,vals i e∧Is K W1.g e v,Nat.lt_of_le_of_lt hn (by decide),fun D hD=>?_⟩
 have gD:W1.g D=none:=W1.sub.free hD
 have stp:∀ {W2 W3:Vw} {ys:List V} {es:List Dt},Same W1.g W2.g∧Same W1.h (fun b=>if b=D then none else W2.h b)∧(∀ b,W1.h b ≠ none→W1.g b=none→W2.g b=none)∧W2.h D=some (.lst ys)∧W2.g D=none∧AllIs K W2.g es ys→Le W2 W3→
   Same W1.g W3.g∧Same W1.h (fun b=>if b=D then none else W3.h b)∧(∀ b,W1.h b ≠ none→W1.g b=none→W3.g b=none)∧W3.h D=some (.lst ys)∧W3.g D=none∧AllIs K W3.g es ys:=by
  rintro W2 W3 ys es ⟨s2,sh,sn,q1,q2,q3⟩ s3
  refine ⟨s2.trans s3.g,fun b o q=>?_,fun b z1 z2=>?_,s3.h _ _ q1,s3.n D (by rw [q1]; intro z; cases z) q2,q3.mono s3⟩
  ·have q':(if b=D then none else W2.h b)=some o:=sh b o q
   have hb:b ≠ D:=fun e=>by rw [e,hD] at q; cases q
   rw [if_neg hb] at q'
   show (if b=D then none else W3.h b)=some o
   rw [if_neg hb]
   exact s3.h _ _ q'
  ·have hb:b ≠ D:=fun e=>z1 (e ▸ hD)
   have z3:=sn b z1 z2
   refine s3.n b ?_ z3
   cases q:W1.h b with
   | none=>exact absurd q z1
   | some o=>
    have q':(if b=D then none else W2.h b)=some o:=sh b o q
    rw [if_neg hb] at q'
    rw [q']
    intro z; cases z
 refine ⟨fun i ys H2=>∃ (W2:Vw) (es:List Dt),W2.h=H2∧(Same W1.g W2.g∧Same W1.h (fun b=>if b=D then none else W2.h b)∧(∀ b,W1.h b ≠ none→W1.g b=none→W2.g b=none)∧W2.h D=some (.lst ys)∧W2.g D=none∧AllIs K W2.g es ys)∧ys.length ≤ i∧Pv i es,?_,?_,?_,?_,?_,?_⟩
 ·refine ⟨W1.mine D (.lst []) gD,[],rfl,⟨Same.refl _,fun b o q=>?_,fun b _ q=>q,zA,gD,allIs_nil.mpr rfl⟩,Nat.le_refl _,h0⟩
  have hb:b ≠ D:=fun e=>by rw [e,hD] at q; cases q
  show (if b=D then none else upd W1.h D (.lst []) b)=some o
  rw [if_neg hb,zx hb]
  exact q
 ·rintro i ys _ _ ⟨W2,es,rfl,⟨s2,_,_,q1,q2,_⟩,q4,_⟩
  exact ⟨q1,q4⟩
 ·rintro i ys _ hi ⟨W2,es,rfl,⟨s2,_⟩,_⟩
  exact (hJ W2 s2).1 i hi
 ·rintro ys _ ⟨W2,es,rfl,⟨s2,_⟩,_⟩
  exact (hJ W2 s2).2
 ·rintro i v ys _ σ0 hi ⟨e,he,ie⟩ ⟨W2,es,rfl,hW2,q4,q5⟩ hσ0
  obtain ⟨as,da,w⟩:=ht i e es hi he q5
  refine hg e v σ0 _ W2 as hσ0 (Is.mono0 hW2.1 ie) da _ fun vs ivs lvs=>⟨⟨vs.map some,rfl,by rw [List.length_map]; exact lvs⟩,?_⟩
  refine ht' (F:=W2.h) (as.map Sl.some ++ rS ρ js) (vs.map some ++ sf σ js) W2 _ (jx r1 hW2.1 ivs) w _ fun b W3 s3 w3=>?_
  have hW3:=stp hW2 s3
  cases b with
  | false=>exact ⟨W3,es,rfl,hW3,Nat.le_succ_of_le q4,w3⟩
  | true=>
   show te _ _ _
   refine h2 (F:=W3.h) (as.map Sl.some ++ rS ρ js) (vs.map some ++ sf σ js) W3 _ (jx r1 hW3.1 (ivs.mono s3)) w3 _ fun y w W4 s4 i4 q6=>?_
   obtain ⟨a1,a2,a3,a4,a5,a6⟩:=stp hW3 s4
   refine ⟨a4,W4.mine D (.lst (ys ++ [w])) a5,es ++ [y],rfl,⟨a1,fun b o q=>?_,a3,zA,a5,a6.append (allIs_cons.mpr ⟨w,[],rfl,i4,allIs_nil.mpr rfl⟩)⟩,by rw [List.length_append]; exact Nat.succ_le_succ q4,q6⟩
   have q':(if b=D then none else W4.h b)=some o:=a2 b o q
   have hb:b ≠ D:=fun e=>by rw [e,hD] at q; cases q
   rw [if_neg hb] at q'
   show (if b=D then none else upd W4.h D (.lst (ys ++ [w])) b)=some o
   rw [if_neg hb,zx hb]
   exact q'
 ·rintro ys _ ⟨W2,es,rfl,⟨s2,sh,sn,q1,q2,q3⟩,_,q5⟩
  refine kk es D ys W2 (s1.trans ⟨s2,fun b o q=>?_,sn⟩) (s1.h.free hD) q1 q2 q3 (hd es q5)
  have q':(if b=D then none else W2.h b)=some o:=sh b o q
  have hb:b ≠ D:=fun e=>by rw [e,hD] at q; cases q
  rwa [if_neg hb] at q'
def V0 (ta:DTE):DTI:=fun ρ Q=>ta ρ fun d=>∃ ds,xx d=some ds∧ds.length ≤ 100000∧Q ds.length fun i e=>ds[i]? = some e
section
variable {X:Cx} {fr:Fr} {osc scope:Scope} {bs caps:List Str} {js:List Nat} {N0:List Str} {L:Addr} {tg iter elt a:Expr} {ifs:List Expr} {ta te:DTE} {di:DTI} {tt:DTT} {dg:Dt→List Dt→Prop} {gt:TG} {px p0 pos pos1:Pos}
theorem aP (h:DE X iter ta):DI X tg iter (V0 ta):=by
 obtain ⟨te,p,l⟩:=h
 refine ⟨_,jz p,fun ρ σ W Q r h R k=>l ρ σ W _ r h _ fun d v W1 s1 i1 ⟨ds,el,hl,q⟩=>?_⟩
 obtain ⟨a,xs,rfl,hq,ha⟩:=rB i1 el
 refine ⟨a,rfl,⟨xs,hq W1 (Same.refl _)⟩,k _ _ _ W1 s1 hl (fun W2 s2=>⟨fun i hi=>?_,?_⟩) q⟩
 ·rw [ha.length] at hi
  have hv:=List.getElem?_eq_getElem hi
  refine ⟨⟨xs,_,hq W2 s2,hv⟩,fun v' H3 ⟨e1,e2⟩=>⟨e1,?_⟩⟩
  obtain ⟨e,he,ie⟩:=ha.get' (e2 xs (hq W2 s2))
  exact ⟨e,he,ie⟩
 ·exact ⟨xs,hq W2 s2,by rw [ha.length]; exact Nat.le_refl _⟩
theorem dZ (hc:X.calm=true) (S:oX osc scope bs caps js N0=true) (hN0:X.N=N0) (he':X.env.scope=osc) (hcs:X.env.cells=cellsFrom (L + 1) osc.names []) (hl:DI X tg iter di)
  (hg:∀ C s H fp pins,PG (zE X scope (vF X.env.cells scope.names) bs caps C s H fp pins) tg gt) (lg:LiG X.K bs.length gt dg)
  (ht:∀ C s H fp pins,DC (zE X scope (vF X.env.cells scope.names) bs caps C s H fp pins) ifs tt)
  (he:∀ C s H fp pins,DE (zE X scope (vF X.env.cells scope.names) bs caps C s H fp pins) elt te) (hs:∀ y,foldedSetIterable iter X.env y=pure y:=by intro _; rfl):
  DF X (.ListComp elt [⟨tg,iter,ifs,0⟩] scope pos) (jm js di dg tt te):=by
 obtain ⟨wi,p,l⟩:=hl
 exact ⟨_,fI hc (aY (hN0 ▸ S) he' hcs) p hg (fun C s H fp pins=>(ht C s H fp pins).up) (fun C s H fp pins=>(he C s H fp pins).up) hs,dr l lg dq az⟩
end
end OD
namespace OD
variable {Z:Hp}
open PySem PySem.Spec PyProof.Rows L2
section
variable {K:PySem.W.Frag} {F:Hp} {W W' W0:Vw}
theorem NewL.mono {d:Dt} {v:V} (h:NewL K F W d v) (s:Le W W'):NewL K F W' d v:=by
 obtain ⟨es,p,xs,h1,h2,h3,h4,h5,h6⟩:=h
 exact ⟨es,p,xs,h1,h2,h3,s.h _ _ h4,s.n p (by rw [h4]; intro z; cases z) h5,h6.mono s⟩
theorem Prt.mono {b:Bool} {d:Dt} {v:V} (h:Prt K F W b d v) (s:Le W W'):Prt K F W' b d v:=by
 cases b with
 | false=>exact Is.mono h s
 | true=>
  rcases h with h | ⟨h1,h2⟩
  ·exact .inl (h.mono s)
  ·exact .inr ⟨h1,Is.mono h2 s⟩
theorem Prt.frz {b:Bool} {d:Dt} {u:V} (le:Le W0 W) (h:Prt K W0.h W b d u):∃ W1:Vw,W1.h=W.h∧Same W.g W1.g∧Le W0 W1∧Is K W1.g d u∧
  ∀ b2 d2 u2,Prt K W0.h W b2 d2 u2→(∀ es fs,b=true→b2=true→d=.lst es→d2=.lst fs→u ≠ u2)→Prt K W0.h W1 b2 d2 u2:=by
 cases b with
 | false=>exact ⟨W,rfl,Same.refl _,le,h,fun _ _ _ k _=>k⟩
 | true=>
  rcases h with ⟨es,p,xs,rfl,rfl,h3,h4,h5,h6⟩ | ⟨_,h2⟩
  ·refine ⟨W.frz p _ h4,rfl,zK h5 _,uZ le h3 h4 h5,is_lst.mpr ⟨p,xs,rfl,zA,AllIs.mono0 (zK h5 _) h6⟩,fun b2 d2 u2 k ne=>?_⟩
   cases b2 with
   | false=>exact Is.mono0 (zK h5 _) k
   | true=>
    rcases k with ⟨fs,q,ys,rfl,rfl,k3,k4,k5,k6⟩ | ⟨k1,k2⟩
    ·have hq:q ≠ p:=fun z=>ne es fs rfl rfl rfl rfl (by rw [z])
     exact .inl ⟨fs,q,ys,rfl,rfl,k3,k4,(zx hq).trans k5,AllIs.mono0 (zK h5 _) k6⟩
    ·exact .inr ⟨k1,Is.mono0 (zK h5 _) k2⟩
  ·exact ⟨W,rfl,Same.refl _,le,h2,fun _ _ _ k _=>k⟩
theorem Tld.frz {fr:Fr} {d:Dt} {v:V} (le:Le W0 W) (h:Tld K W0.h W fr d v):∃ W1:Vw,W1.h=W.h∧Le W0 W1∧Is K W1.g d v:=by
 match fr,h with
 | .d,h=>exact ⟨W,rfl,le,h⟩
 | .l,⟨es,p,xs,e1,e2,h3,h4,h5,h6⟩=>
  subst e1; subst e2
  exact ⟨W.frz p _ h4,rfl,uZ le h3 h4 h5,is_lst.mpr ⟨p,xs,rfl,zA,AllIs.mono0 (zK h5 _) h6⟩⟩
 | .t a b,⟨d1,d2,q,u1,u2,e1,e2,hq,p1,p2,ne⟩=>
  subst e1; subst e2
  obtain ⟨W1,e1,s1,le1,i1,k1⟩:=p1.frz le
  obtain ⟨W2,e2,s2,le2,i2,_⟩:=(k1 b d2 u2 p2 ne).frz le1
  exact ⟨W2,e2.trans e1,le2,is_tup.mpr ⟨q,_,rfl,s2 _ _ (s1 _ _ hq),allIs_cons.mpr ⟨u1,_,rfl,Is.mono0 s2 i1,allIs_cons.mpr ⟨u2,_,rfl,i2,allIs_nil.mpr rfl⟩⟩⟩⟩
end
def jY (K:PySem.W.Frag) (fr:Fr) (S:DSp):Sp:=fun vs H Q _=>∃ (W:Vw) (ds:List Dt) (Qd:Dt→Prop),W.h=H∧AllIs K W.g ds vs∧S ds Qd∧∀ d v W',Le W W'→Tld K W.h W' fr d v→Qd d→Q v W'.h
def cC (K:PySem.W.Frag) (fr:Fr) (S:y1):Sp:=fun vs H Q E=>∃ (W:Vw) (ds:List Dt) (Qd:Dt→Prop) (Ed:Addr→Prop),W.h=H∧AllIs K W.g ds vs∧S ds Qd Ed∧
 (∀ d v W',Le W W'→Tld K W.h W' fr d v→Qd d→Q v W'.h)∧∀ C H',Same W.h H'→Ed C→E (.ref C) none H'
structure TOk (P:Program) (w:World) (K:PySem.W.Frag) (mg:Str→Option Value) (base:Heap) (n:Nat) (x:Str) (fr:Fr) (S:DSp):Prop where
 ex:∃ f fd ps,mg x=some (.ref f)∧PySem.W.keepIn K (.ref f)=true∧Binds K fd ps []∧FnOk P w K mg base CX0 n f fd ps (jY K fr S)
structure TOkX (P:Program) (w:World) (K:PySem.W.Frag) (mg:Str→Option Value) (base:Heap) (n:Nat) (x:Str) (fr:Fr) (S:y1):Prop where
 ex:∃ f fd ps,mg x=some (.ref f)∧PySem.W.keepIn K (.ref f)=true∧Binds K fd ps []∧FnOk P w K mg base (CX1 P w) n f fd ps (cC K fr S)
section
variable {P:Program} {w:World} {K:PySem.W.Frag} {mg:Str→Option Value} {base:Heap} {fr:Fr}
theorem okT {x qual:Str} {st:Stmt} {f:Addr} {fd:FuncData} {N ps:List Str} {k:Nat} {S:DSp} (F:Fun K x qual st f fd) (sc:zi N ps (defScope st)) (len:∀ ds Q,S ds Q→ds.length=ps.length)
  (hbody:∀ (cdv:Value) (A:Around) (outer:List Env) (s:Shared) (H:Hp) (E:XK),Room k (A.deeper (envOfC qual (defScope st) s.heap.objs.size f cdv))→∀ (ds:List Dt) (Q:Dt→Prop),S ds Q→
   ∃ t,DSs (yC CX0 P w K mg base N qual (defScope st) f cdv A outer s H E).nox fr (defBody st) t∧t { nx:=fun _=>False,rt:=Q } (yp N.length ds)):FnOk P w K mg base CX0 (k + 1) f fd ps (jY K fr S):=by
 refine F.ok sc (fun vs H Q E h=>?_) (fun cdv A outer s H vs Q E hr h=>?_)
 ·obtain ⟨W,ds,Qd,_,ia,hS,_⟩:=h
  rw [← ia.length]
  exact len ds Qd hS
 obtain ⟨W,ds,Qd,rfl,ia,hS,kk⟩:=h
 obtain ⟨t,⟨ts,p,l⟩,ht⟩:=hbody cdv A outer s W.h E hr ds Qd hS
 exact ⟨ts,p,l W W.g (yp N.length ds) (start N vs) W { nx:=fun _=>False,rt:=Qd } _ (wI ia (sI (Nat.succ_ne_self _))) ⟨fun ρ σ W' a q=>q.elim,kk,fun _ _ _ _ q=>q.elim,fun _ _ _ _ q=>q.elim⟩ ht⟩
theorem TOk.mk' {x qual:Str} {st:Stmt} {f:Addr} {fd:FuncData} {ps:List Str} {n:Nat} {S:DSp} (F:Fun K x qual st f fd) (hm:mg x=some (.ref f)) (hb:Binds K fd ps []) (h:FnOk P w K mg base CX0 n f fd ps (jY K fr S)):TOk P w K mg base n x fr S:=
 ⟨f,fd,ps,hm,F.kp,hb,h⟩
theorem TOkX.mk' {x qual:Str} {st:Stmt} {f:Addr} {fd:FuncData} {ps:List Str} {n:Nat} {S:y1} (F:Fun K x qual st f fd) (hm:mg x=some (.ref f)) (hb:Binds K fd ps []) (h:FnOk P w K mg base (CX1 P w) n f fd ps (cC K fr S)):TOkX P w K mg base n x fr S:=
 ⟨f,fd,ps,hm,F.kp,hb,h⟩
end
def LiR (K:PySem.W.Frag) (Z:Hp) (fr:Fr) (te:TE) (t:DTE):Prop:=
 ∀ {F:Hp} (ρ:DS) (σ:St) (H:Vw) (Q:Dt→Prop),Rl K Z F H ρ σ→t ρ Q→∀ R:VK,(∀ d v H',Le H H'→Tld K H.h H' fr d v→Q d→R v H'.h)→te σ H.h R
def DR (X:Cx) (fr:Fr) (e:Expr) (t:DTE):Prop:=∃ te,PE X e te∧LiR X.K (Zx X) fr te t
def LiP (K:PySem.W.Frag) (Z:Hp) (b:Bool) (te:TE) (t:DTE):Prop:=
 ∀ {F:Hp} (ρ:DS) (σ:St) (H:Vw) (Q:Dt→Prop),Rl K Z F H ρ σ→t ρ Q→∀ R:VK,(∀ d v H',Le H H'→Prt K F H' b d v→Q d→R v H'.h)→te σ H.h R
def DP (X:Cx) (b:Bool) (e:Expr) (t:DTE):Prop:=∃ te,PE X e te∧LiP X.K (Zx X) b te t
theorem ZY {K:PySem.W.Frag} {F G:Hp} {W:Vw} {fr:Fr} {d:Dt} {v:V} (z:∀ p,F p=none→G p=none) (h:Tld K F W fr d v):Tld K G W fr d v:=by
 have pp:∀ {b:Bool} {d:Dt} {v:V},Prt K F W b d v→Prt K G W b d v:=fun {b d v} h=>by
  cases b with
  | false=>exact h
  | true=>exact h.imp (fun h=>h.le z) id
 match fr,h with
 | .d,h=>exact h
 | .l,h=>exact NewL.le h z
 | .t a b,⟨d1,d2,q,u1,u2,e1,e2,hq,p1,p2,ne⟩=>exact ⟨d1,d2,q,u1,u2,e1,e2,hq,pp p1,pp p2,ne⟩
section
variable {X:Cx} {fr:Fr} {a b:Bool} {e e1 e2:Expr} {es:List Expr} {t t1 t2:DTE} {ta:DTA} {n:Nat} {x y:Str} {S:DSp} {SX:y1} {p pos p0 p1 p2:Pos} {i j:Nat}
theorem jO (G:TOk X.prog X.w X.K X.mg X.base n x fr S) (hr:Room n X.A) (hg:Gl X x) (ha:DA X (e :: es) ta) (hdb:(x == ("__debug__":Str))=false:=by decide)
  (he:starEach (e :: es) X.env=(false,eval e X.env) :: starEach es X.env:=by rfl) (hpl:(backTo pos (starEach es X.env)).any (·.1)=false:=by rfl):DR X fr (.Call (.Name x p) (e :: es) [] pos) (jV S ta):=by
 obtain ⟨f,fd,ps,hm,hk,hb,F⟩:=G.ex
 obtain ⟨te,p1,l1⟩:=ha
 refine ⟨_,vO F hr hg hm hk hb .nil ph p1 hdb he hpl,fun ρ σ H Q r h R k=>l1 ρ σ H _ r h _ fun ds vs H1 s1 i1 q1=>?_⟩
 rw [List.append_nil]
 exact ⟨H1,ds,Q,rfl,i1,q1,fun d v H2 s2 t2 q2=>k d v H2 (s1.trans s2) (ZY (fun _ z=>s1.h.free z) t2) q2⟩
theorem VR (h:DE X e t):DP X false e t:=let ⟨te,p,l⟩:=h; ⟨te,p,fun ρ σ H Q r h R k=>l ρ σ H Q r h R k⟩
def VV (t:DTE):DTE:=fun ρ Q=>t ρ fun d=>fg d=true∧Q d
theorem PY (h:DE X e t):DP X true e (VV t):=let ⟨te,p,l⟩:=h; ⟨te,p,fun ρ σ H Q r h R k=>l ρ σ H _ r h R fun d v H' s i ⟨z,q⟩=>k d v H' s (.inr ⟨z,i⟩) q⟩
def VZ (i:Nat):DTE:=fun ρ Q=>(∃ ds,ρ[i]? = some (.own ds)∧Q (.lst ds))∨∃ d,ρ[i]? = some (.some d)∧fg d=true∧Q d
theorem VQ (i:Nat) (hN:X.N[i]? = some x:=by rfl) (hv:Vis X.env.scope x:=by first | exact Or.inl rfl | exact Or.inr (Or.inl rfl) | exact Or.inr (Or.inr rfl)) (hd:(x == ("__debug__":Str))=false:=by decide)
  (hcd:(x == ("__classdict__":Str))=false:=by decide):DP X true (.Name x p0) (VZ i):=by
 refine ⟨_,xh hN hv hd hcd,fun ρ σ H Q r h R k=>?_⟩
 rcases h with ⟨ds,e,q⟩ | ⟨d,e,z,q⟩
 ·obtain ⟨b,xs,e1,e2,e3,e4,e5⟩:=r.ow i ds e
  exact ⟨.ref b,e1,k (.lst ds) _ H (Le.refl H) (.inl ⟨ds,b,xs,rfl,rfl,e4,e2,e3,e5⟩) q⟩
 ·obtain ⟨v,h1,h2⟩:=r.at_ i d e
  exact ⟨v,h1,k d v H (Le.refl H) (.inr ⟨z,h2⟩) q⟩
def VW (t1 t2:DTE):DTS:=fun D ρ=>t1 ρ fun d1=>t2 ρ fun d2=>D.rt (.tup [d1,d2])
theorem jN {x1} (h1:DP X a e1 t1) (h2:DP X b e2 t2) (hne:a=false∨b=false:=by first | exact .inl rfl | exact .inr rfl)
  (hst:starEach [e1,e2] X.env=(false,eval e1 X.env) :: starEach [e2] X.env:=by rfl) (hst2:starEach [e2] X.env=(false,eval e2 X.env) :: starEach [] X.env:=by rfl):
  DSt X (.t a b) (.Return (some (.Tuple [e1,e2] x1 p0)) pos) (VW t1 t2):=by
 obtain ⟨te1,q1,l1⟩:=h1
 obtain ⟨te2,q2,l2⟩:=h2
 refine ⟨_,oh (fF (zQ q1 (zQ q2 yM hst2) hst)),fun W0 G ρ σ W D D' at_ s h=>?_⟩
 refine l1 ρ σ W _ at_.rl h _ fun d1 u1 W1 s1 pt1 h=>?_
 refine l2 ρ σ W1 _ (at_.rl.mono s1) h _ fun d2 u2 W2 s2 pt2 q=>?_
 refine ⟨by show 2 ≤ _; decide,fun p hp=>?_⟩
 have s3:=wz hp (.tup [u1,u2])
 refine s.tl (.tup [d1,d2]) (.ref p) (W2.new p (.tup [u1,u2])) ((at_.le.trans s1).trans (s2.trans s3)) ⟨d1,d2,p,u1,u2,rfl,rfl,zA,(pt1.mono s2).mono s3,pt2.mono s3,fun _ _ z1 z2=>?_⟩ q
 rcases hne with z | z
 ·rw [z1] at z; cases z
 ·rw [z2] at z; cases z
def slP:Bool→Dt→Sl
 | true,.lst es=>.own es
 | _,d=>.some d
theorem Rl.ownN {K:PySem.W.Frag} {F:Hp} {W:Vw} {ρ:DS} {σ:St} (r:Rl K Z F W ρ σ) {p:Addr} {xs:List V} {ds:List Dt} (i:Nat) (nep:∀ (j:Nat) (es:List Dt),ρ[j]? = some (Sl.own es)→σ[j]? ≠ some (some (V.ref p))) (nea:∀ (j:Nat) (a:Addr) (es:List Dt),ρ[j]? = some (Sl.arg a es)→a ≠ p)
  (hF:F p=none) (h1:W.h p=some (.lst xs)) (h2:W.g p=none) (h3:AllIs K W.g ds xs):Rl K Z F W (ρ.set i (.own ds)) (σ.set i (some (.ref p))):=by
 refine ⟨by rw [List.length_set,List.length_set]; exact r.len,fun j e q=>?_,fun j es q=>?_,fun j k es es' hjk q1 q2=>?_,r.fr,r.z,fun j a fs q=>?_⟩
 ·rcases zt q with ⟨_,_,e1⟩ | ⟨hij,q⟩
  ·cases e1
  ·rw [List.getElem?_set_ne hij]
   exact r.at_ j e q
 ·rcases zt q with ⟨rfl,hl,e1⟩ | ⟨hij,q⟩
  ·cases e1
   exact ⟨p,xs,by rw [List.getElem?_set_self (by rw [← r.len]; exact hl)],h1,h2,hF,h3⟩
  ·rw [List.getElem?_set_ne hij]
   exact r.ow j es q
 ·rcases zt q1 with ⟨rfl,hl,e1⟩ | ⟨hij,q1⟩
  ·rcases zt q2 with ⟨rfl,_,_⟩ | ⟨hik,q2⟩
   ·exact absurd rfl hjk
   ·rw [List.getElem?_set_self (by rw [← r.len]; exact hl),List.getElem?_set_ne hik]
    exact fun z=>nep k es' q2 z.symm
  ·rcases zt q2 with ⟨rfl,hl,_⟩ | ⟨hik,q2⟩
   ·rw [List.getElem?_set_self (by rw [← r.len]; exact hl),List.getElem?_set_ne hij]
    exact nep j es q1
   ·rw [List.getElem?_set_ne hij,List.getElem?_set_ne hik]
    exact r.ne j k es es' hjk q1 q2
 ·rcases zt q with ⟨_,_,e1⟩ | ⟨hij,q⟩
  ·cases e1
  obtain ⟨⟨ys,g1,g2⟩,k1,k2⟩:=r.ar j a fs q
  refine ⟨⟨ys,by rw [List.getElem?_set_ne hij]; exact g1,g2⟩,fun k es q'=>?_,fun k c es q'=>?_⟩
  ·rcases zt q' with ⟨rfl,hl,e1⟩ | ⟨hik,q'⟩
   ·rw [List.getElem?_set_self (by rw [← r.len]; exact hl)]
    intro z
    cases z
    exact nea j _ fs q rfl
   ·rw [List.getElem?_set_ne hik]
    exact k1 k es q'
  ·rcases zt q' with ⟨_,_,e1⟩ | ⟨hik,q'⟩
   ·cases e1
   exact k2 k c es q'
theorem Rl.part {K:PySem.W.Frag} {F F':Hp} {W:Vw} {ρ:DS} {σ:St} (r:Rl K Z F W ρ σ) {b:Bool} {d:Dt} {v:V} (i:Nat) (h:Prt K F' W b d v) (hF:∀ p,F' p=none→F p=none)
  (nep:∀ (p:Addr) (j:Nat) (es fs:List Dt),b=true→d=.lst fs→v=.ref p→F' p=none→ρ[j]? = some (Sl.own es)→σ[j]? ≠ some (some (V.ref p))) (nea:∀ (p:Addr) (j:Nat) (a:Addr) (es:List Dt),F' p=none→ρ[j]? = some (Sl.arg a es)→a ≠ p):
  Rl K Z F W (ρ.set i (slP b d)) (σ.set i (some v)):=by
 cases b with
 | false=>cases d <;> exact r.set i h
 | true=>
  rcases h with ⟨es,p,xs,rfl,rfl,h3,h4,h5,h6⟩ | ⟨z,h2⟩
  ·exact r.ownN i (fun j fs e=>nep p j fs es rfl rfl rfl h3 e) (fun j a fs e=>nea p j a fs h3 e) (hF p h3) h4 h5 h6
  ·cases d <;> first | exact r.set i h2 | cases z
def ZH (a b:Bool) (i j:Nat) (te:DTE):DTS:=fun D ρ=>te ρ fun d=>∃ d1 d2,d=.tup [d1,d2]∧D.nx ((ρ.set i (slP a d1)).set j (slP b d2))
theorem jM {px py pt:Pos} {kt:Nat} (hc:X.calm=true) (hN:X.N.Nodup) (hi:X.N[i]? = some x) (hj:X.N[j]? = some y) (hx:Loc X.env.scope x) (hy:Loc X.env.scope y) (h:DR X (.t a b) e t)
  (hf:X.fn x=true∨X.env.scope.names.lookup x=some .local:=by first | exact .inl rfl | exact .inr rfl | assumption) (hf2:X.fn y=true∨X.env.scope.names.lookup y=some .local:=by first | exact .inl rfl | exact .inr rfl | assumption)
  (hs:swapsWithSole [.Tuple [.Name x px,.Name y py] kt pt] e pos.line X.env=pure false:=by rfl) (hw:swappedStores [.Tuple [.Name x px,.Name y py] kt pt] e X.env=pure none:=by rfl):
  DSt X fr (.Assign [.Tuple [.Name x px,.Name y py] kt pt] e pos) (ZH a b i j t):=by
 obtain ⟨tt,p,l⟩:=h
 refine ⟨_,lF p (sS hc (yl (zX hN hi hx hf) (yl (zX hN hj hy hf2) vN))) hs hw,fun W0 G ρ σ W D D' at_ s h=>l ρ σ W _ at_.rl h _ fun d v W1 s1 ⟨d1,d2,q,u1,u2,e1,e2,hq,pt1,pt2,ne⟩ ⟨d1',d2',ed,qq⟩=>?_⟩
 subst e2
 rw [ed] at e1
 cases e1
 refine ⟨q,_,rfl,.of (W1.sub _ _ hq),rfl,u1,[u2],rfl,u2,[],rfl,rfl,?_⟩
 have a1:=at_.step s1
 have hz:∀ p,W.h p=none→W0.h p=none:=fun p z=>at_.le.h.free z
 have nep:∀ (p:Addr) (k:Nat) (es:List Dt),W.h p=none→ρ[k]? = some (Sl.own es)→σ[k]? ≠ some (some (V.ref p)):=fun p k es z e z'=>by
  obtain ⟨c,xs,k1,k2,_⟩:=at_.rl.ow k es e
  rw [z'] at k1
  cases k1
  rw [z] at k2
  cases k2
 have nea:∀ (p:Addr) (k:Nat) (a:Addr) (es:List Dt),W.h p=none→ρ[k]? = some (Sl.arg a es)→a ≠ p:=fun p k a es z e z'=>by
  obtain ⟨⟨xs,k1,k2,_⟩,_,_⟩:=at_.rl.ar k a es e
  rw [z',z] at k2
  cases k2
 have r1:=a1.rl.part i pt1 hz (fun p k es _ _ _ _ z e=>nep p k es z e) (fun p k a es z e=>nea p k a es z e)
 have r2:=r1.part j pt2 hz (fun p k es fs hb2 hd2 hu z e=>?_) (fun p k a' es z e=>?_)
 ·exact s.nx _ _ W1 ⟨a1.le,a1.gs,r2⟩ qq
 ·rcases zt e with ⟨rfl,hl,e1⟩ | ⟨hik,e⟩
  ·rw [List.getElem?_set_self (by rw [← at_.rl.len]; exact hl)]
   cases a with
   | false=>cases d1 <;> cases e1
   | true=>
    cases d1 with
    | lst gs=>exact fun z'=>ne gs fs rfl hb2 rfl hd2 (by rw [hu]; exact Option.some.inj (Option.some.inj z'))
    | _=>cases e1
  ·rw [List.getElem?_set_ne hik]
   exact nep p k es z e
 ·rcases zt e with ⟨rfl,hl,e1⟩ | ⟨hik,e⟩
  ·cases a with
   | false=>cases d1 <;> cases e1
   | true=>cases d1 <;> cases e1
  ·exact nea p k a' es z e
end
end OD
namespace L2
open PySem PySem.Spec PyProof.Rows
def Cx.arg (X:Cx):Cx:={ X with fn:=fun y=>!(y == "") }
section
variable {X:Cx} {pins:List (Addr × Obj)} {σ:St} {H:Hp} {s:Shared}
theorem Inv.arg (I:Inv X pins σ H s) (hf:∀ y,X.fn y=true):Inv X.arg pins σ H s:=
 ⟨⟨I.ok.mod,I.ok.kind,I.ok.glob,I.ok.blt,I.ok.above,I.ok.inj,I.ok.has,fun x c _=>I.ok.cab x c (hf x),I.ok.hd,I.ok.frames,I.ok.stk,I.ok.exf,I.ok.bs,I.ok.bsz,I.ok.noex,I.ok.exfs,I.ok.funs,I.ok.frf⟩,I.os,I.bare,I.base,I.loc,I.cell,I.free,I.freeC,I.pin,I.hok,I.len⟩
end
end L2
namespace OD
variable {Z:Hp}
open PySem PySem.Spec PyProof.Rows L2
def Vw.del (W:Vw) (a:Addr) (hg:W.g a=none):Vw:=⟨W.g,fun b=>if b=a then none else W.h b,fun b o q=>by
 have:b ≠ a:=fun e=>by rw [e,hg] at q; cases q
 show (if b=a then none else W.h b)=some o
 rw [if_neg this]
 exact W.sub _ _ q⟩
abbrev ASp:=Dt→List Dt→List Dt→(List Dt→Prop)→Prop
def ZR (K:PySem.W.Frag) (S:ASp):Sp:=fun vs H Q _=>∃ (W:Vw) (d0:Dt) (es0 ds:List Dt) (Qd:List Dt→Prop) (v0:V) (a:Addr) (xs vs':List V) (hg:W.g a=none),W.h=H∧vs=v0 :: .ref a :: vs'∧W.h a=some (.lst xs)∧Is K W.g d0 v0∧AllIs K W.g es0 xs∧AllIs K W.g ds vs'∧S d0 es0 ds Qd∧
 ∀ es ys W',Le (W.del a hg) W'→W'.h a=some (.lst ys)→W'.g a=none→AllIs K W'.g es ys→Qd es→Q .non W'.h
structure AOk (P:Program) (w:World) (K:PySem.W.Frag) (mg:Str→Option Value) (base:Heap) (n:Nat) (x:Str) (S:ASp):Prop where
 ex:∃ f fd ps,mg x=some (.ref f)∧PySem.W.keepIn K (.ref f)=true∧Binds K fd ps []∧FnOk P w K mg base CX0 n f fd ps (ZR K S)
section
variable {P:Program} {w:World} {K:PySem.W.Frag} {mg:Str→Option Value} {base:Heap}
theorem AOk.mk' {x qual:Str} {st:Stmt} {f:Addr} {fd:FuncData} {ps:List Str} {n:Nat} {S:ASp} (F:Fun K x qual st f fd) (hm:mg x=some (.ref f)) (hb:Binds K fd ps []) (h:FnOk P w K mg base CX0 n f fd ps (ZR K S)):AOk P w K mg base n x S:=
 ⟨f,fd,ps,hm,F.kp,hb,h⟩
end
section
variable {X:Cx} {fr:Fr} {e e0 k:Expr} {es:List Expr} {t te tk:DTE} {ta:DTA} {n:Nat} {x y:Str} {S:ASp} {p pos p0 p1 p2 p3:Pos} {i:Nat}
end
end OD
namespace OD
variable {Z:Hp}
open PySem PySem.Spec PyProof.Rows L2
section
variable {X:Cx} {tg:Expr}
variable {a b c:Expr} {ta:DTA} {p0 pos1:Pos}
end
end OD
namespace L2
open PySem PySem.Spec PyProof.Rows
section
variable {X:Cx}
end
end L2
namespace OD
variable {Z:Hp}
open PySem PySem.Spec PyProof.Rows L2
abbrev DTB:=Prop→(Addr→Prop)→DS→Prop
section
variable {X:Cx} {e:Expr} {es:List Expr} {t:DTA} {n:Nat} {x y m:Str} {j:Nat} {S:y1} {p pos py hpos epos tpos:Pos} {fr:Fr} {th:DTS} {c:Value} {b₀:Stmt} {suite body:List Stmt} {d:DTB}
end
end OD
namespace My
open PySem L2 OD
local macro_rules | `(tactic| walk_at "sc") => `(tactic| exact ⟨rfl, rfl, rfl, by decide +kernel, rfl, by decide +kernel, by decide +kernel⟩)
local macro_rules | `(tactic| walk_at "rd1") => `(tactic| first | refine ⟨_, rfl, ?_⟩ | refine ⟨_, _, rfl, rfl, ?_⟩ | refine ⟨_, _, _, _, rfl, rfl, rfl, ?_⟩ | refine ⟨_, _, _, rfl, rfl, rfl, ?_⟩ | refine PP ?_ | refine PQ ?_ | refine ⟨rfl, rfl, ?_⟩ | refine ⟨rfl, ?_⟩ | refine ⟨cq (by decide), ?_⟩ | refine ⟨pL (by decide), ?_⟩ | refine ⟨Ue (by decide), ?_⟩ | refine ⟨XT (by decide), ?_⟩ | refine ⟨aw (by decide), ?_⟩ | refine ⟨_, _, rfl, ?_⟩)
local macro_rules | `(tactic| walk_at "rd") => `(tactic| repeat (walk_at "rd1"))
theorem ifT {b:Bool} {A B:Prop} (e:b=true) (h:A):if b=true then A else B:=by rw [if_pos e]; exact h
theorem ifF {b:Bool} {A B:Prop} (e:b=false) (h:B):if b=true then A else B:=by rw [if_neg (by rw [e]; exact Bool.false_ne_true)]; exact h
theorem ifB {b:Bool} {A B:Prop} (h1:b=true→A) (h2:b=false→B):if b=true then A else B:=by
 cases b with
 | true=>exact ifT rfl (h1 rfl)
 | false=>exact ifF rfl (h2 rfl)
theorem eqI {a b:Int} (h:a=b):eqD (.int a) (.int b)=true:=by rw [yX]; exact beq_iff_eq.mpr h
theorem neI {a b:Int} (h:a ≠ b):eqD (.int a) (.int b)=false:=by rw [yX]; exact beq_eq_false_iff_ne.mpr h
theorem sZ {a b:Int} (h:eqD (.int a) (.int b)=true):a=b:=by rw [yX] at h; exact beq_iff_eq.mp h
theorem uO {a b:Int} (h:eqD (.int a) (.int b)=false):a ≠ b:=by rw [yX] at h; exact beq_eq_false_iff_ne.mp h
theorem nT {b:Bool} (h:b=true):(!b)=false:=by rw [h]; rfl
theorem nF {b:Bool} (h:b=false):(!b)=true:=by rw [h]; rfl
theorem Va {b:Bool} (h:(!b)=true):b=false:=by cases b <;> first | rfl | cases h
theorem Vb {b:Bool} (h:(!b)=false):b=true:=by cases b <;> first | rfl | cases h
theorem ci {t u:DTT} {ρ:DS} {Q:Bool→Prop} (b1 b2:Bool) (h1:∀ R:Bool→Prop,R b1→t ρ R) (h2:∀ R:Bool→Prop,R b2→u ρ R) (q:Q (b1 && b2)):aW t u ρ Q:=h1 _ (by cases b1 <;> first | exact ifT rfl (h2 _ q) | exact ifF rfl q)
def zH (ns:List Int):Dt:=.lst (ns.map Dt.int)
def trim (ns:List Int):List Int:=(ns.reverse.dropWhile (· == 0)).reverse
def cM:DSp:=fun ds Q=>∃ ns k,ds=[.scr ns,.int k]∧0 ≤ k∧∀ z:Int,Q (.int z)
def j7:DSp:=fun ds Q=>∃ ns:List Int,ds=[.scr ns]∧ns.length ≤ 63∧Q (.bl true)
theorem uv {xs:List Int} {k:Int} (h0:0 ≤ k) (h:k < xs.length):atI (xs.map Dt.int) k=some (.int (xs.getD k.toNat 0)):=by
 have e:((k.toNat:Nat):Int)=k:=Int.toNat_of_nonneg h0
 have hl:k.toNat < xs.length:=by omega
 have:=o0 (j:=k.toNat) (xs:=xs.map Dt.int) (v:=.int (xs.getD k.toNat 0)) (by
  rw [List.getElem?_map,List.getElem?_eq_getElem hl,List.getD_eq_getElem?_getD,List.getElem?_eq_getElem hl]
  rfl)
 rwa [e] at this
theorem vg {ns:List Int} {i:Nat} (h:i < ns.length):atI (ns.map Dt.int) (i:Int)=some (.int (ns.getD i 0)):=by
 refine o0 ?_
 rw [List.getElem?_map,List.getElem?_eq_getElem h,List.getD_eq_getElem?_getD,List.getElem?_eq_getElem h]
 rfl
theorem aC {n:Nat} {k:Int} (h0:0 ≤ k) (h:k < n):ixN n k=some k.toNat:=by
 unfold ixN
 rw [if_pos h0,if_pos h]
theorem dz {n:Nat} (h:0 < n):ixN n (-1)=some (n - 1):=by
 unfold ixN
 rw [if_neg (by decide),if_pos (by omega)]
 congr 1
 omega
theorem wJ {xs:List Int} {z:Int}:atI ((xs ++ [z]).map Dt.int) (-1)=some (.int z):=by
 unfold atI
 rw [dz (by rw [List.length_map,List.length_append]; exact Nat.succ_pos _)]
 show ((xs ++ [z]).map Dt.int)[((xs ++ [z]).map Dt.int).length - 1]? = _
 rw [List.length_map,List.length_append,List.map_append,List.getElem?_append_right (by rw [List.length_map]; exact Nat.le_of_eq (Nat.add_sub_cancel ..).symm)]
 rw [List.length_map,show xs.length + [z].length - 1 - xs.length=0 by simp]
 rfl
theorem Wn {ns:List Int} {n:Nat}:(ns.map Dt.int).all (okE n)=true:=by
 rw [List.all_eq_true]
 intro x hx
 obtain ⟨z,_,e⟩:=List.mem_map.mp hx
 subst e
 cases n <;> rfl
theorem yf (ns:List Int):okE 40 (zH ns)=true:=Wn (n:=39)
theorem cm (ms:List Int) (lo hi:Option Int):∃ ms':List Int,se (ms.map Dt.int) lo hi=ms'.map Dt.int∧ms'.length ≤ ms.length∧∀ z ∈ ms',z ∈ ms:=by
 unfold se
 rw [← List.map_drop,← List.map_take]
 refine ⟨_,rfl,?_,fun t ht=>List.mem_of_mem_drop (List.mem_of_mem_take ht)⟩
 rw [List.length_take,List.length_drop]
 omega
theorem dF {ns:List Int} {i:Nat} {x:Dt} (h:(ns.map Dt.int)[i]? = some x):x=.int (ns.getD i 0)∧i < ns.length:=by
 rw [List.getElem?_map] at h
 cases q:ns[i]? with
 | none=>rw [q] at h; cases h
 | some z=>
  rw [q] at h
  have hl:i < ns.length:=by
   rcases Nat.lt_or_ge i ns.length with h | h
   ·exact h
   ·rw [List.getElem?_eq_none h] at q; cases q
  rw [List.getD_eq_getElem?_getD,q]
  exact ⟨(Option.some.inj h).symm,hl⟩
theorem fo (k:Nat) (z:Int):(List.replicate k [Dt.int z]).flatten=(List.replicate k z).map Dt.int:=by
 induction k with
 | zero=>rfl
 | succ k ih=>rw [List.replicate_succ,List.flatten_cons,ih]; rfl
theorem cA (xs:List Int) (z:Int):xs.map Dt.int ++ [.int z]=(xs ++ [z]).map Dt.int:=by rw [List.map_append]; rfl
theorem rR (xs ys:List Int):xs.map Dt.int ++ ys.map Dt.int=(xs ++ ys).map Dt.int:=by rw [List.map_append]
theorem ff (xs:List Int) (j:Nat) (z:Int):(xs.map Dt.int).set j (.int z)=(xs.set j z).map Dt.int:=by rw [List.map_set]
theorem pK (xs:List Int):(xs.map Dt.int).dropLast=xs.dropLast.map Dt.int:=by rw [List.map_dropLast]
theorem zL (xs:List Int):(xs.map Dt.int).length=xs.length:=List.length_map _
theorem nl:trim []=[]:=rfl
theorem wO (xs:List Int):trim (xs ++ [0])=trim xs:=by
 unfold trim
 rw [List.reverse_append]
 rfl
theorem si {xs:List Int} {z:Int} (h:z ≠ 0):trim (xs ++ [z])=xs ++ [z]:=by
 unfold trim
 rw [List.reverse_append]
 show (List.dropWhile _ (z :: xs.reverse)).reverse=_
 rw [List.dropWhile_cons,if_neg (by simpa using h),List.reverse_cons,List.reverse_reverse]
theorem zJ (xs:List Int):xs=[]∨∃ l z,xs=l ++ [z]:=by
 rcases List.eq_nil_or_concat xs with h | ⟨l,z,h⟩
 ·exact .inl h
 ·exact .inr ⟨l,z,by rw [h,List.concat_eq_append]⟩
theorem sJ (xs:List Int):(trim xs).length ≤ xs.length:=by
 unfold trim
 rw [List.length_reverse]
 refine Nat.le_trans (List.dropWhile_sublist _).length_le ?_
 rw [List.length_reverse]
 exact Nat.le_refl _
theorem lf {i:Nat} {D:DEnds} {ρ:DS} {ms:List Int} (hi:ρ[i]? = some (.own (ms.map Dt.int))) (q:D.nx (ρ.set i (.own ((trim ms).map Dt.int)))):
  jk (aW (wc (dOp (gI fun i j=>Dt.bl (decide (j < i))) (ZK i) (dC (Dt.int 0)))) (wc (dOp gEq (Wj i (Wg (dC (Dt.int 1)))) (dC (Dt.int 0))))) (We i) D ρ:=by
 have hl:i < ρ.length:=by
  rcases Nat.lt_or_ge i ρ.length with h | h
  ·exact h
  ·rw [List.getElem?_eq_none h] at hi; cases hi
 refine ⟨fun m ρ'=>∃ l:List Int,ρ'=ρ.set i (.own (l.map Dt.int))∧l.length=m∧trim l=trim ms,⟨_,ms,?_,rfl,rfl⟩,?_⟩
 ·apply List.ext_getElem?
  intro j
  by_cases hj:i=j
  ·subst hj; rw [List.getElem?_set_self hl]; exact hi
  ·rw [List.getElem?_set_ne hj]
 ·rintro m ρ' ⟨l,rfl,rfl,ht⟩
  have hg:(ρ.set i (.own (l.map Dt.int)))[i]? = some (.own (l.map Dt.int)):=List.getElem?_set_self hl
  refine ⟨_,hg,_,_,rfl,rfl,_,rfl,?_⟩
  rcases zJ l with rfl | ⟨l',z,rfl⟩
  ·refine ifF rfl (ifF rfl ?_)
   rw [← ht,nl] at q
   exact q
  ·refine ifT (by rw [decide_eq_true_iff,List.length_map,List.length_append]; simp) ?_
   refine ⟨_,hg,_,rfl,_,_,rfl,wJ,rfl,rfl,_,rfl,?_⟩
   by_cases hz:z=0
   ·refine ifT (eqI hz) ?_
    subst hz
    refine ⟨_,hg,by simp,l'.length,by rw [List.length_append]; exact Nat.lt_succ_self _,l',?_,rfl,?_⟩
    ·rw [pK,List.dropLast_concat,List.set_set]
    ·rw [← ht,wO]
   ·refine ifF (neI hz) ?_
    rw [← ht,si hz] at q
    exact q
theorem nj {i:Nat} {D:DEnds} {ρ:DS} {ms:List Int} (hi:ρ[i]? = some (.own (ms.map Dt.int))) (q:D.nx (ρ.set i (.own ((trim ms).map Dt.int)))):
  jk (aW (ZI i) (wc (dOp gEq (Wj i (Wg (dC (Dt.int 1)))) (dC (Dt.int 0))))) (We i) D ρ:=by
 have hl:i < ρ.length:=by
  rcases Nat.lt_or_ge i ρ.length with h | h
  ·exact h
  ·rw [List.getElem?_eq_none h] at hi; cases hi
 refine ⟨fun m ρ'=>∃ l:List Int,ρ'=ρ.set i (.own (l.map Dt.int))∧l.length=m∧trim l=trim ms,⟨_,ms,?_,rfl,rfl⟩,?_⟩
 ·apply List.ext_getElem?
  intro j
  by_cases hj:i=j
  ·subst hj; rw [List.getElem?_set_self hl]; exact hi
  ·rw [List.getElem?_set_ne hj]
 ·rintro m ρ' ⟨l,rfl,rfl,ht⟩
  have hg:(ρ.set i (.own (l.map Dt.int)))[i]? = some (.own (l.map Dt.int)):=List.getElem?_set_self hl
  refine ⟨_,hg,?_⟩
  rcases zJ l with rfl | ⟨l',z,rfl⟩
  ·refine ifF rfl (ifF rfl ?_)
   rw [← ht,nl] at q
   exact q
  ·refine ifT (by simp) ?_
   refine ⟨_,hg,_,rfl,_,_,rfl,wJ,rfl,rfl,_,rfl,?_⟩
   by_cases hz:z=0
   ·refine ifT (eqI hz) ?_
    subst hz
    refine ⟨_,hg,by simp,l'.length,by rw [List.length_append]; exact Nat.lt_succ_self _,l',?_,rfl,?_⟩
    ·rw [pK,List.dropLast_concat,List.set_set]
    ·rw [← ht,wO]
   ·refine ifF (neI hz) ?_
    rw [← ht,si hz] at q
    exact q
inductive Kd where | plain | below | balanced | growing | falling | pairs
def Kd.num:Kd→Int
 | .plain=>0 | .below=>1 | .balanced=>2 | .growing=>3 | .falling=>4 | .pairs=>5
def Kd.fld:Kd→Str
 | .plain=>"base" | .below=>"base" | .balanced=>"half" | .growing=>"first" | .falling=>"most" | .pairs=>"most"
def Kd.lo:Kd→Int
 | .plain=>2 | .below=>2 | .balanced=>1 | .growing=>2 | .falling=>1 | .pairs=>1
def Kd.hi:Kd→Int
 | .plain=>60 | .below=>60 | .balanced=>30 | .growing=>60 | .falling=>9 | .pairs=>9
def Kd.ok (k:Kd) (n:Int):Prop:=k.lo ≤ n∧n ≤ k.hi
def yD:Dt→Option Bool
 | .int _=>some true
 | .bl _=>some false
 | .tup _=>some false
 | .lst _=>some false
 | _=>none
def yZ:DSp:=fun ds Q=>∃ d b,ds=[d]∧yD d=some b∧Q (.bl b)
def yG:DSp:=fun ds Q=>∃ n lo hi,ds=[.int n,.int lo,.int hi]∧lo ≤ n∧n ≤ hi∧Q (.int n)
inductive Nm where | i (n:Int) | p (a b:Int)
def Nm.dt:Nm→Dt
 | .i n=>.int n
 | .p a b=>.tup [.int a,.int b]
def Nm.re:Nm→Int
 | .i n=>n
 | .p a _=>a
def Nm.im:Nm→Int
 | .i _=>0
 | .p _ b=>b
def Nm.mul:Nm→Nm→Nm
 | .i a,.i b=>.i (a * b)
 | m,n=>.p (m.re * n.re - m.im * n.im) (m.re * n.im + m.im * n.re)
def Nm.mulOk (m n:Nm):Prop:=IntMulOk m.re n.re∧IntMulOk m.im n.im∧IntMulOk m.re n.im∧IntMulOk m.im n.re
def rm:Dt→Option Nm
 | .int a=>some (.i a)
 | .tup [.int a,.int b]=>some (.p a b)
 | _=>none
def xN:DSp:=fun ds Q=>∃ d m,ds=[d]∧rm d=some m∧Q (.tup [.int m.re,.int m.im])
def o6:DSp:=fun ds Q=>∃ d e m n,ds=[d,e]∧rm d=some m∧rm e=some n∧m.mulOk n∧Q (m.mul n).dt
theorem yH {d:Dt} {m:Nm} (h:rm d=some m):d=m.dt:=by
 unfold rm at h
 split at h
 ·cases h; rfl
 ·cases h; rfl
 ·cases h
theorem yg (m:Nm):rm m.dt=some m:=by cases m <;> rfl
theorem ou (m:Nm):okE 40 m.dt=true:=by cases m <;> rfl
theorem small {n:Int} (h0:-1000000 ≤ n) (h1:n ≤ 1000000) (c:Int):IntMulOk c n:=XT (by rw [decide_eq_true_iff]; omega)
theorem wm {n:Int} (h0:-1000000 ≤ n) (h1:n ≤ 1000000) (c:Int):IntMulOk n c:=aw (by rw [decide_eq_true_iff]; omega)
def Kd.four:Kd→Bool
 | .plain=>true | .below=>true | .balanced=>true | .growing=>true | _=>false
def Kd.five:Kd→Bool
 | .falling=>false | _=>true
def Kd.low:Kd→Int→Int→Int
 | .balanced,n,_=>-n
 | _,_,_=>0
def Kd.high:Kd→Int→Int→Int
 | .plain,n,_=>n - 1
 | .below,n,_=>n - 1
 | .balanced,n,_=>n
 | .growing,n,p=>n + p - 1
 | .falling,n,_=>n
 | .pairs,n,_=>n * n
def Kd.rat:Kd→Int→Int→Int
 | .plain,n,_=>n
 | .below,n,_=>-n
 | .balanced,n,_=>2 * n + 1
 | .growing,n,p=>n + p
 | _,_,_=>0
def Kd.ratN:Kd→Int→Int→Nm
 | .pairs,n,_=>.p (-n) 1
 | k,n,p=>.i (k.rat n p)
def Nm.add:Nm→Nm→Nm
 | .i a,.i b=>.i (a + b)
 | m,n=>.p (m.re + n.re) (m.im + n.im)
def sE:DSp:=fun ds Q=>∃ d e m n,ds=[d,e]∧rm d=some m∧rm e=some n∧Q (m.add n).dt
def Kd.zero:Kd→Nm
 | .pairs=>.p 0 0
 | _=>.i 0
def wtF (n:Int):Nat→Int × Int
 | 0=>(1,1)
 | j + 1=>((wtF n j).2,n * (wtF n j).2 + (wtF n j).1)
def wtR (k:Kd) (n:Int):Nat→Nm
 | 0=>k.zero.add (.i 1)
 | j + 1=>(k.ratN n j).mul (wtR k n j)
def wt:Kd→Int→Nat→Nm
 | .falling,n,j=>.i (wtF n j).2
 | k,n,j=>wtR k n j
def wts (k:Kd) (n:Int) (m:Nat):List Dt:=(List.range m).map fun j=>(wt k n j).dt
theorem o9 (k:Kd) (n:Int) (m:Nat):wts k n (m + 1)=wts k n m ++ [(wt k n m).dt]:=by
 unfold wts
 rw [List.range_succ,List.map_append]
 rfl
theorem y8 (k:Kd) (n:Int) (m:Nat):(wts k n m).length=m:=by
 unfold wts
 rw [List.length_map,List.length_range]
theorem ZT {k:Kd} {n:Int} {m j:Nat} (h:j < m):(wts k n m)[j]? = some (wt k n j).dt:=by
 unfold wts
 rw [List.getElem?_map,List.getElem?_range h]
 rfl
theorem wa {k:Kd} {n:Int} (h:k.ok n):1 ≤ n∧n ≤ 60:=by
 obtain ⟨h1,h2⟩:=h
 cases k <;> simp only [Kd.lo,Kd.hi] at * <;> omega
theorem ft {k:Kd} {n p:Int} (h:k.ok n) (p0:0 ≤ p) (p1:p ≤ 1000):-1000000 ≤ (k.ratN n p).re∧(k.ratN n p).re ≤ 1000000∧-1000000 ≤ (k.ratN n p).im∧(k.ratN n p).im ≤ 1000000:=by
 obtain ⟨h1,h2⟩:=wa h
 cases k <;> simp only [Kd.ratN,Kd.rat,Nm.re,Nm.im] <;> omega
theorem cZ {k:Kd} {n p:Int} (h:k.ok n) (p0:0 ≤ p) (p1:p ≤ 1000) (m:Nm):(k.ratN n p).mulOk m:=by
 obtain ⟨a,b,c,d⟩:=ft h p0 p1
 exact ⟨wm a b _,wm c d _,wm a b _,wm c d _⟩
theorem ju {k:Kd} {n:Int} {j:Nat} (h:k.five=true):wt k n j=wtR k n j:=by cases k <;> first | rfl | cases h
theorem ZA {a:Int} {k:Nat} (h:a.natAbs < 2 ^ k):Builtin.Int.intBits a ≤ k:=by
 rw [intBits_le_iff]
 exact h
def bdN (m:Nm) (k:Nat):Prop:=m.re.natAbs < 2 ^ k∧m.im.natAbs < 2 ^ k
theorem uX {a b:Int} {i j:Nat} (h:a.natAbs < 2 ^ i) (h':b.natAbs < 2 ^ j) (hij:i + j ≤ 134217728):IntMulOk a b:=IntMulOk.of_le (ZA h) (ZA h') hij
theorem dk {m n:Nm} {i j:Nat} (h:bdN m i) (h':bdN n j) (hij:i + j ≤ 134217728):m.mulOk n:=⟨uX h.1 h'.1 hij,uX h.2 h'.2 hij,uX h.1 h'.2 hij,uX h.2 h'.1 hij⟩
def yS (k:Kd) (n:Int) (ns:List Int):Nat→Nm
 | 0=>k.zero
 | j + 1=>(yS k n ns j).add ((Nm.i (ns.getD j 0)).mul (wt k n j))
def bdR (ns:List Int):Prop:=∀ t ∈ ns,t.natAbs < 2 ^ 5000
theorem cX {ns:List Int} {i:Nat} {x:Dt} (h:(ns.map Dt.int)[i]? = some x):x=.int (ns.getD i 0)∧i < ns.length:=by
 rw [List.getElem?_map] at h
 cases q:ns[i]? with
 | none=>rw [q] at h; cases h
 | some z=>
  rw [q] at h
  have hl:i < ns.length:=by
   rcases Nat.lt_or_ge i ns.length with h | h
   ·exact h
   ·rw [List.getElem?_eq_none h] at q; cases q
  rw [List.getD_eq_getElem?_getD,q]
  exact ⟨(Option.some.inj h).symm,hl⟩
theorem oZ {ns:List Int} (h:bdR ns) (i:Nat):(ns.getD i 0).natAbs < 2 ^ 5000:=by
 rw [List.getD_eq_getElem?_getD]
 cases q:ns[i]? with
 | none=>exact Nat.two_pow_pos 5000
 | some z=>exact h z (List.mem_of_getElem? q)
theorem jr {k:Kd} {n:Int} {m i:Nat} {y:Dt} (h:(wts k n m)[i]? = some y):y=(wt k n i).dt:=by
 have hl:i < m:=by
  rcases Nat.lt_or_ge i m with q | q
  ·exact q
  ·rw [List.getElem?_eq_none (by rw [y8]; exact q)] at h; cases h
 rw [ZT hl] at h
 exact (Option.some.inj h).symm
theorem gO {n:Int} (h1:1 ≤ n) (h2:n ≤ 60):∀ j:Nat,(wtF n j).1.natAbs < 2 ^ (12 * j + 1)∧(wtF n j).2.natAbs < 2 ^ (12 * j + 1)
 | 0=>⟨(by decide:(1:Int).natAbs < 2 ^ 1),(by decide:(1:Int).natAbs < 2 ^ 1)⟩
 | j + 1=>by
  obtain ⟨a,b⟩:=gO h1 h2 j
  have pw:2 ^ (12 * (j + 1) + 1)=2 ^ (12 * j + 1) * 4096:=by rw [show 12 * (j + 1) + 1=(12 * j + 1) + 12 by omega,Nat.pow_add]
  rw [pw]
  unfold wtF
  dsimp only
  generalize 2 ^ (12 * j + 1)=B at *
  have hm:(n * (wtF n j).2).natAbs ≤ 60 * (wtF n j).2.natAbs:=by
   rw [Int.natAbs_mul]
   exact Nat.mul_le_mul_right _ (by omega)
  have hs:=Int.natAbs_add_le (n * (wtF n j).2) (wtF n j).1
  exact ⟨by omega,by omega⟩
theorem XR (r w:Nm):(r.mul w).re=r.re * w.re - r.im * w.im:=by cases r <;> cases w <;> simp [Nm.mul,Nm.re,Nm.im]
theorem XS (r w:Nm):(r.mul w).im=r.re * w.im + r.im * w.re:=by cases r <;> cases w <;> simp [Nm.mul,Nm.re,Nm.im]
theorem gN {k:Kd} {n:Int} (h:k.ok n):∀ j:Nat,j ≤ 1000→bdN (wtR k n j) (12 * j + 1)
 | 0,_=>by cases k <;> exact ⟨(by decide:(1:Int).natAbs < 2 ^ 1),(by decide:(0:Int).natAbs < 2 ^ 1)⟩
 | j + 1,hj=>by
  obtain ⟨a,b⟩:=gN h j (by omega)
  have pw:2 ^ (12 * (j + 1) + 1)=2 ^ (12 * j + 1) * 4096:=by rw [show 12 * (j + 1) + 1=(12 * j + 1) + 12 by omega,Nat.pow_add]
  obtain ⟨r1,r2,r3,r4⟩:=ft (p:=(j:Int)) h (by omega) (by omega)
  have hr:(k.ratN n j).re.natAbs ≤ 2000∧(k.ratN n j).im.natAbs ≤ 1:=by
   obtain ⟨h1,h2⟩:=wa h
   cases k <;> simp only [Kd.ratN,Kd.rat,Nm.re,Nm.im] <;> constructor <;> omega
  unfold bdN
  rw [pw]
  unfold wtR
  generalize 2 ^ (12 * j + 1)=B at *
  generalize k.ratN n j=r at *
  generalize wtR k n j=w at *
  obtain ⟨c,d⟩:=hr
  have m1:(r.re * w.re).natAbs ≤ 2000 * w.re.natAbs:=by rw [Int.natAbs_mul]; exact Nat.mul_le_mul_right _ c
  have m2:(r.im * w.im).natAbs ≤ 1 * w.im.natAbs:=by rw [Int.natAbs_mul]; exact Nat.mul_le_mul_right _ d
  have m3:(r.re * w.im).natAbs ≤ 2000 * w.im.natAbs:=by rw [Int.natAbs_mul]; exact Nat.mul_le_mul_right _ c
  have m4:(r.im * w.re).natAbs ≤ 1 * w.re.natAbs:=by rw [Int.natAbs_mul]; exact Nat.mul_le_mul_right _ d
  have s1:(r.re * w.re - r.im * w.im).natAbs ≤ (r.re * w.re).natAbs + (r.im * w.im).natAbs:=by omega
  have s2:=Int.natAbs_add_le (r.re * w.im) (r.im * w.re)
  rw [XR,XS]
  exact ⟨by omega,by omega⟩
theorem Zk {k:Kd} {n:Int} (h:k.ok n) {j:Nat} (hj:j ≤ 1000):bdN (wt k n j) (12 * j + 1):=by
 by_cases h5:k.five=true
 ·rw [ju h5]; exact gN h j hj
 ·cases k with
  | falling=>
   obtain ⟨h1,h2⟩:=wa h
   exact ⟨(gO h1 h2 j).2,show (0:Int).natAbs < _ from Nat.two_pow_pos _⟩
  | _=>exact absurd rfl h5
theorem Od {a:Int} {i:Nat} (h:a.natAbs < 2 ^ i):bdN (.i a) i:=⟨h,Nat.two_pow_pos _⟩
theorem wt4 {k:Kd} {n:Int} (h:k.four=true):∀ j,∃ w,wtR k n j=.i w
 | 0=>by cases k <;> cases h <;> exact ⟨_,rfl⟩
 | j + 1=>by
  obtain ⟨w,e⟩:=wt4 (n:=n) h j
  unfold wtR
  rw [e]
  cases k <;> cases h <;> exact ⟨_,rfl⟩
theorem wt2 {n:Int}:∀ j,∃ x y,wtR .pairs n j=.p x y
 | 0=>⟨_,_,rfl⟩
 | j + 1=>by
  obtain ⟨x,y,e⟩:=wt2 (n:=n) j
  unfold wtR
  rw [e]
  exact ⟨_,_,rfl⟩
theorem wtI {k:Kd} {n:Int} (h:k ≠ .pairs) (j:Nat):∃ w,wt k n j=.i w:=by
 cases k with
 | pairs=>exact absurd rfl h
 | falling=>exact ⟨_,rfl⟩
 | _=>exact wt4 rfl _
def sF (k:Kd) (n:Int) (j:Nat) (t:Nm):Int:=match k with
 | .pairs=>(t.re + n * t.im).fmod (n * n + 1)
 | k=>k.low n j + (t.re - k.low n j).fmod (k.high n j - k.low n j + 1)
def sC (k:Kd) (n:Int) (j:Nat) (t:Nm):Nm:=match k with
 | .pairs=>.p (((t.re - sF .pairs n j t) * (-n) - t.im * (-1)).fdiv (n * n + 1)) (((t.re - sF .pairs n j t) * (-1) + t.im * (-n)).fdiv (n * n + 1))
 | k=>.i ((t.re - sF k n j t).fdiv (k.rat n j))
def Nm.ty (k:Kd) (m:Nm):Prop:=match k with
 | .pairs=>∃ a b,m=.p a b
 | _=>∃ a,m=.i a
def tot (k:Kd) (m:Nm):Prop:=k ≠ .pairs→∃ a,m=.i a
def cAt (k:Kd) (n:Int) (ts:List Nm):Nat→Nm
 | 0=>k.zero
 | j + 1=>sC k n j ((cAt k n ts j).add (ts.getD j (.i 0)))
def fAt (k:Kd) (n:Int) (ts:List Nm) (j:Nat):Int:=sF k n j ((cAt k n ts j).add (ts.getD j (.i 0)))
def wD (k:Kd) (n:Int) (ts:List Nm) (j:Nat):List Int:=(List.range j).map (fAt k n ts)
def crs (k:Kd) (n:Int) (ts:List Nm) (j:Nat):List Nm:=(List.range j).map (cAt k n ts)
def yh:Kd→Nm→Bool
 | .below,.i _=>true
 | .balanced,.i _=>true
 | .pairs,.p _ _=>true
 | .pairs,.i _=>false
 | _,.i a=>decide (0 ≤ a)
 | _,.p _ _=>false
structure Fin (k:Kd) (n:Int) (ts:List Nm) (J:Nat):Prop where
 le:ts.length ≤ J
 z:cAt k n ts J=k.zero
 nz:∀ j,ts.length ≤ j→j < J→cAt k n ts j ≠ k.zero∧yh k (cAt k n ts j)=true
def wN (k:Kd) (n:Int) (ts:List Nm):Nat→Nm
 | 0=>k.zero
 | j + 1=>(wN k n ts j).add ((ts.getD j (.i 0)).mul (wt k n j))
def wF (k:Kd) (n:Int) (f:Nat→Int):Nat→Nm
 | 0=>k.zero
 | j + 1=>(wF k n f j).add ((Nm.i (f j)).mul (wt k n j))
theorem yB (m n:Nm):(m.add n).re=m.re + n.re:=by cases m <;> cases n <;> simp [Nm.add,Nm.re]
theorem yO (m n:Nm):(m.add n).im=m.im + n.im:=by cases m <;> cases n <;> simp [Nm.add,Nm.im]
theorem zM (r w:Nm):(r.mul w).re=r.re * w.re - r.im * w.im:=by cases r <;> cases w <;> simp [Nm.mul,Nm.re,Nm.im]
theorem zR (r w:Nm):(r.mul w).im=r.re * w.im + r.im * w.re:=by cases r <;> cases w <;> simp [Nm.mul,Nm.re,Nm.im]
theorem wd {k:Kd} {m:Nm} (h:k ≠ .pairs) (t:m.ty k):∃ a,m=.i a:=by
 cases k <;> first | exact t | exact absurd rfl h
theorem vL {k:Kd} {a:Int} (h:k ≠ .pairs):(Nm.i a).ty k:=by
 cases k <;> first | exact ⟨_,rfl⟩ | exact absurd rfl h
theorem yR (k:Kd):(k.zero).ty k:=by cases k <;> first | exact ⟨_,rfl⟩ | exact ⟨_,_,rfl⟩
theorem yc (k:Kd):(k.zero).re=0:=by cases k <;> rfl
theorem yu (k:Kd):(k.zero).im=0:=by cases k <;> rfl
theorem rp {k:Kd} {m m':Nm} (t:m.ty k) (t':m'.ty k) (h1:m.re=m'.re) (h2:m.im=m'.im):m=m':=by
 by_cases hk:k=.pairs
 ·subst hk
  obtain ⟨a,b,rfl⟩:=t
  obtain ⟨a',b',rfl⟩:=t'
  simp only [Nm.re,Nm.im] at h1 h2
  rw [h1,h2]
 ·obtain ⟨a,rfl⟩:=wd hk t
  obtain ⟨a',rfl⟩:=wd hk t'
  simp only [Nm.re] at h1
  rw [h1]
theorem fj (k:Kd) (n:Int) (j:Nat) (t:Nm):(sC k n j t).ty k:=by
 cases k <;> first | exact ⟨_,rfl⟩ | exact ⟨_,_,rfl⟩
theorem wH (k:Kd) (n:Int) (ts:List Nm):∀ j,(cAt k n ts j).ty k
 | 0=>yR k
 | j + 1=>fj k n j _
theorem vG {k:Kd} {c t:Nm} (h:c.ty k) (h':tot k t):(c.add t).ty k:=by
 by_cases hk:k=.pairs
 ·subst hk
  obtain ⟨a,b,rfl⟩:=h
  cases t <;> exact ⟨_,_,rfl⟩
 ·obtain ⟨a,rfl⟩:=wd hk h
  obtain ⟨b,rfl⟩:=h' hk
  exact vL hk
theorem wk {k:Kd} {ts:List Nm} (h:∀ t ∈ ts,tot k t) (j:Nat):tot k (ts.getD j (.i 0)):=by
 rw [List.getD_eq_getElem?_getD]
 cases q:ts[j]? with
 | none=>exact fun _=>⟨0,rfl⟩
 | some t=>exact h t (List.mem_of_getElem? q)
theorem iq {lo t n:Int} (hn:0 < n):lo ≤ lo + (t - lo).fmod n∧lo + (t - lo).fmod n ≤ lo + n - 1∧(lo + (t - lo).fmod n) + ((t - (lo + (t - lo).fmod n)).fdiv n) * n=t:=by
 have h0:=Int.fmod_nonneg_of_pos (t - lo) hn
 have h1:=Int.fmod_lt_of_pos (t - lo) hn
 have e:t - (lo + (t - lo).fmod n)=n * (t - lo).fdiv n:=by
  have:=Int.fmod_def (t - lo) n
  omega
 refine ⟨by omega,by omega,?_⟩
 have d:(t - (lo + (t - lo).fmod n)).fdiv n=(t - lo).fdiv n:=by
  rw [e]
  exact Int.mul_fdiv_cancel_left _ (by omega)
 rw [d,Int.mul_comm]
 omega
theorem ir {lo t n:Int} (hn:0 < n):lo ≤ lo + (t - lo).fmod n∧lo + (t - lo).fmod n ≤ lo + n - 1∧(lo + (t - lo).fmod n) + ((t - (lo + (t - lo).fmod n)).fdiv (-n)) * (-n)=t:=by
 have h0:=Int.fmod_nonneg_of_pos (t - lo) hn
 have h1:=Int.fmod_lt_of_pos (t - lo) hn
 have e:t - (lo + (t - lo).fmod n)=(-n) * (-((t - lo).fdiv n)):=by
  have:=Int.fmod_def (t - lo) n
  rw [Int.neg_mul_neg]
  omega
 refine ⟨by omega,by omega,?_⟩
 have d:(t - (lo + (t - lo).fmod n)).fdiv (-n)=-((t - lo).fdiv n):=by
  rw [e]
  exact Int.mul_fdiv_cancel_left _ (by omega)
 rw [d,Int.neg_mul_neg,Int.mul_comm]
 have:=Int.fmod_def (t - lo) n
 omega
theorem sK {a b m:Int} (N:Int) (hN:N=m * m + 1) (f:Int) (hf:f=(a + m * b).fmod N) (t0 t1:Int) (h0:t0=(a - f) * (-m) - b * (-1)) (h1:t1=(a - f) * (-1) + b * (-m)):
  0 ≤ f∧f ≤ m * m∧f - m * (t0.fdiv N) - t1.fdiv N=a∧t0.fdiv N - m * (t1.fdiv N)=b:=by
 have sq:0 ≤ m * m:=by
  rcases Int.le_total 0 m with h | h
  ·exact Int.mul_nonneg h h
  ·exact Int.mul_nonneg_of_nonpos_of_nonpos h h
 have hp:0 < N:=by omega
 have g0:=Int.fmod_nonneg_of_pos (a + m * b) hp
 have g1:=Int.fmod_lt_of_pos (a + m * b) hp
 have e:=Int.fmod_def (a + m * b) N
 rw [← hf] at e g0 g1
 generalize (a + m * b).fdiv N=q at e
 have e0:t0=N * (b - m * q):=by subst hN; grind
 have e1:t1=N * (-q):=by subst hN; grind
 have d0:t0.fdiv N=b - m * q:=by rw [e0]; exact Int.mul_fdiv_cancel_left _ (by omega)
 have d1:t1.fdiv N=-q:=by rw [e1]; exact Int.mul_fdiv_cancel_left _ (by omega)
 rw [d0,d1]
 refine ⟨g0,by omega,?_,?_⟩ <;> subst hN <;> grind
def Kd.size:Kd→Int→Int→Int
 | .plain,n,_=>n
 | .below,n,_=>n
 | .balanced,n,_=>2 * n + 1
 | .growing,n,p=>n + p
 | _,_,_=>0
theorem ss {k:Kd} (h5:k.five=true) (hk:k ≠ .pairs):k.four=true:=by
 cases k <;> first | rfl | exact absurd rfl hk | cases h5
theorem pY {k:Kd} (h:k.four=true) (n p:Int):k.high n p - k.low n p + 1=k.size n p∧(k.rat n p=k.size n p∨k.rat n p=-(k.size n p)):=by
 cases k <;> cases h <;> simp only [Kd.high,Kd.low,Kd.size,Kd.rat] <;> refine ⟨by omega,?_⟩ <;> first | exact .inl rfl | exact .inr rfl | exact .inr trivial | exact .inl trivial
theorem sM {k:Kd} {n:Int} (h:k.four=true) (hn:k.ok n) (j:Nat):2 ≤ k.size n j:=by
 obtain ⟨h1,h2⟩:=hn
 cases k <;> cases h <;> simp only [Kd.lo,Kd.hi,Kd.size] at * <;> omega
theorem sL {k:Kd} {n:Int} {j:Nat} {t:Nm} (h5:k.five=true) (hn:k.ok n) (ht:t.ty k):
  k.low n j ≤ sF k n j t∧sF k n j t ≤ k.high n j∧t.re=sF k n j t + ((k.ratN n j).mul (sC k n j t)).re∧t.im=((k.ratN n j).mul (sC k n j t)).im:=by
 by_cases hk:k=.pairs
 ·subst hk
  obtain ⟨g1,g2,g3,g4⟩:=sK (a:=t.re) (b:=t.im) (m:=n) (n * n + 1) rfl _ rfl _ _ rfl rfl
  refine ⟨g1,g2,?_,?_⟩
  ·rw [zM]
   show t.re=_ + (-n * _ - 1 * _)
   unfold sC sF Nm.re Nm.im at *
   dsimp only at *
   grind
  ·rw [zR]
   show t.im=(-n * _ + 1 * _)
   unfold sC sF Nm.re Nm.im at *
   dsimp only at *
   grind
 ·have h4:=ss h5 hk
  obtain ⟨e1,e2⟩:=pY h4 n j
  have hp:=sM h4 hn j
  obtain ⟨a,rfl⟩:=wd hk ht
  have eF:sF k n j (.i a)=k.low n j + (a - k.low n j).fmod (k.size n j):=by rw [← e1]; cases k <;> first | rfl | exact absurd rfl hk
  have eC:sC k n j (.i a)=.i ((a - sF k n j (.i a)).fdiv (k.rat n j)):=by cases k <;> first | rfl | exact absurd rfl hk
  have eR:k.ratN n j=.i (k.rat n j):=by cases k <;> first | rfl | exact absurd rfl hk
  have s1:=iq (lo:=k.low n j) (t:=a) (n:=k.size n j) (by omega)
  have s2:=ir (lo:=k.low n j) (t:=a) (n:=k.size n j) (by omega)
  rw [eC,eR,eF]
  refine ⟨s1.1,by have:=s1.2.1; omega,?_,rfl⟩
  show a=_ + k.rat n j * _
  rw [Int.mul_comm (k.rat n j)]
  rcases e2 with e | e
  ·rw [e]; exact s1.2.2.symm
  ·rw [e]; exact s2.2.2.symm
theorem yd {k:Kd} {n:Int} (h5:k.five=true) (j:Nat):wt k n (j + 1)=(k.ratN n j).mul (wt k n j):=by
 cases k <;> first | rfl | cases h5
theorem io {T1 T2 F1 F2 w1 w2 c1 c2 t1 t2 f r1 r2 d1 d2:Int} (h1:T1=F1 + (w1 * c1 - w2 * c2)) (h2:T2=F2 + (w1 * c2 + w2 * c1)) (s1:c1 + t1=f + (r1 * d1 - r2 * d2)) (s2:c2 + t2=r1 * d2 + r2 * d1):
  T1 + (t1 * w1 - t2 * w2)=F1 + (f * w1 - 0 * w2) + ((r1 * w1 - r2 * w2) * d1 - (r1 * w2 + r2 * w1) * d2)∧T2 + (t1 * w2 + t2 * w1)=F2 + (f * w2 + 0 * w1) + ((r1 * w1 - r2 * w2) * d2 + (r1 * w2 + r2 * w1) * d1):=by
 have e1:c1=f + (r1 * d1 - r2 * d2) - t1:=by omega
 have e2:c2=r1 * d2 + r2 * d1 - t2:=by omega
 subst e1 e2 h1 h2
 constructor <;> grind
theorem WA {k:Kd} {n:Int} {ts:List Nm} (h5:k.five=true) (hn:k.ok n) (ht:∀ t ∈ ts,tot k t):∀ j,
  (wN k n ts j).re=(wF k n (fAt k n ts) j).re + ((wt k n j).mul (cAt k n ts j)).re∧(wN k n ts j).im=(wF k n (fAt k n ts) j).im + ((wt k n j).mul (cAt k n ts j)).im
 | 0=>by
  unfold wN wF cAt
  rw [zM,zR,yc,yu]
  constructor <;> grind
 | j + 1=>by
  obtain ⟨i1,i2⟩:=WA h5 hn ht j
  obtain ⟨_,_,s1,s2⟩:=sL (j:=j) h5 hn (vG (wH k n ts j) (wk ht j))
  have ec:cAt k n ts (j + 1)=sC k n j ((cAt k n ts j).add (ts.getD j (.i 0))):=rfl
  have ef:fAt k n ts j=sF k n j ((cAt k n ts j).add (ts.getD j (.i 0))):=rfl
  rw [← ec,← ef] at s1
  rw [← ec] at s2
  rw [yB] at s1
  rw [yO] at s2
  have e1:(wN k n ts (j + 1))=(wN k n ts j).add ((ts.getD j (.i 0)).mul (wt k n j)):=rfl
  have e2:(wF k n (fAt k n ts) (j + 1))=(wF k n (fAt k n ts) j).add ((Nm.i (fAt k n ts j)).mul (wt k n j)):=rfl
  rw [e1,e2,yd h5]
  rw [zM] at s1
  rw [zR] at s2
  rw [zM] at i1
  rw [zR] at i2
  have R:=io i1 i2 s1 s2
  simp only [zM,zR,yB,yO]
  exact R
theorem Ug {k:Kd} {c:Nm} (h:c.ty k):c.add (.i 0)=c:=by
 by_cases hk:k=.pairs
 ·subst hk
  obtain ⟨a,b,rfl⟩:=h
  show Nm.p (a + 0) (b + 0)=_
  rw [Int.add_zero,Int.add_zero]
 ·obtain ⟨a,rfl⟩:=wd hk h
  show Nm.i (a + 0)=_
  rw [Int.add_zero]
theorem Wx {k:Kd} {c:Nm} (h:c.ty k):k.zero.add c=c:=by
 by_cases hk:k=.pairs
 ·subst hk
  obtain ⟨a,b,rfl⟩:=h
  show Nm.p (0 + a) (0 + b)=_
  rw [Int.zero_add,Int.zero_add]
 ·obtain ⟨a,rfl⟩:=wd hk h
  have:k.zero=.i 0:=by cases k <;> first | rfl | exact absurd rfl hk
  rw [this]
  show Nm.i (0 + a)=_
  rw [Int.zero_add]
theorem a_ {k:Kd} {n:Int} {ts:List Nm} {j:Nat} (h:ts.length ≤ j):cAt k n ts (j + 1)=sC k n j (cAt k n ts j):=by
 have e:ts.getD j (.i 0)=.i 0:=by rw [List.getD_eq_getElem?_getD,List.getElem?_eq_none h]; rfl
 show sC k n j ((cAt k n ts j).add (ts.getD j (.i 0)))=_
 rw [e,Ug (wH k n ts j)]
theorem nG {s t f a:Int} (hs:2 ≤ s) (f1:0 ≤ f) (f2:f ≤ s - 1) (q:t=f + s * a):2 * a.natAbs ≤ t.natAbs + 1∧(0 ≤ t→0 ≤ a)∧(t.natAbs ≤ 1→0 ≤ t→a=0):=by
 have hm:∀ x:Int,0 ≤ x→2 * x ≤ s * x:=fun x hx=>Int.mul_le_mul_of_nonneg_right hs hx
 have e2:s * (-a)=-(s * a):=Int.mul_neg ..
 have e3:s * (-a - 1)=-(s * a) - s:=by rw [Int.mul_sub,Int.mul_one,e2]
 rcases (by omega:0 ≤ a∨a ≤ -1) with z | z
 ·have:=hm a z
  exact ⟨by omega,fun _=>z,fun _ _=>by omega⟩
 ·have:=hm (-a - 1) (by omega)
  exact ⟨by omega,fun _=>by omega,fun _ _=>by omega⟩
theorem pe {k:Kd} {n:Int} {j:Nat} {t a:Int} (h4:k.four=true) (hn:k.ok n) (e:sC k n j (.i t)=.i a):
  2 * a.natAbs ≤ t.natAbs + 1∧(yh k (.i t)=true→yh k (.i a)=true)∧(t.natAbs ≤ 1→yh k (.i t)=true→a=0∨(t=-1∧a=1)):=by
 have h5:k.five=true:=by cases k <;> first | rfl | cases h4
 have hk:k ≠ .pairs:=fun z=>by rw [z] at h4; cases h4
 obtain ⟨f1,f2,q,_⟩:=sL (j:=j) h5 hn (t:=.i t) (vL hk)
 rw [e,zM] at q
 have hs:=sM h4 hn j
 obtain ⟨h1,h2⟩:=hn
 generalize sF k n j (.i t)=f at *
 cases k with
 | falling=>cases h4
 | pairs=>cases h4
 | plain=>
  simp only [Kd.ratN,Kd.rat,Nm.re,Nm.im,Kd.low,Kd.high,Kd.size,yh,decide_eq_true_iff] at *
  obtain ⟨p1,p2,p3⟩:=nG (t:=t) (a:=a) hs f1 f2 (by omega)
  exact ⟨p1,p2,fun x y=>.inl (p3 x y)⟩
 | below=>
  simp only [Kd.ratN,Kd.rat,Nm.re,Nm.im,Kd.low,Kd.high,Kd.size,yh] at *
  have q':t=f - n * a:=by rw [q,Int.neg_mul]; omega
  have hm:∀ x:Int,0 ≤ x→2 * x ≤ n * x:=fun x hx=>Int.mul_le_mul_of_nonneg_right hs hx
  have e1:n * (a - 1)=n * a - n:=by rw [Int.mul_sub,Int.mul_one]
  have e2:n * (-a)=-(n * a):=Int.mul_neg ..
  have e3:n * (-a - 1)=-(n * a) - n:=by rw [Int.mul_sub,Int.mul_one,e2]
  refine ⟨?_,fun _=>trivial,fun h3 _=>?_⟩
  ·rcases (by omega:1 ≤ a∨a=0∨a ≤ -1) with z | z | z
   ·have:=hm (a - 1) (by omega); omega
   ·omega
   ·have:=hm (-a) (by omega); omega
  ·rcases (by omega:2 ≤ a∨a=1∨a=0∨a ≤ -1) with z | z | z | z
   ·have:=hm (a - 1) (by omega); omega
   ·subst z; omega
   ·exact .inl z
   ·have:=hm (-a) (by omega); omega
 | balanced=>
  simp only [Kd.ratN,Kd.rat,Nm.re,Nm.im,Kd.low,Kd.high,Kd.size,yh,Kd.lo] at *
  have q':t=f + 2 * (n * a) + a:=by rw [q,Int.add_mul,Int.mul_assoc]; omega
  have hm:∀ x:Int,0 ≤ x→x ≤ n * x:=fun x hx=>by
   have:=Int.mul_le_mul_of_nonneg_right h1 hx
   omega
  have e1:n * (a - 1)=n * a - n:=by rw [Int.mul_sub,Int.mul_one]
  have e2:n * (-a)=-(n * a):=Int.mul_neg ..
  have e3:n * (-a - 1)=-(n * a) - n:=by rw [Int.mul_sub,Int.mul_one,e2]
  have key:2 * a.natAbs ≤ t.natAbs:=by
   rcases (by omega:1 ≤ a∨a=0∨a ≤ -1) with z | z | z
   ·have:=hm (a - 1) (by omega); have:=hm a (by omega); omega
   ·omega
   ·have:=hm (-a - 1) (by omega); have:=hm (-a) (by omega); omega
  exact ⟨by omega,fun _=>trivial,fun _ _=>.inl (by omega)⟩
 | growing=>
  simp only [Kd.ratN,Kd.rat,Nm.re,Nm.im,Kd.low,Kd.high,Kd.size,yh,decide_eq_true_iff] at *
  obtain ⟨p1,p2,p3⟩:=nG (t:=t) (a:=a) (s:=n + (j:Int)) hs f1 (by omega) (by omega)
  exact ⟨p1,p2,fun x y=>.inl (p3 x y)⟩
theorem Zj {k:Kd} (h4:k.four=true):k.zero=.i 0:=by cases k <;> first | rfl | cases h4
theorem sC4 {k:Kd} {n:Int} {j:Nat} {t:Nm} (h4:k.four=true):∃ a,sC k n j t=.i a:=wd (fun z=>by rw [z] at h4; cases h4) (fj k n j t)
theorem ZD {k:Kd} {n:Int} (h4:k.four=true) (hn:k.ok n):∀ (b:Nat) (j:Nat) (c:Nat→Nm) (t:Int),c 0=.i t→(∀ i,c (i + 1)=sC k n (j + i) (c i))→yh k (.i t)=true→t.natAbs ≤ 2 ^ b→∃ m,m ≤ b + 2∧c m=k.zero
 | 0,j,c,t,h0,hc,hh,hb=>by
  obtain ⟨a,ea⟩:=sC4 (n:=n) (j:=j) (t:=.i t) h4
  have e1:c 1=.i a:=by rw [hc 0,h0]; exact ea
  obtain ⟨_,s2,s3⟩:=pe h4 hn ea
  rcases s3 hb hh with z | ⟨_,z⟩
  ·exact ⟨1,by omega,by rw [e1,z,Zj h4]⟩
  ·obtain ⟨a2,ea2⟩:=sC4 (n:=n) (j:=j + 1) (t:=.i a) h4
   have e2:c 2=.i a2:=by rw [hc 1,e1]; exact ea2
   obtain ⟨_,_,s5⟩:=pe h4 hn ea2
   rcases s5 (by omega) (s2 hh) with y | ⟨y,_⟩
   ·exact ⟨2,by omega,by rw [e2,y,Zj h4]⟩
   ·omega
 | b + 1,j,c,t,h0,hc,hh,hb=>by
  obtain ⟨a,ea⟩:=sC4 (n:=n) (j:=j) (t:=.i t) h4
  have e1:c 1=.i a:=by rw [hc 0,h0]; exact ea
  obtain ⟨s1,s2,_⟩:=pe h4 hn ea
  have hp:2 ^ (b + 1)=2 * 2 ^ b:=by rw [Nat.pow_succ]; omega
  obtain ⟨m,hm,e⟩:=ZD h4 hn b (j + 1) (fun i=>c (i + 1)) a e1 (fun i=>by rw [hc (i + 1),show j + (i + 1)=j + 1 + i by omega]) (s2 hh) (by omega)
  exact ⟨m + 1,by omega,e⟩
theorem nq {k:Kd} {n:Int} (h4:k.four=true) (hn:k.ok n) {j:Nat} {c:Nat→Nm} {t:Int} (h0:c 0=.i t) (hc:∀ i,c (i + 1)=sC k n (j + i) (c i)) (hh:yh k (.i t)=true):∀ i,∃ a,c i=.i a∧yh k (.i a)=true
 | 0=>⟨t,h0,hh⟩
 | i + 1=>by
  obtain ⟨a,e,h⟩:=nq h4 hn h0 hc hh i
  obtain ⟨a',e'⟩:=sC4 (n:=n) (j:=j + i) (t:=.i a) h4
  exact ⟨a',by rw [hc i,e]; exact e',(pe h4 hn e').2.1 h⟩
def pA (n a b:Int):Int:=((a - (a + n * b).fmod (n * n + 1)) * (-n) - b * (-1)).fdiv (n * n + 1)
def pB (n a b:Int):Int:=((a - (a + n * b).fmod (n * n + 1)) * (-1) + b * (-n)).fdiv (n * n + 1)
theorem cW (n:Int) (j:Nat) (a b:Int):sC .pairs n j (.p a b)=.p (pA n a b) (pB n a b):=rfl
def pz (n:Int):Nat→Int→Int→Bool
 | 0,a,b=>a == 0 && b == 0
 | m + 1,a,b=>(a == 0 && b == 0) || pz n m (pA n a b) (pB n a b)
theorem Z4:(List.range 9).all (fun n=>(List.range 31).all fun a=>(List.range 31).all fun b=>pz ((n:Int) + 1) 14 ((a:Int) - 15) ((b:Int) - 15))=true:=by decide +kernel
theorem fv {n a b:Int} (n1:1 ≤ n) (n2:n ≤ 9) (a1:-15 ≤ a) (a2:a ≤ 15) (b1:-15 ≤ b) (b2:b ≤ 15):pz n 14 a b=true:=by
 have h:=List.all_eq_true.mp Z4 (n - 1).toNat (List.mem_range.mpr (by omega))
 have h:=List.all_eq_true.mp h (a + 15).toNat (List.mem_range.mpr (by omega))
 have h:=List.all_eq_true.mp h (b + 15).toNat (List.mem_range.mpr (by omega))
 rw [show (((n - 1).toNat:Nat):Int) + 1=n by omega,show (((a + 15).toNat:Nat):Int) - 15=a by omega,show (((b + 15).toNat:Nat):Int) - 15=b by omega] at h
 exact h
theorem og {n:Int}:∀ (m j:Nat) (c:Nat→Nm) (a b:Int),c 0=.p a b→(∀ i,c (i + 1)=sC .pairs n (j + i) (c i))→pz n m a b=true→∃ i,i ≤ m∧c i=Kd.zero .pairs
 | 0,j,c,a,b,h0,hc,h=>by
  unfold pz at h
  rw [Bool.and_eq_true,beq_iff_eq,beq_iff_eq] at h
  exact ⟨0,Nat.le_refl _,by rw [h0,h.1,h.2]; rfl⟩
 | m + 1,j,c,a,b,h0,hc,h=>by
  unfold pz at h
  rw [Bool.or_eq_true] at h
  rcases h with h | h
  ·rw [Bool.and_eq_true,beq_iff_eq,beq_iff_eq] at h
   exact ⟨0,by omega,by rw [h0,h.1,h.2]; rfl⟩
  ·obtain ⟨i,hi,e⟩:=og m (j + 1) (fun i=>c (i + 1)) _ _ (by rw [hc 0,h0]; exact cW n _ a b) (fun i=>by rw [hc (i + 1),show j + (i + 1)=j + 1 + i by omega]) h
   exact ⟨i + 1,by omega,e⟩
theorem jB {n a b:Int}:∃ f,0 ≤ f∧f ≤ n * n∧(a - f) * (a - f) + b * b=(n * n + 1) * (pA n a b * pA n a b + pB n a b * pB n a b):=by
 obtain ⟨g1,g2,g3,g4⟩:=sK (a:=a) (b:=b) (m:=n) (n * n + 1) rfl _ rfl _ _ rfl rfl
 refine ⟨_,g1,g2,?_⟩
 have e1:pA n a b=((a - (a + n * b).fmod (n * n + 1)) * (-n) - b * (-1)).fdiv (n * n + 1):=rfl
 have e2:pB n a b=((a - (a + n * b).fmod (n * n + 1)) * (-1) + b * (-n)).fdiv (n * n + 1):=rfl
 rw [← e1,← e2] at g3
 rw [← e1,← e2] at g4
 generalize (a + n * b).fmod (n * n + 1)=f at *
 generalize pA n a b=x at *
 generalize pB n a b=y at *
 have ea:a - f=-(n * x) - y:=by omega
 have eb:b=x - n * y:=by omega
 rw [ea,eb]
 grind
theorem zV (x:Int):0 ≤ x * x:=by
 rcases Int.le_total 0 x with h | h
 ·exact Int.mul_nonneg h h
 ·exact Int.mul_nonneg_of_nonpos_of_nonpos h h
theorem dM {n a b f:Int} (n1:1 ≤ n) (n2:n ≤ 9) (f0:0 ≤ f) (f1:f ≤ n * n) (h:¬ (-15 ≤ a∧a ≤ 15∧-15 ≤ b∧b ≤ 15)):8 * ((a - f) * (a - f) + b * b) ≤ 5 * ((n * n + 1) * (a * a + b * b)):=by
 have e1:(a - f) * (a - f)=a * a - 2 * (a * f) + f * f:=by grind
 have e2:(n * n + 1) * (a * a + b * b)=(n * n) * (a * a + b * b) + (a * a + b * b):=by grind
 rw [e1,e2]
 have q1:1 ≤ n * n:=by have:=Int.mul_le_mul n1 n1 (by omega) (by omega); omega
 have q2:n * n ≤ 81:=by have:=Int.mul_le_mul n2 n2 (by omega) (by omega); omega
 have hff:f * f ≤ (n * n) * (n * n):=Int.mul_le_mul f1 f1 f0 (by omega)
 have hf0:0 ≤ f * f:=zV f
 have haf:-(a.natAbs:Int) * (n * n) ≤ a * f:=by
  rcases Int.le_total 0 a with z | z
  ·have z1:0 ≤ a * f:=Int.mul_nonneg z f0
   have z2:0 ≤ a * (n * n):=Int.mul_nonneg z (by omega)
   rw [show (a.natAbs:Int)=a by omega,Int.neg_mul]
   omega
  ·rw [show (a.natAbs:Int)=-a by omega,Int.neg_neg]
   exact Int.mul_le_mul_of_nonpos_left z f1
 have hA:(a.natAbs:Int) * a.natAbs=a * a:=by
  rcases Int.le_total 0 a with z | z
  ·rw [show (a.natAbs:Int)=a by omega]
  ·rw [show (a.natAbs:Int)=-a by omega,Int.neg_mul_neg]
 have hB:(b.natAbs:Int) * b.natAbs=b * b:=by
  rcases Int.le_total 0 b with z | z
  ·rw [show (b.natAbs:Int)=b by omega]
  ·rw [show (b.natAbs:Int)=-b by omega,Int.neg_mul_neg]
 have hAB:16 ≤ (a.natAbs:Int)∨16 ≤ (b.natAbs:Int):=by omega
 have hA0:(0:Int) ≤ (a.natAbs:Int):=Int.natCast_nonneg _
 rw [← hA,← hB]
 generalize (a.natAbs:Int)=A at *
 generalize (b.natAbs:Int)=B at *
 have sB:=zV B
 have s4:=zV (A - 4)
 have s2:=zV (A - 2)
 have x4:(A - 4) * (A - 4)=A * A - 8 * A + 16:=by grind
 have x2:(A - 2) * (A - 2)=A * A - 4 * A + 4:=by grind
 rw [x4] at s4
 rw [x2] at s2
 have hb16:16 ≤ B→256 ≤ B * B:=fun z=>by have:=Int.mul_le_mul z z (by decide) (by omega); omega
 have ha16:16 ≤ A→16 * A ≤ A * A:=fun z=>Int.mul_le_mul_of_nonneg_right z (by omega)
 rcases (by omega:n=1∨n=2∨n=3∨n=4∨n=5∨n=6∨n=7∨n=8∨n=9) with z | z | z | z | z | z | z | z | z <;> subst z <;> rcases hAB with z | z <;> first | (have:=ha16 z; omega) | (have:=hb16 z; omega)
theorem mC {n a b:Int} (n1:1 ≤ n) (n2:n ≤ 9) (h:¬ (-15 ≤ a∧a ≤ 15∧-15 ≤ b∧b ≤ 15)):8 * (pA n a b * pA n a b + pB n a b * pB n a b) ≤ 5 * (a * a + b * b):=by
 obtain ⟨f,f0,f1,e⟩:=jB (n:=n) (a:=a) (b:=b)
 have k:=dM n1 n2 f0 f1 h
 rw [e] at k
 have q1:0 < n * n + 1:=by have:=zV n; omega
 generalize pA n a b * pA n a b + pB n a b * pB n a b=X at *
 generalize a * a + b * b=Y at *
 generalize n * n + 1=N at *
 have k':N * (8 * X) ≤ N * (5 * Y):=by
  have r1:N * (8 * X)=8 * (N * X):=by grind
  have r2:N * (5 * Y)=5 * (N * Y):=by grind
  rw [r1,r2]; exact k
 exact Int.le_of_mul_le_mul_left k' q1
theorem VO {n:Int} (n1:1 ≤ n) (n2:n ≤ 9):∀ (d j:Nat) (c:Nat→Nm) (a b:Int),c 0=.p a b→(∀ i,c (i + 1)=sC .pairs n (j + i) (c i))→a * a + b * b ≤ ((2 ^ d:Nat):Int)→∃ m,m ≤ 2 * d + 16∧c m=Kd.zero .pairs:=by
 intro d
 induction d with
 | zero=>
  intro j c a b h0 hc hb
  have sa:=zV a
  have sb:=zV b
  have hb':a * a + b * b ≤ 1:=hb
  have ha:-15 ≤ a∧a ≤ 15:=by
   constructor
   ·rcases Int.lt_or_le a (-15) with z | z
    ·have:=Int.mul_le_mul (show 16 ≤ -a by omega) (show 16 ≤ -a by omega) (by decide) (by omega)
     rw [Int.neg_mul_neg] at this; omega
    ·exact z
   ·rcases Int.lt_or_le 15 a with z | z
    ·have:=Int.mul_le_mul (show 16 ≤ a by omega) (show 16 ≤ a by omega) (by decide) (by omega)
     omega
    ·exact z
  have hbb:-15 ≤ b∧b ≤ 15:=by
   constructor
   ·rcases Int.lt_or_le b (-15) with z | z
    ·have:=Int.mul_le_mul (show 16 ≤ -b by omega) (show 16 ≤ -b by omega) (by decide) (by omega)
     rw [Int.neg_mul_neg] at this; omega
    ·exact z
   ·rcases Int.lt_or_le 15 b with z | z
    ·have:=Int.mul_le_mul (show 16 ≤ b by omega) (show 16 ≤ b by omega) (by decide) (by omega)
     omega
    ·exact z
  obtain ⟨i,hi,e⟩:=og 14 j c a b h0 hc (fv n1 n2 ha.1 ha.2 hbb.1 hbb.2)
  exact ⟨i,by omega,e⟩
 | succ d ih=>
  intro j c a b h0 hc hb
  by_cases hin:-15 ≤ a∧a ≤ 15∧-15 ≤ b∧b ≤ 15
  ·obtain ⟨i,hi,e⟩:=og 14 j c a b h0 hc (fv n1 n2 hin.1 hin.2.1 hin.2.2.1 hin.2.2.2)
   exact ⟨i,by omega,e⟩
  ·have e1:c 1=.p (pA n a b) (pB n a b):=by rw [hc 0,h0]; exact cW n _ a b
   have k1:=mC n1 n2 hin
   by_cases hin2:-15 ≤ pA n a b∧pA n a b ≤ 15∧-15 ≤ pB n a b∧pB n a b ≤ 15
   ·obtain ⟨i,hi,e⟩:=og 14 (j + 1) (fun i=>c (i + 1)) _ _ e1 (fun i=>by rw [hc (i + 1),show j + (i + 1)=j + 1 + i by omega]) (fv n1 n2 hin2.1 hin2.2.1 hin2.2.2.1 hin2.2.2.2)
    exact ⟨i + 1,by omega,e⟩
   ·have k2:=mC n1 n2 hin2
    have e2:c 2=.p (pA n (pA n a b) (pB n a b)) (pB n (pA n a b) (pB n a b)):=by rw [hc 1,e1]; exact cW n _ _ _
    have hp:((2 ^ (d + 1):Nat):Int)=2 * ((2 ^ d:Nat):Int):=by rw [Nat.pow_succ]; omega
    have h2:(0:Int) ≤ ((2 ^ d:Nat):Int):=Int.natCast_nonneg _
    obtain ⟨m,hm,e⟩:=ih (j + 2) (fun i=>c (i + 2)) _ _ e2 (fun i=>by rw [hc (i + 2),show j + (i + 2)=j + 2 + i by omega]) (by omega)
    exact ⟨m + 2,by omega,e⟩
theorem Z3 {k:Kd} {n:Int} {j:Nat} {c t:Nm} {T:Nat} (h4:k.four=true) (hn:k.ok n) (hc:c.ty k) (ht:tot k t) (b1:c.re.natAbs ≤ T + 1) (b2:t.re.natAbs ≤ T):(sC k n j (c.add t)).re.natAbs ≤ T + 1:=by
 have hk:k ≠ .pairs:=fun z=>by rw [z] at h4; cases h4
 obtain ⟨x,rfl⟩:=wd hk hc
 obtain ⟨y,rfl⟩:=ht hk
 obtain ⟨a,ea⟩:=sC4 (n:=n) (j:=j) (t:=.i (x + y)) h4
 have e:(Nm.i x).add (.i y)=.i (x + y):=rfl
 rw [e,ea]
 have:=(pe h4 hn ea).1
 simp only [Nm.re] at *
 omega
theorem jX {k:Kd} {n:Int} {ts:List Nm} {T:Nat} (h4:k.four=true) (hn:k.ok n) (ht:∀ t ∈ ts,tot k t) (hb:∀ t ∈ ts,t.re.natAbs ≤ T):∀ j,(cAt k n ts j).re.natAbs ≤ T + 1
 | 0=>by
  show (k.zero).re.natAbs ≤ _
  rw [yc]
  exact Nat.zero_le _
 | j + 1=>by
  refine Z3 h4 hn (wH k n ts j) (wk ht j) (jX h4 hn ht hb j) ?_
  rw [List.getD_eq_getElem?_getD]
  cases q:ts[j]? with
  | none=>exact Nat.zero_le _
  | some t=>exact hb t (List.mem_of_getElem? q)
theorem Zp {x T:Int} (h1:-T ≤ x) (h2:x ≤ T):x * x ≤ T * T:=by
 rcases Int.le_total 0 x with z | z
 ·exact Int.mul_le_mul h2 h2 z (by omega)
 ·have:=Int.mul_le_mul (show -x ≤ T by omega) (show -x ≤ T by omega) (by omega) (by omega)
  rwa [Int.neg_mul_neg] at this
theorem gm {n a b x y T:Int} (hT:81 ≤ T) (n1:1 ≤ n) (n2:n ≤ 9) (hx1:-T ≤ x) (hx2:x ≤ T) (hy1:-T ≤ y) (hy2:y ≤ T) (h:a * a + b * b ≤ 30 * (T * T)):
  pA n (a + x) (b + y) * pA n (a + x) (b + y) + pB n (a + x) (b + y) * pB n (a + x) (b + y) ≤ 30 * (T * T):=by
 obtain ⟨f,f0,f1,e⟩:=jB (n:=n) (a:=a + x) (b:=b + y)
 have q1:1 ≤ n * n:=by have:=Int.mul_le_mul n1 n1 (by omega) (by omega); omega
 have q2:n * n ≤ 81:=by have:=Int.mul_le_mul n2 n2 (by omega) (by omega); omega
 generalize pA n (a + x) (b + y) * pA n (a + x) (b + y) + pB n (a + x) (b + y) * pB n (a + x) (b + y)=X at *
 have hX:2 * X ≤ (n * n + 1) * X∨X < 0:=by
  rcases Int.lt_or_le X 0 with z | z
  ·exact .inr z
  ·exact .inl (Int.mul_le_mul_of_nonneg_right (by omega) z)
 have r1:2 * ((a + x - f) * (a + x - f)) ≤ 3 * (a * a) + 6 * ((x - f) * (x - f)):=by
  have:=zV (a - 2 * (x - f))
  have e1:(a - 2 * (x - f)) * (a - 2 * (x - f))=a * a - 4 * (a * (x - f)) + 4 * ((x - f) * (x - f)):=by grind
  have e2:(a + x - f) * (a + x - f)=a * a + 2 * (a * (x - f)) + (x - f) * (x - f):=by grind
  omega
 have r2:2 * ((b + y) * (b + y)) ≤ 3 * (b * b) + 6 * (y * y):=by
  have:=zV (b - 2 * y)
  have e1:(b - 2 * y) * (b - 2 * y)=b * b - 4 * (b * y) + 4 * (y * y):=by grind
  have e2:(b + y) * (b + y)=b * b + 2 * (b * y) + y * y:=by grind
  omega
 have s1:(x - f) * (x - f) ≤ (2 * T) * (2 * T):=Zp (by omega) (by omega)
 have s2:y * y ≤ T * T:=Zp hy1 hy2
 have s3:(2 * T) * (2 * T)=4 * (T * T):=by grind
 have s4:=zV T
 omega
theorem jW {n:Int} {ts:List Nm} {T:Nat} (hT:81 ≤ T) (hn:Kd.pairs.ok n) (hb:∀ t ∈ ts,t.re.natAbs ≤ T∧t.im.natAbs ≤ T):∀ j,∃ a b,cAt .pairs n ts j=.p a b∧a * a + b * b ≤ 30 * ((T:Int) * T)
 | 0=>⟨0,0,rfl,by have:=zV (T:Int); omega⟩
 | j + 1=>by
  obtain ⟨a,b,e,h⟩:=jW hT hn hb j
  have ht:(ts.getD j (.i 0)).re.natAbs ≤ T∧(ts.getD j (.i 0)).im.natAbs ≤ T:=by
   rw [List.getD_eq_getElem?_getD]
   cases q:ts[j]? with
   | none=>exact ⟨Nat.zero_le _,Nat.zero_le _⟩
   | some t=>exact hb t (List.mem_of_getElem? q)
  have ea:(Nm.p a b).add (ts.getD j (.i 0))=.p (a + (ts.getD j (.i 0)).re) (b + (ts.getD j (.i 0)).im):=by
   cases ts.getD j (.i 0) <;> rfl
  refine ⟨_,_,by show sC .pairs n j ((cAt .pairs n ts j).add _)=_; rw [e,ea]; exact cW ..,?_⟩
  have h1:(1:Int) ≤ n:=hn.1
  have h2:n ≤ 9:=hn.2
  exact gm (by omega) h1 h2 (by omega) (by omega) (by omega) (by omega) h
theorem VB {P:Nat→Prop}:∀ (m:Nat),P m→∃ i,i ≤ m∧P i∧∀ l,l < i→¬ P l:=by
 intro m
 induction m using Nat.strongRecOn with
 | ind m ih=>
  intro h
  by_cases hx:∃ l,l < m∧P l
  ·obtain ⟨l,hl,pl⟩:=hx
   obtain ⟨i,hi,h2⟩:=ih l hl pl
   exact ⟨i,by omega,h2⟩
  ·exact ⟨m,Nat.le_refl _,h,fun l hl pl=>hx ⟨l,hl,pl⟩⟩
theorem cU {k:Kd} {n:Int} {ts:List Nm} {b:Nat} (h5:k.five=true) (hn:k.ok n) (ht:∀ t ∈ ts,tot k t) (hb:∀ t ∈ ts,t.re.natAbs ≤ 2 ^ b∧t.im.natAbs ≤ 2 ^ b) (b7:7 ≤ b) (hh:yh k (cAt k n ts ts.length)=true):
  ∃ J,Fin k n ts J∧J ≤ ts.length + 4 * b + 30:=by
 have hpow:2 ^ (b + 1)=2 * 2 ^ b:=by rw [Nat.pow_succ]; omega
 have h128:128 ≤ 2 ^ b:=Nat.pow_le_pow_right (by decide:0 < 2) b7
 have main:∃ m,m ≤ 4 * b + 30∧cAt k n ts (ts.length + m)=k.zero∧∀ i,yh k (cAt k n ts (ts.length + i))=true:=by
  have hc:∀ i,cAt k n ts (ts.length + (i + 1))=sC k n (ts.length + i) (cAt k n ts (ts.length + i)):=fun i=>a_ (j:=ts.length + i) (by omega)
  by_cases hk:k=.pairs
  ·subst hk
   obtain ⟨x,y,e,hxy⟩:=jW (T:=2 ^ b) (by omega) hn hb ts.length
   have hbig:30 * (((2 ^ b:Nat):Int) * ((2 ^ b:Nat):Int)) ≤ ((2 ^ (2 * b + 5):Nat):Int):=by
    have:2 ^ (2 * b + 5)=32 * (2 ^ b * 2 ^ b):=by rw [← Nat.pow_add,show 2 * b + 5=(b + b) + 5 by omega,Nat.pow_add]; omega
    rw [this,← Int.natCast_mul]
    omega
   obtain ⟨m,hm,em⟩:=VO hn.1 hn.2 (2 * b + 5) ts.length (fun i=>cAt .pairs n ts (ts.length + i)) x y e hc (Int.le_trans hxy hbig)
   refine ⟨m,by omega,em,fun i=>?_⟩
   obtain ⟨u,v,e'⟩:=wH .pairs n ts (ts.length + i)
   rw [e']
   rfl
  ·have h4:=ss h5 hk
   obtain ⟨t,et⟩:=wd hk (wH k n ts ts.length)
   rw [et] at hh
   have bd:=jX h4 hn ht (fun t h=>(hb t h).1) ts.length
   rw [et] at bd
   have bd':t.natAbs ≤ 2 ^ b + 1:=bd
   obtain ⟨m,hm,em⟩:=ZD h4 hn (b + 1) ts.length (fun i=>cAt k n ts (ts.length + i)) t et hc hh (by omega)
   refine ⟨m,by omega,em,fun i=>?_⟩
   obtain ⟨a,e',h'⟩:=nq h4 hn (c:=fun i=>cAt k n ts (ts.length + i)) et hc hh i
   have e':cAt k n ts (ts.length + i)=.i a:=e'
   rw [e']
   exact h'
 obtain ⟨m,hm,em,hall⟩:=main
 obtain ⟨i,hi,pi,hl⟩:=VB (P:=fun i=>cAt k n ts (ts.length + i)=k.zero) m em
 refine ⟨ts.length + i,⟨by omega,pi,fun j h1 h2=>?_⟩,by omega⟩
 have e:j=ts.length + (j - ts.length):=by omega
 rw [e]
 exact ⟨hl _ (by omega),hall _⟩
theorem ui (k:Kd) (n:Int) (ts:List Nm) (j:Nat):(wD k n ts j).length=j:=by unfold wD; rw [List.length_map,List.length_range]
theorem mJ {k:Kd} {n:Int} {ts:List Nm} {j i:Nat} (h:i < j):(wD k n ts j).getD i 0=fAt k n ts i:=by
 unfold wD
 rw [List.getD_eq_getElem?_getD,List.getElem?_map,List.getElem?_range h]
 rfl
theorem gE (k:Kd) (n:Int) (ts:List Nm) (j:Nat):wD k n ts (j + 1)=wD k n ts j ++ [fAt k n ts j]:=by
 unfold wD
 rw [List.range_succ,List.map_append]
 rfl
theorem cp (k:Kd) (n:Int) (ts:List Nm) (j:Nat):crs k n ts (j + 1)=crs k n ts j ++ [cAt k n ts j]:=by
 unfold crs
 rw [List.range_succ,List.map_append]
 rfl
theorem aX (k:Kd) (n:Int) (ts:List Nm) (j:Nat):(crs k n ts j).length=j:=by unfold crs; rw [List.length_map,List.length_range]
def Kd.isF:Kd→Bool
 | .falling=>true
 | _=>false
structure Legal (k:Kd) (n:Int) (r:List Int):Prop where
 fig:∀ p,p < r.length→k.low n p ≤ r.getD p 0∧r.getD p 0 ≤ k.high n p
 fal:k.isF=true→∀ p,p + 1 < r.length→r.getD (p + 1) 0=n→r.getD p 0=0
 end_:r=[]∨r.getD (r.length - 1) 0 ≠ 0
open Classical in
noncomputable def mD (k:Kd) (n:Int) (r:List Int):Bool:=decide (Legal k n r)
open Classical in
theorem oS {k:Kd} {n:Int} {r:List Int} (h:Legal k n r):mD k n r=true:=by unfold mD; exact decide_eq_true h
open Classical in
theorem sk {k:Kd} {n:Int} {r:List Int} (h:¬ Legal k n r):mD k n r=false:=by unfold mD; exact decide_eq_false h
structure Lg (k:Kd) (n:Int) (r:List Int):Prop where
 fig:∀ p,p < r.length→k.low n p ≤ r.getD p 0∧r.getD p 0 ≤ k.high n p
 fal:k.isF=true→∀ p,p + 1 < r.length→r.getD (p + 1) 0=n→r.getD p 0=0
theorem oQ {k:Kd} {n:Int} (h:k.ok n) (p:Nat):k.low n p ≤ 0∧0 ≤ k.high n p:=by
 obtain ⟨h1,h2⟩:=h
 cases k <;> simp only [Kd.lo,Kd.hi,Kd.low,Kd.high] at * <;> first | omega | exact ⟨Int.le_refl _,Int.mul_nonneg (by omega) (by omega)⟩
theorem zI {r:List Int} {z:Int} {p:Nat} (h:p < r.length):(r ++ [z]).getD p 0=r.getD p 0:=by
 rw [List.getD_eq_getElem?_getD,List.getD_eq_getElem?_getD,List.getElem?_append_left h]
theorem getD_snoc_eq {r:List Int} {z:Int}:(r ++ [z]).getD r.length 0=z:=by
 rw [List.getD_eq_getElem?_getD,List.getElem?_append_right (Nat.le_refl _)]
 simp
theorem Lg.nil (k:Kd) (n:Int):Lg k n []:=⟨fun p h=>absurd h (Nat.not_lt_zero _),fun _ p h=>absurd h (Nat.not_lt_zero _)⟩
theorem Lg.pop {k:Kd} {n:Int} {r:List Int} {z:Int} (h:Lg k n (r ++ [z])):Lg k n r:=by
 refine ⟨fun p hp=>?_,fun hk p hp=>?_⟩
 ·have:=h.fig p (by rw [List.length_append]; omega)
  rwa [zI hp] at this
 ·have:=h.fal hk p (by rw [List.length_append]; omega)
  rwa [zI hp,zI (by omega)] at this
theorem Lg.trim {k:Kd} {n:Int}:∀ {r:List Int},Lg k n r→Legal k n (trim r):=by
 intro r
 generalize hl:r.length=m
 induction m generalizing r with
 | zero=>
  intro h
  obtain rfl:r=[]:=List.length_eq_zero_iff.mp hl
  exact ⟨h.fig,h.fal,.inl rfl⟩
 | succ m ih=>
  intro h
  rcases zJ r with rfl | ⟨l,z,rfl⟩
  ·cases hl
  ·by_cases hz:z=0
   ·subst hz
    rw [wO]
    exact ih (by rw [List.length_append] at hl; exact Nat.succ.inj hl) h.pop
   ·rw [si hz]
    exact ⟨h.fig,h.fal,.inr (by rw [List.length_append]; exact fun e=>hz (by rw [← e]; exact getD_snoc_eq.symm))⟩
theorem Lg.push {k:Kd} {n z:Int} {r:List Int} (h:Lg k n r) (hz:k.low n r.length ≤ z∧z ≤ k.high n r.length) (hf:k.isF=true→z=n→r=[]∨r.getD (r.length - 1) 0=0):Lg k n (r ++ [z]):=by
 refine ⟨fun p hp=>?_,fun hk p hp e=>?_⟩
 ·rw [List.length_append] at hp
  rcases (by simp at hp; omega:p < r.length∨p=r.length) with q | q
  ·rw [zI q]; exact h.fig p q
  ·subst q; rw [getD_snoc_eq]; exact hz
 ·rw [List.length_append] at hp
  rcases (by simp at hp; omega:p + 1 < r.length∨p + 1=r.length) with q | q
  ·rw [zI q] at e
   rw [zI (by omega)]
   exact h.fal hk p q e
  ·rw [q,getD_snoc_eq] at e
   rw [zI (by omega)]
   rcases hf hk e with z | z
   ·rw [z] at q; cases q
   ·rw [show r.length - 1=p by omega] at z; exact z
theorem yr {r:List Int} {i j:Nat} {z:Int} (h:i ≠ j):(r.set i z).getD j 0=r.getD j 0:=by
 rw [List.getD_eq_getElem?_getD,List.getD_eq_getElem?_getD,List.getElem?_set_ne h]
theorem yt {r:List Int} {i:Nat} {z:Int} (h:i < r.length):(r.set i z).getD i 0=z:=by
 rw [List.getD_eq_getElem?_getD,List.getElem?_set_self h]
 rfl
theorem Lg.zero {k:Kd} {n:Int} {r:List Int} (hn:k.ok n) (h:Lg k n r):Lg k n (r.set (r.length - 1) 0):=by
 refine ⟨fun p hp=>?_,fun hk p hp e=>?_⟩
 ·rw [List.length_set] at hp
  by_cases q:r.length - 1=p
  ·subst q; rw [yt hp]; exact oQ hn _
  ·rw [yr q]; exact h.fig p hp
 ·rw [List.length_set] at hp
  have n1:n ≠ 0:=by have:=hn.1; cases k <;> simp only [Kd.lo] at this <;> omega
  by_cases q:r.length - 1=p + 1
  ·rw [← q,yt (by omega)] at e; exact absurd e.symm n1
  ·rw [yr q] at e
   rw [yr (by omega)]
   exact h.fal hk p hp e
theorem xO (k:Kd) (n:Int) (ns:List Int):∀ j,yS k n ns j=wF k n (fun i=>ns.getD i 0) j
 | 0=>rfl
 | j + 1=>by unfold yS wF; rw [xO k n ns j]
theorem vK {k:Kd} {n:Int} {f g:Nat→Int}:∀ j,(∀ i,i < j→f i=g i)→wF k n f j=wF k n g j
 | 0,_=>rfl
 | j + 1,h=>by
  unfold wF
  rw [vK j fun i hi=>h i (by omega),h j (by omega)]
theorem o_ (k:Kd) (n:Int) (j:Nat):(wt k n j).ty k:=by
 by_cases hk:k=.pairs
 ·subst hk; exact wt2 j
 ·obtain ⟨w,e⟩:=wtI (n:=n) hk j
  rw [e]
  exact vL hk
theorem uW {k:Kd} {t w:Nm} (ht:tot k t) (hw:w.ty k):(t.mul w).ty k:=by
 by_cases hk:k=.pairs
 ·subst hk
  obtain ⟨a,b,rfl⟩:=hw
  cases t <;> exact ⟨_,_,rfl⟩
 ·obtain ⟨a,rfl⟩:=ht hk
  obtain ⟨b,rfl⟩:=wd hk hw
  exact vL hk
theorem ye {k:Kd} {m:Nm} (h:m.ty k):tot k m:=fun hk=>wd hk h
theorem Zo (k:Kd) (a:Int):tot k (.i a):=fun _=>⟨a,rfl⟩
theorem gX (k:Kd) (n:Int) (f:Nat→Int):∀ j,(wF k n f j).ty k
 | 0=>yR k
 | j + 1=>vG (gX k n f j) (ye (uW (Zo k _) (o_ k n j)))
theorem gU {k:Kd} {n:Int} {ts:List Nm} (ht:∀ t ∈ ts,tot k t):∀ j,(wN k n ts j).ty k
 | 0=>yR k
 | j + 1=>vG (gU ht j) (ye (uW (wk ht j) (o_ k n j)))
theorem mV {k:Kd} {m w:Nm} (hm:m.ty k) (hw:w.ty k):m.add ((Nm.i 0).mul w)=m:=by
 refine rp (vG hm (ye (uW (Zo k 0) hw))) hm ?_ ?_
 ·rw [yB,zM]; show m.re + (0 * w.re - 0 * w.im)=_; rw [Int.zero_mul,Int.zero_mul]; omega
 ·rw [yO,zR]; show m.im + (0 * w.im + 0 * w.re)=_; rw [Int.zero_mul,Int.zero_mul]; omega
theorem gW {k:Kd} {n:Int} {ts:List Nm} (ht:∀ t ∈ ts,tot k t):∀ i,wN k n ts (ts.length + i)=wN k n ts ts.length
 | 0=>rfl
 | i + 1=>by
  have e:ts.getD (ts.length + i) (.i 0)=.i 0:=by rw [List.getD_eq_getElem?_getD,List.getElem?_eq_none (by omega)]; rfl
  show (wN k n ts (ts.length + i)).add ((ts.getD (ts.length + i) (.i 0)).mul (wt k n (ts.length + i)))=_
  rw [e,mV (gU ht _) (o_ k n _)]
  exact gW ht i
def pV (k:Kd) (n:Int) (ts:List Nm):Nm:=wN k n ts ts.length
def zp (k:Kd) (n:Int) (r:List Int):Nm:=yS k n r r.length
theorem Fin.worth {k:Kd} {n:Int} {ts:List Nm} {J:Nat} (F:Fin k n ts J) (h5:k.five=true) (hn:k.ok n) (ht:∀ t ∈ ts,tot k t):zp k n (wD k n ts J)=pV k n ts:=by
 unfold zp pV
 rw [ui,xO,vK (g:=fAt k n ts) J (fun i hi=>mJ hi)]
 have e:wN k n ts J=wN k n ts ts.length:=by
  rw [show J=ts.length + (J - ts.length) by have:=F.le; omega]
  exact gW ht _
 obtain ⟨t1,t2⟩:=WA h5 hn ht J
 rw [F.z,zM,yc,yu] at t1
 rw [F.z,zR,yc,yu] at t2
 rw [← e]
 refine rp (gX k n _ J) (gU ht J) ?_ ?_
 ·rw [t1,Int.mul_zero,Int.mul_zero]; omega
 ·rw [t2,Int.mul_zero,Int.mul_zero]; omega
theorem pU {k:Kd} {n:Int} {l:List Int} {z:Int} {j:Nat} (h:j ≤ l.length):yS k n (l ++ [z]) j=yS k n l j:=by
 rw [xO,xO]
 exact vK j fun i hi=>zI (by omega)
theorem wj (k:Kd) (n:Int) (l:List Int) (z:Int):zp k n (l ++ [z])=(zp k n l).add ((Nm.i z).mul (wt k n l.length)):=by
 unfold zp
 rw [List.length_append]
 show (yS k n (l ++ [z]) l.length).add ((Nm.i ((l ++ [z]).getD l.length 0)).mul (wt k n l.length))=_
 rw [pU (Nat.le_refl _),getD_snoc_eq]
theorem y2 (k:Kd) (n:Int) (r:List Int):(zp k n r).ty k:=by
 unfold zp
 rw [xO]
 exact gX k n _ _
theorem tw (k:Kd) (n:Int) (r:List Int):zp k n (trim r)=zp k n r:=by
 generalize hl:r.length=m
 induction m generalizing r with
 | zero=>
  obtain rfl:r=[]:=List.length_eq_zero_iff.mp hl
  rfl
 | succ m ih=>
  rcases zJ r with rfl | ⟨l,z,rfl⟩
  ·cases hl
  ·by_cases hz:z=0
   ·subst hz
    rw [wO,ih l (by rw [List.length_append] at hl; exact Nat.succ.inj hl),wj,mV (y2 k n l) (o_ k n _)]
   ·rw [si hz]
theorem rG {k:Kd} (h5:k.five=true):k.isF=false:=by cases k <;> first | rfl | cases h5
theorem aH {k:Kd} {n:Int} {ts:List Nm} (h5:k.five=true) (hn:k.ok n) (ht:∀ t ∈ ts,tot k t) (J:Nat):Lg k n (wD k n ts J):=by
 refine ⟨fun p hp=>?_,fun hF=>?_⟩
 ·rw [ui] at hp
  rw [mJ hp]
  obtain ⟨a,b,_⟩:=sL (j:=p) h5 hn (vG (wH k n ts p) (wk ht p))
  exact ⟨a,b⟩
 ·rw [rG h5] at hF
  cases hF
def rY (k:Kd) (n:Int) (ts:List Nm) (J:Nat):List Int:=trim (wD k n ts J)
theorem lp {k:Kd} {n:Int} {ts:List Nm} {J:Nat} (h5:k.five=true) (hn:k.ok n) (ht:∀ t ∈ ts,tot k t):Legal k n (rY k n ts J):=(aH h5 hn ht J).trim
theorem ln {k:Kd} {n:Int} {ts:List Nm} {J:Nat} (F:Fin k n ts J) (h5:k.five=true) (hn:k.ok n) (ht:∀ t ∈ ts,tot k t):zp k n (rY k n ts J)=pV k n ts:=by
 unfold rY
 rw [tw,F.worth h5 hn ht]
theorem la {k:Kd} {n:Int} {m:Nm} (hm:m.ty k) (h5:k.five=true):pV k n [m]=m:=by
 show (k.zero.add (m.mul (wt k n 0)))=m
 have e:wt k n 0=k.zero.add (.i 1):=by cases k <;> first | rfl | cases h5
 have r1:(wt k n 0).re=1:=by rw [e,yB,yc]; rfl
 have r2:(wt k n 0).im=0:=by rw [e,yO,yu]; rfl
 refine rp (vG (yR k) (ye (uW (ye hm) (o_ k n 0)))) hm ?_ ?_
 ·rw [yB,zM,yc,r1,r2,Int.mul_one,Int.mul_zero]; omega
 ·rw [yO,zR,yu,r1,r2,Int.mul_one,Int.mul_zero]; omega
theorem wA {k:Kd} {m:Nm} (h:yh k m=true):m.ty k:=by
 cases k <;> cases m <;> first | exact ⟨_,rfl⟩ | exact ⟨_,_,rfl⟩ | cases h
theorem fc {k:Kd} {n:Int} {m:Nm} {b:Nat} (h5:k.five=true) (hn:k.ok n) (hm:yh k m=true) (hb:m.re.natAbs ≤ 2 ^ b∧m.im.natAbs ≤ 2 ^ b) (b7:7 ≤ b):∃ J,Fin k n [m] J∧J ≤ 4 * b + 31:=by
 have ht:∀ t ∈ [m],tot k t:=fun t h=>by rw [List.mem_singleton.mp h]; exact ye (wA hm)
 have e1:cAt k n [m] 1=sC k n 0 m:=by
  show sC k n 0 (k.zero.add m)=_
  rw [Wx (wA hm)]
 obtain ⟨J,F,hJ⟩:=cU (b:=b) h5 hn ht (fun t h=>by rw [List.mem_singleton.mp h]; exact hb) b7 (by
  show yh k (cAt k n [m] 1)=true
  rw [e1]
  by_cases hk:k=.pairs
  ·subst hk
   obtain ⟨x,y,e⟩:=fj .pairs n 0 m
   rw [e]; rfl
  ·have h4:=ss h5 hk
   obtain ⟨t,rfl⟩:=wd hk (wA hm)
   obtain ⟨a,ea⟩:=sC4 (n:=n) (j:=0) (t:=.i t) h4
   rw [ea]
   exact (pe h4 hn ea).2.1 hm)
 exact ⟨J,F,by simp at hJ; omega⟩
def vI (k:Kd):DSp:=fun ds Q=>∃ o d m,ds=[o,d]∧rm d=some m∧Q (.bl (yh k m))
def isP:Nm→Bool
 | .p _ _=>true
 | _=>false
def tq:DSp:=fun ds Q=>∃ d m,ds=[d]∧rm d=some m∧Q (.bl (isP m))
def jp:DSp:=fun ds Q=>∃ r,ds=[zH r]∧Q (zH (trim r))
def rW:DSp:=fun ds Q=>∃ xs p,ds=[.lst xs,.int p]∧0 ≤ p∧Q (xs.getD p.toNat (.int 0))
def cQ (ts:List Nm):Dt:=.lst (ts.map Nm.dt)
def mT (k:Kd) (n:Int) (ts:List Nm) (j:Nat):List Dt:=(crs k n ts j).map Nm.dt
theorem aE (ts:List Nm) (j:Nat):(ts.map Nm.dt).getD j (.int 0)=(ts.getD j (.i 0)).dt:=by
 rw [List.getD_eq_getElem?_getD,List.getD_eq_getElem?_getD,List.getElem?_map]
 cases ts[j]? <;> rfl
theorem X5 {k:Kd} {m m':Nm} (h:m.ty k) (h':m'.ty k):eqD m.dt m'.dt=true ↔ m=m':=by
 by_cases hk:k=.pairs
 ·subst hk
  obtain ⟨a,b,rfl⟩:=h
  obtain ⟨c,d,rfl⟩:=h'
  show eqD (.tup [.int a,.int b]) (.tup [.int c,.int d])=true ↔ _
  rw [uk,xJ,xJ,uj,yX,yX,Bool.and_eq_true,Bool.and_eq_true,beq_iff_eq,beq_iff_eq]
  constructor
  ·rintro ⟨rfl,rfl,_⟩; rfl
  ·intro e; cases e; exact ⟨rfl,rfl,rfl⟩
 ·obtain ⟨a,rfl⟩:=wd hk h
  obtain ⟨c,rfl⟩:=wd hk h'
  show eqD (.int a) (.int c)=true ↔ _
  rw [yX,beq_iff_eq]
  constructor
  ·rintro rfl; rfl
  ·intro e; cases e; rfl
def wf (n:Int) (j:Nat):Int:=(wtF n j).2
theorem pW (n:Int):wf n 0=1:=rfl
theorem gR (n:Int):wf n 1=n + 1:=by show n * 1 + 1=_; rw [Int.mul_one]
theorem lh (n:Int) (j:Nat):wf n (j + 2)=n * wf n (j + 1) + wf n j:=rfl
theorem z8 {n:Int} (h:1 ≤ n):∀ j,1 ≤ wf n j∧wf n j ≤ wf n (j + 1)
 | 0=>by rw [pW,gR]; omega
 | j + 1=>by
  obtain ⟨a,b⟩:=z8 h j
  have:wf n (j + 1) ≤ n * wf n (j + 1):=by
   have:=Int.mul_le_mul_of_nonneg_right h (show 0 ≤ wf n (j + 1) by omega)
   omega
  rw [lh]
  omega
theorem q9 {n:Int} (h:1 ≤ n):∀ b:Nat,((2 ^ b:Nat):Int) ≤ wf n (2 * b)
 | 0=>by rw [show 2 * 0=0 from rfl,pW]; decide
 | b + 1=>by
  have ih:=q9 h b
  obtain ⟨a1,b1⟩:=z8 h (2 * b)
  have:wf n (2 * b + 1) ≤ n * wf n (2 * b + 1):=by
   have:=Int.mul_le_mul_of_nonneg_right h (show 0 ≤ wf n (2 * b + 1) by omega)
   omega
  have e:wf n (2 * (b + 1))=n * wf n (2 * b + 1) + wf n (2 * b):=lh n (2 * b)
  have hp:((2 ^ (b + 1):Nat):Int)=2 * ((2 ^ b:Nat):Int):=by rw [Nat.pow_succ]; omega
  omega
theorem gQ {n:Int} (h:1 ≤ n) (h9:n ≤ 9):∀ j,wf n j ≤ ((2 ^ (4 * j):Nat):Int)
 | 0=>by rw [pW]; decide
 | j + 1=>by
  have ih:=gQ h h9 j
  have p:=z8 h j
  have hp:((2 ^ (4 * (j + 1)):Nat):Int)=16 * ((2 ^ (4 * j):Nat):Int):=by rw [show 4 * (j + 1)=4 * j + 4 by omega,Nat.pow_add]; omega
  have k:n * wf n j ≤ 9 * wf n j:=Int.mul_le_mul_of_nonneg_right h9 (by omega)
  have e:wf n (j + 1) ≤ n * wf n j + wf n j:=by
   cases j with
   | zero=>rw [gR,pW]; omega
   | succ q=>rw [lh]; have:=(z8 h q).2; omega
  omega
theorem iz (g:Nat→Int) (L:Nat):((List.range L).map fun q=>g (L - 1 - q)).reverse=(List.range L).map g:=by
 apply List.ext_getElem?
 intro i
 by_cases hi:i < L
 ·rw [List.getElem?_reverse (by rw [List.length_map,List.length_range]; exact hi),List.length_map,List.length_range,List.getElem?_map,List.getElem?_range (by omega),List.getElem?_map,List.getElem?_range hi]
  show some (g (L - 1 - (L - 1 - i)))=some (g i)
  rw [show L - 1 - (L - 1 - i)=i by omega]
 ·rw [List.getElem?_eq_none (by rw [List.length_reverse,List.length_map,List.length_range]; omega),List.getElem?_eq_none (by rw [List.length_map,List.length_range]; omega)]
def rs (n m:Int) (L:Nat):Nat→Int
 | 0=>m
 | i + 1=>(rs n m L i).fmod (wf n (L - 1 - i))
def gs (n m:Int) (L:Nat) (p:Nat):Int:=(rs n m L (L - 1 - p)).fdiv (wf n p)
theorem gF (a b:Int):a=b * a.fdiv b + a.fmod b:=by have:=Int.fmod_def a b; omega
theorem jw {n m:Int} {L:Nat} (h:1 ≤ n) (h0:0 ≤ m) (hL:m < wf n L):∀ i,i ≤ L→0 ≤ rs n m L i∧rs n m L i < wf n (L - i)
 | 0,_=>⟨h0,hL⟩
 | i + 1,hi=>by
  have p:=(z8 h (L - 1 - i)).1
  have e:L - (i + 1)=L - 1 - i:=by omega
  rw [e]
  exact ⟨Int.fmod_nonneg_of_pos _ (by omega),Int.fmod_lt_of_pos _ (by omega)⟩
theorem dD {n m:Int} {L p:Nat} (hp:p < L):rs n m L (L - (p + 1))=wf n p * gs n m L p + rs n m L (L - p):=by
 have e1:L - (p + 1)=L - 1 - p:=by omega
 have e2:L - p=(L - 1 - p) + 1:=by omega
 have e3:L - 1 - (L - 1 - p)=p:=by omega
 rw [e1,e2]
 show _=wf n p * (rs n m L (L - 1 - p)).fdiv (wf n p) + (rs n m L (L - 1 - p)).fmod (wf n (L - 1 - (L - 1 - p)))
 rw [e3]
 exact gF _ _
theorem ja {n m:Int} {L p:Nat} (h:1 ≤ n) (h0:0 ≤ m) (hL:m < wf n L) (hp:p < L):0 ≤ gs n m L p∧gs n m L p ≤ n∧(gs n m L p=n→1 ≤ p→rs n m L (L - p) < wf n (p - 1))∧(gs n m L p=n→p=0→True):=by
 have e:=dD (n:=n) (m:=m) hp
 obtain ⟨a1,a2⟩:=jw h h0 hL (L - (p + 1)) (by omega)
 obtain ⟨b1,b2⟩:=jw h h0 hL (L - p) (by omega)
 rw [show L - (L - (p + 1))=p + 1 by omega] at a2
 rw [show L - (L - p)=p by omega] at b2
 have wp:=(z8 h p).1
 generalize gs n m L p=g at *
 have g0:0 ≤ g:=by
  rcases Int.lt_or_le g 0 with z | z
  ·have:=Int.mul_le_mul_of_nonneg_left (show g ≤ -1 by omega) (show 0 ≤ wf n p by omega)
   omega
  ·exact z
 have gn:g ≤ n:=by
  rcases Int.lt_or_le n g with z | z
  ·have k:=Int.mul_le_mul_of_nonneg_left (show n + 1 ≤ g by omega) (show 0 ≤ wf n p by omega)
   have k2:wf n p * (n + 1)=n * wf n p + wf n p:=by rw [Int.mul_add,Int.mul_one,Int.mul_comm]
   have k3:wf n (p + 1) ≤ n * wf n p + wf n p:=by
    cases p with
    | zero=>rw [gR,pW]; omega
    | succ q=>rw [lh]; have:=(z8 h q).2; omega
   omega
  ·exact z
 refine ⟨g0,gn,fun eg h1=>?_,fun _ _=>trivial⟩
 subst eg
 obtain ⟨q,rfl⟩:∃ q,p=q + 1:=⟨p - 1,by omega⟩
 rw [lh,Int.mul_comm] at a2
 show _ < wf g q
 omega
theorem mH {n m:Int} {L:Nat} (h:1 ≤ n) (h0:0 ≤ m) (hL:m < wf n L):∀ j,j ≤ L→wF .falling n (gs n m L) j=.i (rs n m L (L - j))
 | 0,_=>by
  show Nm.i 0=_
  have:rs n m L L=0:=by
   obtain ⟨a,b⟩:=jw h h0 hL L (Nat.le_refl _)
   rw [show L - L=0 by omega,pW] at b
   omega
  rw [show L - 0=L by omega,this]
 | j + 1,hj=>by
  unfold wF
  rw [mH h h0 hL j (by omega),dD (by omega:j < L)]
  show Nm.i (_ + gs n m L j * wf n j)=_
  rw [Int.mul_comm,Int.add_comm]
def pH (n m:Int):List Int:=(List.range (2 * Builtin.Int.intBits m)).map (gs n m (2 * Builtin.Int.intBits m))
def rH (n m:Int):List Int:=trim (pH n m)
theorem Za (m:Int):m.natAbs < 2 ^ Builtin.Int.intBits m:=(intBits_le_iff).mp (Nat.le_refl _)
theorem jJ {n m:Int} (h:1 ≤ n) (h0:0 ≤ m):m < wf n (2 * Builtin.Int.intBits m):=by
 have a:=q9 h (Builtin.Int.intBits m)
 have b:=Za m
 omega
theorem ue {f:Nat→Int} {L p:Nat} (h:p < L):((List.range L).map f).getD p 0=f p:=by
 rw [List.getD_eq_getElem?_getD,List.getElem?_map,List.getElem?_range h]
 rfl
theorem dN {n m:Int} (hn:Kd.falling.ok n) (h0:0 ≤ m):Lg .falling n (pH n m):=by
 have h1:1 ≤ n:=hn.1
 have hL:=jJ h1 h0
 unfold pH
 generalize 2 * Builtin.Int.intBits m=L at *
 refine ⟨fun p hp=>?_,fun _ p hp e=>?_⟩
 ·rw [List.length_map,List.length_range] at hp
  rw [ue hp]
  obtain ⟨a,b,_⟩:=ja h1 h0 hL hp
  exact ⟨a,b⟩
 ·rw [List.length_map,List.length_range] at hp
  rw [ue hp] at e
  rw [ue (by omega)]
  have c:=(ja h1 h0 hL hp).2.2.1 e (by omega)
  have e2:=dD (n:=n) (m:=m) (show p < L by omega)
  obtain ⟨a,_⟩:=ja h1 h0 hL (show p < L by omega)
  obtain ⟨b1,b2⟩:=jw h1 h0 hL (L - p) (by omega)
  have wp:=(z8 h1 p).1
  have c:rs n m L (L - (p + 1)) < wf n p:=c
  rcases Int.lt_or_le 0 (gs n m L p) with z | z
  ·have:=Int.mul_le_mul_of_nonneg_left (show 1 ≤ gs n m L p by omega) (show 0 ≤ wf n p by omega)
   omega
  ·omega
theorem mL {n m:Int} (hn:Kd.falling.ok n) (h0:0 ≤ m):Legal .falling n (rH n m):=(dN hn h0).trim
theorem mK {n m:Int} (hn:Kd.falling.ok n) (h0:0 ≤ m):zp .falling n (rH n m)=.i m:=by
 have h1:1 ≤ n:=hn.1
 have hL:=jJ h1 h0
 unfold rH
 rw [tw]
 unfold zp pH
 rw [List.length_map,List.length_range]
 generalize 2 * Builtin.Int.intBits m=L at *
 rw [xO,vK (g:=gs n m L) L (fun i hi=>ue hi),mH h1 h0 hL L (Nat.le_refl _),show L - L=0 by omega]
 rfl
theorem gG (n m:Int):(rH n m).length ≤ 2 * Builtin.Int.intBits m:=by
 refine Nat.le_trans (sJ _) ?_
 unfold pH
 rw [List.length_map,List.length_range]
 exact Nat.le_refl _
def Wr (k:Kd) (n:Int) (m:Nm) (r:List Int):Prop:=match k with
 | .falling=>r=rH n m.re∧Builtin.Int.intBits m.re ≤ 500
 | k=>∃ J,J ≤ 50000∧Fin k n [m] J∧r=rY k n [m] J
theorem oi {k:Kd} {m:Nm} (hm:yh k m=true):∀ t ∈ [m],tot k t:=fun t h=>by rw [List.mem_singleton.mp h]; exact ye (wA hm)
theorem Zl {k:Kd} {n:Int} {m:Nm} {b:Nat} (hn:k.ok n) (hm:yh k m=true) (hb:m.re.natAbs ≤ 2 ^ b∧m.im.natAbs ≤ 2 ^ b) (b7:7 ≤ b) (b4:b ≤ 400):∃ r,Wr k n m r∧r.length ≤ 4 * b + 31:=by
 by_cases hk:k=.falling
 ·subst hk
  have hbit:Builtin.Int.intBits m.re ≤ b + 1:=intBits_le_iff.mpr (by rw [Nat.pow_succ]; have:=Nat.two_pow_pos b; omega)
  exact ⟨_,⟨rfl,by omega⟩,by have:=gG n m.re; omega⟩
 ·have h5:k.five=true:=by cases k <;> first | rfl | exact absurd rfl hk
  obtain ⟨J,F,hJ⟩:=fc h5 hn hm hb b7
  refine ⟨rY k n [m] J,?_,?_⟩
  ·cases k <;> first | exact ⟨J,by omega,F,rfl⟩ | exact absurd rfl hk
  ·unfold rY
   have:=sJ (wD k n [m] J)
   rw [ui] at this
   omega
theorem nc {k:Kd} {n:Int} {m:Nm} {r:List Int} (hn:k.ok n) (hm:yh k m=true) (h:Wr k n m r):Legal k n r:=by
 by_cases hk:k=.falling
 ·subst hk
  obtain ⟨a,rfl⟩:∃ a,m=.i a:=wA hm
  obtain ⟨rfl,_⟩:=h
  exact mL hn (of_decide_eq_true hm)
 ·have h5:k.five=true:=by cases k <;> first | rfl | exact absurd rfl hk
  obtain ⟨J,_,F,rfl⟩:∃ J,J ≤ 50000∧Fin k n [m] J∧r=rY k n [m] J:=by cases k <;> first | exact h | exact absurd rfl hk
  exact lp h5 hn (oi hm)
theorem gP {k:Kd} {n:Int} {m:Nm} {r:List Int} (hn:k.ok n) (hm:yh k m=true) (h:Wr k n m r):zp k n r=m:=by
 by_cases hk:k=.falling
 ·subst hk
  obtain ⟨a,rfl⟩:∃ a,m=.i a:=wA hm
  obtain ⟨rfl,_⟩:=h
  exact mK hn (of_decide_eq_true hm)
 ·have h5:k.five=true:=by cases k <;> first | rfl | exact absurd rfl hk
  obtain ⟨J,_,F,rfl⟩:∃ J,J ≤ 50000∧Fin k n [m] J∧r=rY k n [m] J:=by cases k <;> first | exact h | exact absurd rfl hk
  rw [ln F h5 hn (oi hm),la (wA hm) h5]
def Vt (k:Kd) (n:Int):Nat→List Int→Nm
 | _,[]=>k.zero
 | j,f :: r=>(Nm.i f).add ((k.ratN n j).mul (Vt k n (j + 1) r))
theorem fq {k:Kd} {n:Int} {j:Nat} (h5:k.five=true):(k.ratN n j).ty k:=by
 cases k <;> first | exact ⟨_,rfl⟩ | exact ⟨_,_,rfl⟩ | cases h5
theorem mF {k:Kd} {f:Int} {m:Nm} (h:m.ty k):((Nm.i f).add m).ty k:=by
 by_cases hk:k=.pairs
 ·subst hk
  obtain ⟨a,b,rfl⟩:=h
  exact ⟨_,_,rfl⟩
 ·obtain ⟨a,rfl⟩:=wd hk h
  exact vL hk
theorem mX {k:Kd} {n:Int} (h5:k.five=true):∀ (r:List Int) (j:Nat),(Vt k n j r).ty k
 | [],_=>yR k
 | _ :: r,j=>mF (uW (ye (fq h5)) (mX h5 r (j + 1)))
theorem cP {P1 P2 w1 w2 f r1 r2 v1 v2:Int}:P1 + (f * w1 - 0 * w2) + ((r1 * w1 - r2 * w2) * v1 - (r1 * w2 + r2 * w1) * v2)=P1 + (w1 * (f + (r1 * v1 - r2 * v2)) - w2 * (0 + (r1 * v2 + r2 * v1)))∧P2 + (f * w2 + 0 * w1) + ((r1 * w1 - r2 * w2) * v2 + (r1 * w2 + r2 * w1) * v1)=P2 + (w1 * (0 + (r1 * v2 + r2 * v1)) + w2 * (f + (r1 * v1 - r2 * v2))):=by
 constructor <;> grind
theorem nh {k:Kd} {n:Int} (h5:k.five=true):∀ (r pre:List Int),
  (zp k n (pre ++ r)).re=(zp k n pre).re + ((wt k n pre.length).mul (Vt k n pre.length r)).re∧(zp k n (pre ++ r)).im=(zp k n pre).im + ((wt k n pre.length).mul (Vt k n pre.length r)).im
 | [],pre=>by
  rw [List.append_nil]
  unfold Vt
  rw [zM,zR,yc,yu,Int.mul_zero,Int.mul_zero]
  exact ⟨by omega,by omega⟩
 | f :: r,pre=>by
  obtain ⟨i1,i2⟩:=nh h5 r (pre ++ [f])
  have e:pre ++ f :: r=(pre ++ [f]) ++ r:=by rw [List.append_assoc]; rfl
  have el:(pre ++ [f]).length=pre.length + 1:=by rw [List.length_append]; rfl
  have ev:Vt k n pre.length (f :: r)=(Nm.i f).add ((k.ratN n pre.length).mul (Vt k n (pre.length + 1) r)):=rfl
  rw [e,i1,i2,el,wj,yd h5,ev]
  simp only [zM,zR,yB,yO]
  have fr:(Nm.i f).re=f:=rfl
  have fi:(Nm.i f).im=0:=rfl
  rw [fr,fi]
  exact cP
theorem ni {k:Kd} {n:Int} (h5:k.five=true) (r:List Int):zp k n r=Vt k n 0 r:=by
 obtain ⟨a,b⟩:=nh (n:=n) h5 r []
 have e:wt k n 0=k.zero.add (.i 1):=by cases k <;> first | rfl | cases h5
 have r1:(wt k n 0).re=1:=by rw [e,yB,yc]; rfl
 have r2:(wt k n 0).im=0:=by rw [e,yO,yu]; rfl
 have z1:(zp k n []).re=0:=yc k
 have z2:(zp k n []).im=0:=yu k
 simp only [List.length_nil,List.nil_append] at a b
 rw [zM,r1,r2,z1] at a
 rw [zR,r1,r2,z2] at b
 refine rp (y2 k n r) (mX h5 r 0) ?_ ?_
 ·rw [a]; omega
 ·rw [b]; omega
theorem pf {lo n r t f c:Int} (hr:r=n∨r=-n) (h1:lo ≤ f) (h2:f ≤ lo + n - 1) (h3:lo ≤ t) (h4:t ≤ lo + n - 1) (e:f + c * r=t):c=0∧f=t:=by
 have hc:c=0:=by
  rcases (by omega:c=0∨1 ≤ c∨c ≤ -1) with h | h | h
  ·exact h
  ·rcases hr with rfl | rfl
   ·have:=Int.mul_le_mul_of_nonneg_right h (show 0 ≤ r by omega)
    omega
   ·have:=Int.mul_le_mul_of_nonneg_right h (show 0 ≤ n by omega)
    rw [Int.mul_neg] at e
    omega
  ·rcases hr with rfl | rfl
   ·have:=Int.mul_le_mul_of_nonneg_right h (show 0 ≤ r by omega)
    omega
   ·have:=Int.mul_le_mul_of_nonneg_right h (show 0 ≤ n by omega)
    rw [Int.mul_neg] at e
    omega
 subst hc
 omega
theorem pj {k:Kd} {n f g:Int} {j:Nat} {c d:Nm} (h5:k.five=true) (hn:k.ok n) (f1:k.low n j ≤ f) (f2:f ≤ k.high n j) (g1:k.low n j ≤ g) (g2:g ≤ k.high n j) (tc:c.ty k) (td:d.ty k)
  (e:(Nm.i f).add ((k.ratN n j).mul c)=(Nm.i g).add ((k.ratN n j).mul d)):f=g∧c=d:=by
 have e1:=congrArg Nm.re e
 have e2:=congrArg Nm.im e
 rw [yB,yB,zM,zM] at e1
 rw [yO,yO,zR,zR] at e2
 by_cases hk:k=.pairs
 ·subst hk
  obtain ⟨a,b,rfl⟩:=tc
  obtain ⟨x,y,rfl⟩:=td
  simp only [Kd.ratN,Nm.re,Nm.im,Kd.low,Kd.high] at *
  have q1:f - n * (a - x) - (b - y)=g:=by rw [Int.mul_sub]; simp only [Int.neg_mul,Int.one_mul] at e1; omega
  have q2:(a - x) - n * (b - y)=0:=by rw [Int.mul_sub]; simp only [Int.neg_mul,Int.one_mul] at e2; omega
  generalize hu:a - x=u at *
  generalize hv:b - y=v at *
  have eu:u=n * v:=by omega
  rw [eu] at q1
  have e3:f + (-v) * (n * n + 1)=g:=by
   have r1:n * (n * v)=v * (n * n):=by grind
   have r2:(-v) * (n * n + 1)=-(v * (n * n)) - v:=by grind
   omega
  obtain ⟨h1,h2⟩:=pf (lo:=0) (n:=n * n + 1) (.inl rfl) f1 (by omega) g1 (by omega) e3
  have v0:v=0:=by omega
  rw [v0,Int.mul_zero] at eu
  exact ⟨h2,by rw [show a=x by omega,show b=y by omega]⟩
 ·have h4:=ss h5 hk
  obtain ⟨a,rfl⟩:=wd hk tc
  obtain ⟨x,rfl⟩:=wd hk td
  have eR:k.ratN n j=.i (k.rat n j):=by cases k <;> first | rfl | exact absurd rfl hk
  rw [eR] at e1
  obtain ⟨z1,z2⟩:=pY h4 n j
  have q:f + (a - x) * k.rat n j=g:=by
   have e1':f + (k.rat n j * a - 0 * 0)=g + (k.rat n j * x - 0 * 0):=e1
   rw [Int.sub_mul,Int.mul_comm a,Int.mul_comm x]
   omega
  obtain ⟨h1,h2⟩:=pf (lo:=k.low n j) (n:=k.size n j) z2 f1 (by omega) g1 (by omega) q
  exact ⟨h2,by rw [show a=x by omega]⟩
def Figs (k:Kd) (n:Int) (j:Nat) (r:List Int):Prop:=∀ p,p < r.length→k.low n ((j + p:Nat):Int) ≤ r.getD p 0∧r.getD p 0 ≤ k.high n ((j + p:Nat):Int)
theorem Figs.cons {k:Kd} {n f:Int} {j:Nat} {r:List Int} (h:Figs k n j (f :: r)):(k.low n j ≤ f∧f ≤ k.high n j)∧Figs k n (j + 1) r:=by
 refine ⟨h 0 (by simp),fun p hp=>?_⟩
 have:=h (p + 1) (by simp; exact hp)
 rw [show j + (p + 1)=j + 1 + p by omega] at this
 exact this
theorem Wq {k:Kd} {n:Int} (h5:k.five=true) (hn:k.ok n):∀ (r s:List Int) (j:Nat),Figs k n j r→Figs k n j s→Vt k n j r=Vt k n j s→∀ p,r.getD p 0=s.getD p 0:=by
 have zz:∀ j:Nat,k.zero=(Nm.i 0).add ((k.ratN n j).mul k.zero):=fun j=>by
  refine rp (yR k) (mF (uW (ye (fq h5)) (yR k))) ?_ ?_
  ·rw [yB,zM,yc,yu,Int.mul_zero,Int.mul_zero]; rfl
  ·rw [yO,zR,yc,yu,Int.mul_zero,Int.mul_zero]; rfl
 have nilc:∀ (s:List Int) (j:Nat),Figs k n j s→k.zero=Vt k n j s→∀ p,(0:Int)=s.getD p 0:=by
  intro s
  induction s with
  | nil=>intro j _ _ p; rfl
  | cons g s ih=>
   intro j hs e p
   obtain ⟨⟨g1,g2⟩,hs'⟩:=hs.cons
   obtain ⟨l1,l2⟩:=oQ hn j
   rw [zz j] at e
   obtain ⟨q1,q2⟩:=pj h5 hn l1 l2 g1 g2 (yR k) (mX h5 s (j + 1)) e
   cases p with
   | zero=>exact q1
   | succ p=>exact ih (j + 1) hs' q2 p
 intro r
 induction r with
 | nil=>intro s j _ hs e p; exact nilc s j hs e p
 | cons f r ih=>
  intro s j hr hs e p
  cases s with
  | nil=>exact (nilc (f :: r) j hr e.symm p).symm
  | cons g s=>
   obtain ⟨⟨f1,f2⟩,hr'⟩:=hr.cons
   obtain ⟨⟨g1,g2⟩,hs'⟩:=hs.cons
   obtain ⟨q1,q2⟩:=pj h5 hn f1 f2 g1 g2 (mX h5 r (j + 1)) (mX h5 s (j + 1)) e
   cases p with
   | zero=>exact q1
   | succ p=>exact ih s (j + 1) hr' hs' q2 p
theorem mI {r:List Int} {p:Nat} (h:r.length ≤ p):r.getD p 0=0:=by rw [List.getD_eq_getElem?_getD,List.getElem?_eq_none h]; rfl
theorem cY {r s:List Int} (h:∀ p,r.getD p 0=s.getD p 0) (hr:r=[]∨r.getD (r.length - 1) 0 ≠ 0) (hs:s=[]∨s.getD (s.length - 1) 0 ≠ 0):r=s:=by
 have hl:r.length=s.length:=by
  rcases (by omega:r.length=s.length∨r.length < s.length∨s.length < r.length) with z | z | z
  ·exact z
  ·rcases hs with hs | hs
   ·rw [hs] at z; simp at z
   ·exact absurd (by rw [← h]; exact mI (by omega)) hs
  ·rcases hr with hr | hr
   ·rw [hr] at z; simp at z
   ·exact absurd (by rw [h]; exact mI (by omega)) hr
 apply List.ext_getElem hl
 intro i h1 h2
 have:=h i
 rw [List.getD_eq_getElem?_getD,List.getD_eq_getElem?_getD,List.getElem?_eq_getElem h1,List.getElem?_eq_getElem h2] at this
 exact this
theorem yq (n:Int) (l:List Int) (z:Int):(zp .falling n (l ++ [z])).re=(zp .falling n l).re + z * wf n l.length:=by
 rw [wj,yB]
 rfl
theorem Lg.nonneg {n:Int} {r:List Int} (h:Lg .falling n r) (h1:1 ≤ n):0 ≤ (zp .falling n r).re:=by
 generalize hl:r.length=m
 induction m generalizing r with
 | zero=>obtain rfl:r=[]:=List.length_eq_zero_iff.mp hl; exact Int.le_refl 0
 | succ m ih=>
  rcases zJ r with rfl | ⟨l,z,rfl⟩
  ·cases hl
  ·have hz:=h.fig l.length (by rw [List.length_append]; simp)
   rw [getD_snoc_eq] at hz
   have hz0:0 ≤ z:=hz.1
   have:=ih h.pop (by rw [List.length_append] at hl; exact Nat.succ.inj hl)
   rw [yq]
   have:=Int.mul_nonneg hz0 (show 0 ≤ wf n l.length by have:=(z8 h1 l.length).1; omega)
   omega
theorem Lg.lt {n:Int} (h1:1 ≤ n):∀ (m:Nat) (r:List Int),r.length=m→Lg .falling n r→(zp .falling n r).re < wf n m:=by
 intro m
 induction m using Nat.strongRecOn with
 | ind m ih=>
  intro r hl h
  rcases zJ r with rfl | ⟨l,z,rfl⟩
  ·subst hl; show (0:Int) < wf n 0; rw [pW]; decide
  ·have el:l.length + 1=m:=by rw [List.length_append] at hl; exact hl
   have hz:=h.fig l.length (by rw [List.length_append]; simp)
   rw [getD_snoc_eq] at hz
   have hz0:0 ≤ z:=hz.1
   have hz1:z ≤ n:=hz.2
   have il:=ih l.length (by omega) l rfl h.pop
   have wp:=(z8 h1 l.length).1
   rw [yq,← el]
   rcases (by omega:z ≤ n - 1∨z=n) with c | c
   ·have k1:=Int.mul_le_mul_of_nonneg_right c (show 0 ≤ wf n l.length by omega)
    have k2:(n - 1) * wf n l.length=n * wf n l.length - wf n l.length:=by rw [Int.sub_mul,Int.one_mul]
    have k3:n * wf n l.length < wf n (l.length + 1):=by
     cases l.length with
     | zero=>rw [gR,pW]; omega
     | succ q=>rw [lh]; have:=(z8 h1 q).1; omega
    omega
   ·subst c
    rcases zJ l with rfl | ⟨l',y,rfl⟩
    ·show (0:Int) + z * wf z 0 < wf z 1
     rw [pW,gR]; omega
    ·have hy:=h.fal rfl l'.length (by rw [List.length_append,List.length_append]; simp) (by
      have:=getD_snoc_eq (r:=l' ++ [y]) (z:=z)
      rw [List.length_append] at this
      exact this)
     rw [zI (by rw [List.length_append]; simp),getD_snoc_eq] at hy
     subst hy
     have i2:=ih l'.length (by rw [List.length_append] at el; simp at el; omega) l' rfl h.pop.pop
     rw [yq,Int.zero_mul,Int.add_zero,List.length_append]
     show _ + z * wf z (l'.length + 1) < wf z (l'.length + 2)
     rw [lh]
     omega
theorem pd {n:Int} (h1:1 ≤ n):∀ (m:Nat) (r s:List Int),r.length=m→s.length=m→Lg .falling n r→Lg .falling n s→(zp .falling n r).re=(zp .falling n s).re→r=s
 | 0,r,s,hr,hs,_,_,_=>by rw [List.length_eq_zero_iff.mp hr,List.length_eq_zero_iff.mp hs]
 | m + 1,r,s,hr,hs,Lr,Ls,e=>by
  rcases zJ r with rfl | ⟨l,z,rfl⟩
  ·cases hr
  rcases zJ s with rfl | ⟨l',z',rfl⟩
  ·cases hs
  have e1:l.length=m:=by rw [List.length_append] at hr; exact Nat.succ.inj hr
  have e2:l'.length=m:=by rw [List.length_append] at hs; exact Nat.succ.inj hs
  rw [yq,yq,e1,e2] at e
  have a1:=Lr.pop.nonneg h1
  have a2:=Lr.pop.lt h1 m l e1
  have b1:=Ls.pop.nonneg h1
  have b2:=Ls.pop.lt h1 m l' e2
  have wp:=(z8 h1 m).1
  have hz:z=z':=by
   rcases (by omega:z=z'∨z + 1 ≤ z'∨z' + 1 ≤ z) with c | c | c
   ·exact c
   ·have:=Int.mul_le_mul_of_nonneg_right c (show 0 ≤ wf n m by omega)
    rw [Int.add_mul,Int.one_mul] at this
    omega
   ·have:=Int.mul_le_mul_of_nonneg_right c (show 0 ≤ wf n m by omega)
    rw [Int.add_mul,Int.one_mul] at this
    omega
  subst hz
  rw [pd h1 m l l' e1 e2 Lr.pop Ls.pop (by omega)]
theorem Legal.lg {k:Kd} {n:Int} {r:List Int} (h:Legal k n r):Lg k n r:=⟨h.fig,h.fal⟩
theorem Legal.geF {n:Int} {r:List Int} (h:Legal .falling n r) (h1:1 ≤ n) (hr:r ≠ []):wf n (r.length - 1) ≤ (zp .falling n r).re:=by
 rcases zJ r with rfl | ⟨l,z,rfl⟩
 ·exact absurd rfl hr
 ·have hz:=h.fig l.length (by rw [List.length_append]; simp)
  rw [getD_snoc_eq] at hz
  have hz0:0 ≤ z:=hz.1
  have el:(l ++ [z]).length - 1=l.length:=by rw [List.length_append]; rfl
  rcases h.end_ with c | c
  ·exact absurd c hr
  ·rw [el,getD_snoc_eq] at c
   rw [yq,el]
   have a1:=h.lg.pop.nonneg h1
   have wp:=(z8 h1 l.length).1
   have:=Int.mul_le_mul_of_nonneg_right (show 1 ≤ z by omega) (show 0 ≤ wf n l.length by omega)
   omega
theorem jv {n:Int} (h1:1 ≤ n) {i j:Nat} (h:i ≤ j):wf n i ≤ wf n j:=by
 induction h with
 | refl=>exact Int.le_refl _
 | step _ ih=>exact Int.le_trans ih (z8 h1 _).2
theorem Qp {k:Kd} {n:Int} {r s:List Int} (hn:k.ok n) (hr:Legal k n r) (hs:Legal k n s) (e:zp k n r=zp k n s):r=s:=by
 by_cases hk:k=.falling
 ·subst hk
  have h1:1 ≤ n:=hn.1
  have e':=congrArg Nm.re e
  rcases (by omega:r.length=s.length∨r.length < s.length∨s.length < r.length) with z | z | z
  ·exact pd h1 _ r s z rfl hr.lg hs.lg e'
  ·have a:=hr.lg.lt h1 _ r rfl
   have b:=hs.geF h1 (by intro q; rw [q] at z; simp at z)
   have:=jv h1 (show r.length ≤ s.length - 1 by omega)
   omega
  ·have a:=hs.lg.lt h1 _ s rfl
   have b:=hr.geF h1 (by intro q; rw [q] at z; simp at z)
   have:=jv h1 (show s.length ≤ r.length - 1 by omega)
   omega
 ·have h5:k.five=true:=by cases k <;> first | rfl | exact absurd rfl hk
  rw [ni h5,ni h5] at e
  exact cY (Wq h5 hn r s 0 (fun p hp=>by rw [Nat.zero_add]; exact hr.fig p hp) (fun p hp=>by rw [Nat.zero_add]; exact hs.fig p hp) e) hr.end_ hs.end_
theorem wt7 {k:Kd} {n:Int} (hn:k.ok n) (hk:k ≠ .pairs) {j:Nat} (hj:j ≤ 60):(wt k n j).re.natAbs ≤ 2 ^ (7 * j):=by
 obtain ⟨b1,b2⟩:=wa hn
 by_cases hf:k=.falling
 ·subst hf
  have:=gQ b1 (by have:=hn.2; exact this) j
  have p:=(z8 b1 j).1
  have h2:2 ^ (4 * j) ≤ 2 ^ (7 * j):=Nat.pow_le_pow_right (by decide) (by omega)
  show (wf n j).natAbs ≤ _
  omega
 ·have h4:k.four=true:=by cases k <;> first | rfl | exact absurd rfl hk | exact absurd rfl hf
  have h5:k.five=true:=by cases k <;> first | rfl | cases h4
  induction j with
  | zero=>
   have e:wt k n 0=.i 1:=by cases k <;> first | rfl | exact absurd rfl hf | exact absurd rfl hk
   rw [e]
   exact Nat.le_refl 1
  | succ j ih=>
   have i:=ih (by omega)
   rw [yd h5,zM]
   have hr1:(k.ratN n j).im=0:=by cases k <;> first | rfl | cases h4
   have hr2:(k.ratN n j).re.natAbs ≤ 128:=by cases k <;> cases h4 <;> simp only [Kd.ratN,Kd.rat,Nm.re] <;> omega
   rw [hr1,Int.zero_mul,Int.sub_zero,Int.natAbs_mul,show 7 * (j + 1)=7 + 7 * j by omega,Nat.pow_add]
   exact Nat.mul_le_mul hr2 i
theorem gM {k:Kd} {n:Int} (hn:k.ok n) {j:Nat}:(k=.below∨k=.balanced∨k=.pairs)∨∃ x,wt k n j=.i x∧1 ≤ x:=by
 obtain ⟨b1,b2⟩:=wa hn
 cases k with
 | below=>exact .inl (.inl rfl)
 | balanced=>exact .inl (.inr (.inl rfl))
 | pairs=>exact .inl (.inr (.inr rfl))
 | falling=>exact .inr ⟨_,rfl,(z8 b1 j).1⟩
 | plain=>
  refine .inr ?_
  induction j with
  | zero=>exact ⟨_,rfl,by decide⟩
  | succ j ih=>
   obtain ⟨x,e,h⟩:=ih
   rw [yd rfl,e]
   exact ⟨_,rfl,by show 1 ≤ n * x; have:=Int.mul_le_mul b1 h (by decide) (by omega); omega⟩
 | growing=>
  refine .inr ?_
  induction j with
  | zero=>exact ⟨_,rfl,by decide⟩
  | succ j ih=>
   obtain ⟨x,e,h⟩:=ih
   rw [yd rfl,e]
   exact ⟨_,rfl,by show 1 ≤ (n + (j:Int)) * x; have:=Int.mul_le_mul (show 1 ≤ n + (j:Int) by omega) h (by decide) (by omega); omega⟩
def fE (k:Kd):Prop:=k=.plain∨k=.growing
theorem jt {k:Kd} {n:Int} (hk:fE k) (hn:k.ok n) (j:Nat):∃ w,wt k n j=.i w∧1 ≤ w∧wt k n (j + 1)=.i (k.rat n j * w)∧k.high n j=k.rat n j - 1∧k.low n j=0:=by
 rcases hk with rfl | rfl
 ·rcases gM hn (j:=j) with (h | h | h) | ⟨w,e,h⟩
  ·cases h
  ·cases h
  ·cases h
  ·exact ⟨w,e,h,by rw [yd rfl,e]; rfl,rfl,rfl⟩
 ·rcases gM hn (j:=j) with (h | h | h) | ⟨w,e,h⟩
  ·cases h
  ·cases h
  ·cases h
  ·exact ⟨w,e,h,by rw [yd rfl,e]; rfl,rfl,rfl⟩
theorem c_ {k:Kd} (hk:fE k):k ≠ .pairs:=by rcases hk with rfl | rfl <;> (intro z; cases z)
theorem jI {k:Kd} {n:Int} {f:Nat→Int} (hk:fE k) (hn:k.ok n):∀ j:Nat,(∀ i:Nat,i < j→k.low n i ≤ f i∧f i ≤ k.high n i)→0 ≤ (wF k n f j).re∧(wF k n f j).re < (wt k n j).re
 | 0,_=>by
  obtain ⟨w,e,h,_⟩:=jt hk hn 0
  rw [e]
  show 0 ≤ (k.zero).re∧(k.zero).re < w
  rw [yc]
  omega
 | j + 1,h=>by
  obtain ⟨a,b⟩:=jI hk hn j fun i hi=>h i (by omega)
  obtain ⟨w,e,hw,e2,h1,h2⟩:=jt hk hn j
  obtain ⟨f1,f2⟩:=h j (by omega)
  rw [e2]
  have ew:(wF k n f (j + 1)).re=(wF k n f j).re + f j * w:=by
   show ((wF k n f j).add ((Nm.i (f j)).mul (wt k n j))).re=_
   rw [yB,e]
   rfl
  rw [ew]
  rw [e] at b
  have b':(wF k n f j).re < w:=b
  rw [h2] at f1
  rw [h1] at f2
  have m1:=Int.mul_nonneg f1 (show 0 ≤ w by omega)
  have m2:=Int.mul_le_mul_of_nonneg_right f2 (show 0 ≤ w by omega)
  rw [Int.sub_mul,Int.one_mul] at m2
  show 0 ≤ _∧_ < k.rat n j * w
  omega
theorem df {k:Kd} {m:Nm} (h5:k.five=true) (hk:¬ fE k) (hm:m.ty k):yh k m=true:=by
 cases k with
 | plain=>exact absurd (.inl rfl) hk
 | growing=>exact absurd (.inr rfl) hk
 | falling=>cases h5
 | below=>obtain ⟨a,rfl⟩:=hm; rfl
 | balanced=>obtain ⟨a,rfl⟩:=hm; rfl
 | pairs=>obtain ⟨a,b,rfl⟩:=hm; rfl
theorem gq {k:Kd} {n:Int} {r:List Int} (hn:k.ok n) (h:Legal k n r):yh k (zp k n r)=true:=by
 by_cases hf:k=.falling
 ·subst hf
  have:=h.lg.nonneg hn.1
  obtain ⟨a,e⟩:=y2 .falling n r
  rw [e] at this ⊢
  exact decide_eq_true this
 ·have h5:k.five=true:=by cases k <;> first | rfl | exact absurd rfl hf
  by_cases hk:fE k
  ·have a:=(jI (f:=fun i=>r.getD i 0) hk hn r.length fun i hi=>h.fig i hi).1
   obtain ⟨x,e⟩:=wd (c_ hk) (y2 k n r)
   have:zp k n r=wF k n (fun i=>r.getD i 0) r.length:=xO k n r _
   rw [← this,e] at a
   rw [e]
   have a':0 ≤ x:=a
   rcases hk with rfl | rfl <;> exact decide_eq_true a'
  ·exact df h5 hk (y2 k n r)
theorem pG {k:Kd} {n:Int} {r:List Int} (hn:k.ok n) (h:Legal k n r) (hl:r.length ≤ 2000):∀ t ∈ r,t.natAbs ≤ 4000:=by
 intro t ht
 obtain ⟨i,hi,e⟩:=List.getElem_of_mem ht
 have f:=h.fig i hi
 have eg:r.getD i 0=t:=by rw [List.getD_eq_getElem?_getD,List.getElem?_eq_getElem hi,e]; rfl
 rw [eg] at f
 obtain ⟨b1,b2⟩:=wa hn
 have sq:n * n ≤ 3600:=by have:=Int.mul_le_mul b2 b2 (by omega) (by omega); omega
 cases k <;> simp only [Kd.low,Kd.high] at f <;> omega
theorem jd {k:Kd} {n:Int} {r:List Int} (hn:k.ok n) (h:Legal k n r) (hl:r.length ≤ 2000):bdR r:=fun t ht=>
 Nat.lt_of_le_of_lt (pG hn h hl t ht) (Nat.lt_of_lt_of_le (by decide:4000 < 2 ^ 12) (Nat.pow_le_pow_right (by decide) (by decide)))
theorem ZU {k:Kd} {n:Int} (hn:k.ok n) {j:Nat} (hj:j ≤ 60):(wt k n j).re.natAbs ≤ 2 ^ (7 * j)∧(wt k n j).im.natAbs ≤ 2 ^ (7 * j):=by
 by_cases hk:k=.pairs
 ·subst hk
  have h1:1 ≤ n:=hn.1
  have h9:n ≤ 9:=hn.2
  induction j with
  | zero=>exact ⟨Nat.le_refl 1,Nat.zero_le _⟩
  | succ j ih=>
   obtain ⟨a,b⟩:=ih (by omega)
   rw [yd rfl,zM,zR,show 7 * (j + 1)=7 + 7 * j by omega,Nat.pow_add]
   show (-n * (wt .pairs n j).re - 1 * (wt .pairs n j).im).natAbs ≤ _∧(-n * (wt .pairs n j).im + 1 * (wt .pairs n j).re).natAbs ≤ _
   generalize (wt .pairs n j).re=x at *
   generalize (wt .pairs n j).im=y at *
   generalize 2 ^ (7 * j)=X at *
   have m1:(-n * x).natAbs ≤ 9 * X:=by rw [Int.natAbs_mul]; exact Nat.mul_le_mul (by omega) a
   have m2:(-n * y).natAbs ≤ 9 * X:=by rw [Int.natAbs_mul]; exact Nat.mul_le_mul (by omega) b
   have e:(2:Nat) ^ 7=128:=rfl
   rw [e]
   omega
 ·refine ⟨wt7 hn hk hj,?_⟩
  obtain ⟨w,e⟩:=wtI (n:=n) hk j
  rw [e]
  exact Nat.zero_le _
theorem ng {k:Kd} {n:Int} {r:List Int} (hn:k.ok n) (hs:∀ t ∈ r,t.natAbs ≤ 4000):∀ j,j ≤ 60→(yS k n r j).re.natAbs ≤ 2 ^ (7 * j + 13)∧(yS k n r j).im.natAbs ≤ 2 ^ (7 * j + 13)
 | 0,_=>by
  show (k.zero).re.natAbs ≤ _∧(k.zero).im.natAbs ≤ _
  rw [yc,yu]
  exact ⟨Nat.zero_le _,Nat.zero_le _⟩
 | j + 1,hj=>by
  obtain ⟨a,b⟩:=ng hn hs j (by omega)
  obtain ⟨w1,w2⟩:=ZU hn (show j ≤ 60 by omega)
  have ht:(r.getD j 0).natAbs ≤ 4000:=by
   rw [List.getD_eq_getElem?_getD]
   cases q:r[j]? with
   | none=>exact Nat.zero_le _
   | some t=>exact hs t (List.mem_of_getElem? q)
  have e:yS k n r (j + 1)=(yS k n r j).add ((Nm.i (r.getD j 0)).mul (wt k n j)):=rfl
  rw [e,yB,yO,zM,zR]
  show ((yS k n r j).re + (r.getD j 0 * (wt k n j).re - 0 * (wt k n j).im)).natAbs ≤ _∧((yS k n r j).im + (r.getD j 0 * (wt k n j).im + 0 * (wt k n j).re)).natAbs ≤ _
  have p1:2 ^ (7 * (j + 1) + 13)=128 * (8192 * 2 ^ (7 * j)):=by rw [show 7 * (j + 1) + 13=7 + (13 + 7 * j) by omega,Nat.pow_add,Nat.pow_add]
  have p2:2 ^ (7 * j + 13)=8192 * 2 ^ (7 * j):=by rw [show 7 * j + 13=13 + 7 * j by omega,Nat.pow_add]
  rw [p1]
  rw [p2] at a b
  have m1:(r.getD j 0 * (wt k n j).re).natAbs ≤ 4000 * 2 ^ (7 * j):=by rw [Int.natAbs_mul]; exact Nat.mul_le_mul ht w1
  have m2:(r.getD j 0 * (wt k n j).im).natAbs ≤ 4000 * 2 ^ (7 * j):=by rw [Int.natAbs_mul]; exact Nat.mul_le_mul ht w2
  generalize 2 ^ (7 * j)=X at *
  omega
def y9 (k:Kd) (m:Nm):Nm:=match k with
 | .pairs=>.p m.re m.im
 | _=>match m with
  | .i a=>.i a
  | .p a b=>if b=0 then .i a else .p a b
def Fg (k:Kd) (n:Int) (r:List Int):Prop:=∀ p,p < r.length→k.low n p ≤ r.getD p 0∧r.getD p 0 ≤ k.high n p
theorem Fg.put {k:Kd} {n:Int} {r:List Int} (hn:k.ok n) (h:Fg k n r) (j:Nat):Fg k n (r.set j 0):=fun p hp=>by
 rw [List.length_set] at hp
 by_cases q:j=p
 ·subst q
  rw [yt hp]
  exact oQ hn j
 ·rw [yr q]
  exact h p hp
def Fl (k:Kd) (n:Int) (r:List Int) (i:Nat):Prop:=k.isF=true→∀ q:Nat,r.length ≤ q + 1 + i→q + 1 < r.length→r.getD (q + 1) 0=n→r.getD q 0=0
theorem Fl.put {k:Kd} {n:Int} {r:List Int} {i j:Nat} (hn:k.ok n) (h:Fl k n r i) (hj:j + i < r.length):Fl k n (r.set j 0) i:=fun hk q h1 h2 h3=>by
 rw [List.length_set] at h1 h2
 by_cases e:j=q
 ·subst e; rw [yt (by omega)]
 ·rw [yr e]
  by_cases e2:j=q + 1
  ·subst e2
   rw [yt (by omega)] at h3
   have:=hn.1
   cases k <;> simp only [Kd.lo] at this <;> first | omega | cases hk
  ·rw [yr e2] at h3
   exact h hk q h1 h2 h3
theorem Fg.snoc {k:Kd} {n f:Int} {r:List Int} {i:Nat} (hlr:r.length=i) (hp:∀ p,p < i→k.low n p ≤ r.getD p 0∧r.getD p 0 ≤ k.high n p) (hf:k.low n i ≤ f∧f ≤ k.high n i):
  ∃ r':List Int,r.map Dt.int ++ [.int f]=r'.map Dt.int∧r'.length=i + 1∧∀ p,p < i + 1→k.low n p ≤ r'.getD p 0∧r'.getD p 0 ≤ k.high n p:=by
 refine ⟨r ++ [f],by rw [List.map_append]; rfl,by rw [List.length_append,hlr]; rfl,fun p hp'=>?_⟩
 rcases (by omega:p < i∨p=i) with z | z
 ·rw [zI (by omega)]
  exact hp p z
 ·subst z
  rw [← hlr,getD_snoc_eq,hlr]
  exact hf
def Kd.nam:Kd→Str
 | .plain=>.ofString "plain"
 | .below=>.ofString "below"
 | .balanced=>.ofString "balanced"
 | .growing=>.ofString "growing"
 | .falling=>.ofString "falling"
 | .pairs=>.ofString "pairs"
def Nm.pr (m:Nm):Dt:=.tup [.int m.re,.int m.im]
def m_:DSp:=fun ds Q=>∃ c,ds=[.int c]∧∀ k n,k.ok n→Q (.tup [.str (Kd.nam k),.int n])
def o7:DSp:=fun ds Q=>∃ k n p,ds=[.str (Kd.nam k),.int n]∧Q (.int (k.low n p))
def sD:DSp:=fun ds Q=>∃ k n p,ds=[.str (Kd.nam k),.int n,.int p]∧k.ok n∧Q (.int (k.high n p))
def cK:DSp:=fun ds Q=>∃ k n r,ds=[.str (Kd.nam k),.int n,zH r]∧k.ok n∧Legal k n r∧r.length ≤ 1000∧Q (.bl true)
def j5:DSp:=fun ds Q=>∃ k n,∃ j:Nat,∃ lo:Dt,ds=[.str (Kd.nam k),.int n,.int j,(wt k n j).pr,lo]∧k.ok n∧j ≤ 1000∧(∃ c d,lo=.tup [.int c,.int d]∧(k=.falling→c=(wtF n j).1))∧Q (wt k n (j + 1)).pr
def cI:DSp:=fun ds Q=>∃ k n r,ds=[.str (Kd.nam k),.int n,zH r]∧k.ok n∧r.length ≤ 1000∧bdR r∧Q (zp k n r).pr
theorem ck (xs:List Dt) (a b:Nat):(se xs (some (a:Int)) (some (b:Int))).length ≤ b - a:=by
 unfold se
 rw [HT.sIx_nat,HT.sIx_nat,List.length_take,List.length_drop]
 omega
theorem q_ {k:Kd} {m:Nm} (h:m.ty k):y9 k m=m:=by
 cases k <;> first | (obtain ⟨a,rfl⟩:=h; rfl) | (obtain ⟨a,b,rfl⟩:=h; rfl)
theorem cO (k:Kd) (m:Nm):(y9 k m).pr=m.pr:=by
 cases m with
 | i a=>cases k <;> rfl
 | p a b=>
  by_cases hb:b=0
  ·subst hb
   cases k <;> rfl
  ·have e:∀ k':Kd,k' ≠ .pairs→y9 k' (.p a b)=.p a b:=fun k' h=>by cases k' <;> first | exact if_neg hb | exact absurd rfl h
   by_cases hp:k=.pairs
   ·subst hp; rfl
   ·rw [e k hp]
def pw (p:Str × Bool):Dt:=.tup [.str p.1,.bl p.2]
def nk (l:List (Str × Bool)):List Dt:=(l.filter fun p=>p.2).map fun p=>Dt.str p.1
theorem rP {ρ:DS} {Q:Dt→Prop} (l:List (Str × Bool)) (q:Q (.lst (nk l))):jm [] (fun _ q=>q (l.map pw).length fun i e=>(l.map pw)[i]? = some e) VT (wc (vE 1)) (vE 0) ρ Q:=by
 refine ⟨fun i es=>es=nk (l.take i),rfl,?_,?_⟩
 ·rintro i e es hi he rfl
  rw [List.getElem?_map] at he
  obtain ⟨⟨w,t⟩,hp,rfl⟩:=Option.map_eq_some_iff.mp he
  refine ⟨_,⟨_,_,rfl,rfl⟩,_,rfl,t,rfl,?_⟩
  have ek:nk (l.take (i + 1))=nk (l.take i) ++ if t=true then [Dt.str w] else []:=by
   unfold nk
   rw [take_succ_filter (fun p:Str × Bool=>p.2) l i (w,t) hp,List.map_append]
   cases t <;> rfl
  cases t with
  | true=>exact ifT rfl ⟨_,rfl,ek.symm⟩
  | false=>exact ifF rfl (by rw [if_neg Bool.false_ne_true,List.append_nil] at ek; exact ek.symm)
 ·rintro es rfl
  rw [List.length_map,List.take_length]
  exact q
theorem cy {k:Kd} {n:Int} {r:List Int} (m:Nat):¬ Legal k n (r ++ List.replicate (m + 1) 0):=fun h=>by
 have e:r ++ List.replicate (m + 1) 0=(r ++ List.replicate m 0) ++ [(0:Int)]:=by rw [List.replicate_succ',List.append_assoc]
 rw [e] at h
 rcases h.end_ with z | z
 ·simp at z
 ·rw [List.length_append,List.length_singleton,Nat.add_sub_cancel] at z
  exact z getD_snoc_eq
theorem Zb {k:Kd} {n x:Int} {r:List Int} {a:Nat} (ha:a ≤ r.length) (hx:x < k.low n a∨k.high n a < x):¬ Legal k n (r.take a ++ [x] ++ r.drop (a + 1)):=fun h=>by
 have hl:(r.take a).length=a:=by rw [List.length_take]; omega
 have e:(r.take a ++ [x] ++ r.drop (a + 1)).getD a 0=x:=by
  rw [List.append_assoc,List.getD_eq_getElem?_getD,List.getElem?_append_right (by omega),hl,Nat.sub_self]
  rfl
 have:=h.fig a (by rw [List.length_append,List.length_append,hl]; show a < a + 1 + _; omega)
 rw [e] at this
 omega
theorem cj {r:List Int} (a:Nat):se (r.map Dt.int) none (some (a:Int))=(r.take a).map Dt.int:=by
 unfold se
 rw [HT.sIx_nat,HT.sIx_none,List.drop_zero,Nat.sub_zero,List.length_map,← List.map_take]
 congr 1
 rcases Nat.le_total a r.length with h | h
 ·rw [Nat.min_eq_left h]
 ·rw [Nat.min_eq_right h,List.take_length,List.take_of_length_le h]
theorem cn {r:List Int} (a:Nat):se (r.map Dt.int) (some (a:Int)) none=(r.drop a).map Dt.int:=by
 unfold se
 rw [HT.sIx_nat,HT.sIx_none,List.length_map,← List.map_drop,← List.map_take]
 congr 1
 rcases Nat.le_total a r.length with h | h
 ·rw [Nat.min_eq_left h,List.take_of_length_le (by rw [List.length_drop]; omega)]
 ·rw [Nat.min_eq_right h,List.drop_length,List.drop_of_length_le h,List.take_nil]
theorem gT (k:Kd) (m:Nm):yh k (y9 k m)=!((!(k.nam == Str.ofString "pairs") && !(eqD (.int m.im) (.int 0))) || ((match k with | .plain=>true | .growing=>true | .falling=>true | _=>false) && decide (m.re < 0))):=by
 have dn:∀ a:Int,decide (0 ≤ a)=!(decide (a < 0)):=fun a=>by
  by_cases h:a < 0
  ·rw [decide_eq_true h,decide_eq_false (by omega)]; rfl
  ·rw [decide_eq_false h,decide_eq_true (by omega)]; rfl
 cases m with
 | i a=>
  have e:eqD (.int (Nm.i a).im) (.int 0)=true:=eqI rfl
  rw [e]
  cases k <;> first | rfl | (show decide (0 ≤ a)=!(_ || (true && decide (a < 0))); rw [dn]; rfl)
 | p a b=>
  by_cases hb:b=0
  ·subst hb
   have e:eqD (.int (Nm.p a 0).im) (.int 0)=true:=eqI rfl
   rw [e]
   cases k <;> first | rfl | (show decide (0 ≤ a)=!(_ || (true && decide (a < 0))); rw [dn]; rfl)
  ·have e:eqD (.int (Nm.p a b).im) (.int 0)=false:=neI hb
   rw [e]
   have e2:∀ k':Kd,k' ≠ .pairs→y9 k' (.p a b)=.p a b:=fun k' h=>by cases k' <;> first | exact if_neg hb | exact absurd rfl h
   by_cases hp:k=.pairs
   ·subst hp; rfl
   ·rw [e2 k hp]
    cases k <;> first | rfl | exact absurd rfl hp
open Classical in
def mY:DSp:=fun ds Q=>∃ k n cs,ds=[.str (Kd.nam k),.int n,zH cs]∧Kd.ok k n∧cs.length ≤ 1000∧∀ r,Legal k n r→r.length ≤ cs.length→Q (zH r)
def pS:DSp:=fun ds Q=>∃ k n r c,ds=[.str (Kd.nam k),.int n,zH r,.int c]∧Kd.ok k n∧r.length ≤ 100∧∀ r',¬ Legal k n r'→r'.length ≤ 200→Q (zH r')
def nw:Dt:=.lst [.str (.ofString "NoWriting")]
def nn:Dt:=.lst [.str (.ofString "NoNumber")]
structure Adr where
 Plain:Addr
 Below:Addr
 Balanced:Addr
 Growing:Addr
 Falling:Addr
 Pairs:Addr
 OddError:Addr
 NoWriting:Addr
 NoNumber:Addr
 NoPairs:Addr
 NoWay:Addr
 TooLess:Addr
 NoRatio:Addr
 NoFalling:Addr
 Nought:Addr
 NoSpan:Addr
 NoTotal:Addr
 NoText:Addr
 NoRow:Addr
structure Txt (K:PySem.W.Frag) (mg:Str→Option Value) (A:Adr):Prop where
 kt:Zi K
 isinstance:mg "isinstance"=none
 n_int:mg "int"=none
 n_bool:mg "bool"=none
 n_tuple:mg "tuple"=none
 n_list:mg "list"=none
 len:mg "len"=none
 range:mg "range"=none
 n_zip:mg "zip"=none
 n_enumerate:mg "enumerate"=none
 n_reversed:mg "reversed"=none
 n_ValueError:mg "ValueError"=none
 cl_Plain:Cls K A.Plain
 na_Plain:NoAttr K A.Plain "base"
 cl_Below:Cls K A.Below
 na_Below:NoAttr K A.Below "base"
 cl_Balanced:Cls K A.Balanced
 na_Balanced:NoAttr K A.Balanced "half"
 cl_Growing:Cls K A.Growing
 na_Growing:NoAttr K A.Growing "first"
 cl_Falling:Cls K A.Falling
 na_Falling:NoAttr K A.Falling "most"
 cl_Pairs:Cls K A.Pairs
 na_Pairs:NoAttr K A.Pairs "most"
 gc_Falling:mg "Falling"=some (.ref A.Falling)
 gc_Pairs:mg "Pairs"=some (.ref A.Pairs)
 isi_Plain:tG K A.Plain
 ki_Plain_Falling:PySem.W.kitOne K (.ref A.Plain) (.ref A.Falling)=some false
 ki_Plain_Pairs:PySem.W.kitOne K (.ref A.Plain) (.ref A.Pairs)=some false
 isi_Below:tG K A.Below
 ki_Below_Falling:PySem.W.kitOne K (.ref A.Below) (.ref A.Falling)=some false
 ki_Below_Pairs:PySem.W.kitOne K (.ref A.Below) (.ref A.Pairs)=some false
 isi_Balanced:tG K A.Balanced
 ki_Balanced_Falling:PySem.W.kitOne K (.ref A.Balanced) (.ref A.Falling)=some false
 ki_Balanced_Pairs:PySem.W.kitOne K (.ref A.Balanced) (.ref A.Pairs)=some false
 isi_Growing:tG K A.Growing
 ki_Growing_Falling:PySem.W.kitOne K (.ref A.Growing) (.ref A.Falling)=some false
 ki_Growing_Pairs:PySem.W.kitOne K (.ref A.Growing) (.ref A.Pairs)=some false
 isi_Falling:tG K A.Falling
 ki_Falling_Falling:PySem.W.kitOne K (.ref A.Falling) (.ref A.Falling)=some true
 ki_Falling_Pairs:PySem.W.kitOne K (.ref A.Falling) (.ref A.Pairs)=some false
 isi_Pairs:tG K A.Pairs
 ki_Pairs_Falling:PySem.W.kitOne K (.ref A.Pairs) (.ref A.Falling)=some false
 ki_Pairs_Pairs:PySem.W.kitOne K (.ref A.Pairs) (.ref A.Pairs)=some true
 gc_OddError:mg "OddError"=some (.ref A.OddError)
 gc_NoWriting:mg "NoWriting"=some (.ref A.NoWriting)
 gc_NoNumber:mg "NoNumber"=some (.ref A.NoNumber)
 gc_NoPairs:mg "NoPairs"=some (.ref A.NoPairs)
 gc_NoWay:mg "NoWay"=some (.ref A.NoWay)
 gc_TooLess:mg "TooLess"=some (.ref A.TooLess)
 gc_NoRatio:mg "NoRatio"=some (.ref A.NoRatio)
 gc_NoFalling:mg "NoFalling"=some (.ref A.NoFalling)
 gc_Nought:mg "Nought"=some (.ref A.Nought)
 gc_NoSpan:mg "NoSpan"=some (.ref A.NoSpan)
 gc_NoTotal:mg "NoTotal"=some (.ref A.NoTotal)
 gc_NoText:mg "NoText"=some (.ref A.NoText)
 gc_NoRow:mg "NoRow"=some (.ref A.NoRow)
 ex_NoWriting:ExcK K A.NoWriting
 ix_NoWriting:tF K A.NoWriting
 em_NoWriting_OddError:PySem.W.exmOne K (.ref A.NoWriting) (.ref A.OddError)=some true
 kx_NoWriting_OddError:PySem.W.kitOne K (.ref A.NoWriting) (.ref A.OddError)=some true
 kx_NoWriting_NoWriting:PySem.W.kitOne K (.ref A.NoWriting) (.ref A.NoWriting)=some true
 kx_NoWriting_NoNumber:PySem.W.kitOne K (.ref A.NoWriting) (.ref A.NoNumber)=some false
 kx_NoWriting_NoPairs:PySem.W.kitOne K (.ref A.NoWriting) (.ref A.NoPairs)=some false
 kx_NoWriting_NoWay:PySem.W.kitOne K (.ref A.NoWriting) (.ref A.NoWay)=some false
 kx_NoWriting_TooLess:PySem.W.kitOne K (.ref A.NoWriting) (.ref A.TooLess)=some false
 kx_NoWriting_NoRatio:PySem.W.kitOne K (.ref A.NoWriting) (.ref A.NoRatio)=some false
 kx_NoWriting_NoFalling:PySem.W.kitOne K (.ref A.NoWriting) (.ref A.NoFalling)=some false
 kx_NoWriting_Nought:PySem.W.kitOne K (.ref A.NoWriting) (.ref A.Nought)=some false
 kx_NoWriting_NoSpan:PySem.W.kitOne K (.ref A.NoWriting) (.ref A.NoSpan)=some false
 kx_NoWriting_NoTotal:PySem.W.kitOne K (.ref A.NoWriting) (.ref A.NoTotal)=some false
 kx_NoWriting_NoText:PySem.W.kitOne K (.ref A.NoWriting) (.ref A.NoText)=some false
 kx_NoWriting_NoRow:PySem.W.kitOne K (.ref A.NoWriting) (.ref A.NoRow)=some false
 kx_NoWriting_ValueError:PySem.W.kitOne K (.ref A.NoWriting) (.type "ValueError")=some true
 ex_NoNumber:ExcK K A.NoNumber
 ix_NoNumber:tF K A.NoNumber
 em_NoNumber_OddError:PySem.W.exmOne K (.ref A.NoNumber) (.ref A.OddError)=some true
 kx_NoNumber_OddError:PySem.W.kitOne K (.ref A.NoNumber) (.ref A.OddError)=some true
 kx_NoNumber_NoWriting:PySem.W.kitOne K (.ref A.NoNumber) (.ref A.NoWriting)=some false
 kx_NoNumber_NoNumber:PySem.W.kitOne K (.ref A.NoNumber) (.ref A.NoNumber)=some true
 kx_NoNumber_NoPairs:PySem.W.kitOne K (.ref A.NoNumber) (.ref A.NoPairs)=some false
 kx_NoNumber_NoWay:PySem.W.kitOne K (.ref A.NoNumber) (.ref A.NoWay)=some false
 kx_NoNumber_TooLess:PySem.W.kitOne K (.ref A.NoNumber) (.ref A.TooLess)=some false
 kx_NoNumber_NoRatio:PySem.W.kitOne K (.ref A.NoNumber) (.ref A.NoRatio)=some false
 kx_NoNumber_NoFalling:PySem.W.kitOne K (.ref A.NoNumber) (.ref A.NoFalling)=some false
 kx_NoNumber_Nought:PySem.W.kitOne K (.ref A.NoNumber) (.ref A.Nought)=some false
 kx_NoNumber_NoSpan:PySem.W.kitOne K (.ref A.NoNumber) (.ref A.NoSpan)=some false
 kx_NoNumber_NoTotal:PySem.W.kitOne K (.ref A.NoNumber) (.ref A.NoTotal)=some false
 kx_NoNumber_NoText:PySem.W.kitOne K (.ref A.NoNumber) (.ref A.NoText)=some false
 kx_NoNumber_NoRow:PySem.W.kitOne K (.ref A.NoNumber) (.ref A.NoRow)=some false
 kx_NoNumber_ValueError:PySem.W.kitOne K (.ref A.NoNumber) (.type "ValueError")=some true
def Adr.at (A:Adr):Kd→Addr
 | .plain=>A.Plain | .below=>A.Below | .balanced=>A.Balanced | .growing=>A.Growing | .falling=>A.Falling | .pairs=>A.Pairs
def zP (A:Adr) (k:Kd) (n:Int):Dt:=.way (A.at k) k.fld n
def xM (A:Adr) (k:Kd) (g:Int→Int→Int):DSp:=fun ds Q=>∃ n p,ds=[zP A k n,.int p]∧k.ok n∧Q (.int (g n p))
def wK (A:Adr) (k:Kd) (g:Int→Int→Nm):DSp:=fun ds Q=>∃ n p,ds=[zP A k n,.int p]∧k.ok n∧Q (g n p).dt
def Wt:DSp:=fun ds Q=>∃ o p,ds=[o,p]∧Q (.int 0)
def Qm:DSp:=fun ds Q=>∃ o,ds=[o]∧Q (.int 0)
def Ql:DSp:=fun ds Q=>∃ o,ds=[o]∧Q (.tup [.int 0,.int 0])
def Zg (k:Kd):DSp:=fun ds Q=>∃ o,ds=[o]∧Q k.zero.dt
def Og (A:Adr):DSp:=fun ds Q=>∃ k n m,ds=[zP A k n,.int m]∧k.five=true∧k.ok n∧0 ≤ m∧m ≤ 1000∧Q (.lst (wts k n m.toNat))
def Qk (A:Adr):DSp:=fun ds Q=>∃ n m,ds=[zP A .falling n,.int m]∧Kd.falling.ok n∧0 ≤ m∧m ≤ 1000∧Q (.lst (wts .falling n m.toNat))
def cD (A:Adr) (k:Kd):DSp:=fun ds Q=>∃ n m,ds=[zP A k n,.int m]∧k.ok n∧0 ≤ m∧m ≤ 1000∧Q (.lst (wts k n m.toNat))
theorem jF {K:PySem.W.Frag} {mg:Str→Option Value} {A:Adr} (T:Txt K mg A) (k:Kd):tG K (A.at k):=by
 cases k
 ·exact T.isi_Plain
 ·exact T.isi_Below
 ·exact T.isi_Balanced
 ·exact T.isi_Growing
 ·exact T.isi_Falling
 ·exact T.isi_Pairs
theorem kiF {K:PySem.W.Frag} {mg:Str→Option Value} {A:Adr} (T:Txt K mg A) (k:Kd):PySem.W.kitOne K (.ref (A.at k)) (.ref A.Falling)=some k.isF:=by
 cases k
 ·exact T.ki_Plain_Falling
 ·exact T.ki_Below_Falling
 ·exact T.ki_Balanced_Falling
 ·exact T.ki_Growing_Falling
 ·exact T.ki_Falling_Falling
 ·exact T.ki_Pairs_Falling
def ZQ (A:Adr):DSp:=fun ds Q=>∃ k n r,ds=[zP A k n,zH r]∧k.ok n∧r.length ≤ 1000∧Q (.bl (mD k n r))
def cL (A:Adr):DSp:=fun ds Q=>∃ k n r,ds=[zP A k n,zH r]∧k.ok n∧r.length ≤ 1000∧∀ b:Bool,(b=true ↔ ∀ p,p < r.length→k.low n p ≤ r.getD p 0∧r.getD p 0 ≤ k.high n p)→Q (.bl b)
def j6 (A:Adr):DSp:=fun ds Q=>∃ n r,ds=[zP A .falling n,zH r]∧Kd.falling.ok n∧r.length ≤ 1000∧∀ b:Bool,(b=true ↔ ∀ p,p + 1 < r.length→r.getD (p + 1) 0=n→r.getD p 0=0)→Q (.bl b)
theorem ZE (k:Kd):(("low":Str) == k.fld)=false:=by cases k <;> decide +kernel
theorem dQ (k:Kd):(("high":Str) == k.fld)=false:=by cases k <;> decide +kernel
def cG (A:Adr):DSp:=fun ds Q=>∃ k n t j,ds=[zP A k n,.int t,.int ((j:Nat):Int)]∧k.four=true∧k.ok n∧j ≤ 100000∧Q (.tup [.int (sF k n j (.i t)),(sC k n j (.i t)).dt])
def cH (A:Adr):DSp:=fun ds Q=>∃ n d m j,ds=[zP A .pairs n,d,.int ((j:Nat):Int)]∧rm d=some m∧Kd.pairs.ok n∧Q (.tup [.int (sF .pairs n j m),(sC .pairs n j m).dt])
def j4 (A:Adr) (k:Kd):DSp:=fun ds Q=>∃ n m j,ds=[zP A k n,Nm.dt m,.int ((j:Nat):Int)]∧m.ty k∧k.ok n∧j ≤ 100000∧Q (.tup [.int (sF k n j m),(sC k n j m).dt])
theorem aK (k:Kd):(("split":Str) == k.fld)=false:=by cases k <;> decide +kernel
theorem aL (k:Kd):(("ratio":Str) == k.fld)=false:=by cases k <;> decide +kernel
theorem uo (k:Kd):(("nought":Str) == k.fld)=false:=by cases k <;> decide +kernel
theorem ZF (k:Kd):(("has":Str) == k.fld)=false:=by cases k <;> decide +kernel
theorem pJ (k:Kd):(("weights":Str) == k.fld)=false:=by cases k <;> decide +kernel
def Qn (A:Adr):DSp:=fun ds Q=>∃ k n ts J,ds=[zP A k n,cQ ts]∧k.five=true∧k.ok n∧(∀ t ∈ ts,tot k t)∧Fin k n ts J∧J ≤ 50000∧Q (.tup [zH (wD k n ts J),.lst (mT k n ts (J + 1))])
def pT (A:Adr):DSp:=fun ds Q=>∃ k n ts J,ds=[zP A k n,cQ ts]∧k.five=true∧k.ok n∧(∀ t ∈ ts,tot k t)∧Fin k n ts J∧J ≤ 50000∧Q (zH (rY k n ts J))
def j0 (A:Adr):DSp:=fun ds Q=>∃ k n ns,ds=[zP A k n,zH ns]∧k.ok n∧ns.length ≤ 1000∧bdR ns∧Q (zp k n ns).dt
def ZP (A:Adr):DSp:=fun ds Q=>∃ n m,ds=[zP A .falling n,.int m]∧Kd.falling.ok n∧0 ≤ m∧Builtin.Int.intBits m ≤ 500∧Q (zH (rH n m))
def cF (A:Adr):DSp:=fun ds Q=>∃ k n m,ds=[zP A k n,Nm.dt m]∧Q (y9 k m).dt
theorem kiP {K:PySem.W.Frag} {mg:Str→Option Value} {A:Adr} (T:Txt K mg A) (k:Kd):PySem.W.kitOne K (.ref (A.at k)) (.ref A.Pairs)=some (match k with | .pairs=>true | _=>false):=by
 cases k
 ·exact T.ki_Plain_Pairs
 ·exact T.ki_Below_Pairs
 ·exact T.ki_Balanced_Pairs
 ·exact T.ki_Growing_Pairs
 ·exact T.ki_Falling_Pairs
 ·exact T.ki_Pairs_Pairs
def cE (A:Adr):DSp:=fun ds Q=>∃ k n,ds=[.str (Kd.nam k),.int n]∧k.ok n∧Q (zP A k n)
theorem VC (i:Int):∃ k:Kd,k.num=i.fmod 6:=by
 have a0:=Int.fmod_nonneg_of_pos i (show (0:Int) < 6 by decide)
 have a1:=Int.fmod_lt_of_pos i (show (0:Int) < 6 by decide)
 rcases (by omega:i.fmod 6=0∨i.fmod 6=1∨i.fmod 6=2∨i.fmod 6=3∨i.fmod 6=4∨i.fmod 6=5) with e | e | e | e | e | e <;> rw [e]
 ·exact ⟨.plain,rfl⟩
 ·exact ⟨.below,rfl⟩
 ·exact ⟨.balanced,rfl⟩
 ·exact ⟨.growing,rfl⟩
 ·exact ⟨.falling,rfl⟩
 ·exact ⟨.pairs,rfl⟩
def j8 (A:Adr):y1:=fun ds Q R=>∃ k n,∃ rs:List (List Int),ds=[zP A k n,.lst (rs.map zH)]∧k.ok n∧(∀ r ∈ rs,r.length ≤ 1000)∧(((∀ r ∈ rs,Legal k n r)∧Q .non)∨((∃ r ∈ rs,¬ Legal k n r)∧R A.NoWriting))
def jZ (A:Adr):y1:=fun ds Q R=>∃ k n m,ds=[zP A k n,Nm.dt m]∧k.ok n∧((yh k m=true∧∃ r,Wr k n m r∧Q (zH r))∨(yh k m=false∧R A.NoNumber))
def mZ (A:Adr):y1:=fun ds Q R=>∃ k n r k2 n2,ds=[zP A k n,zH r,zP A k2 n2]∧k.ok n∧k2.ok n2∧r.length ≤ 1000∧((¬ Legal k n r∧R A.NoWriting)∨(Legal k n r∧yh k2 (y9 k2 (zp k n r))=false∧R A.NoNumber)∨(Legal k n r∧yh k2 (y9 k2 (zp k n r))=true∧∃ r2,Wr k2 n2 (y9 k2 (zp k n r)) r2∧Q (zH r2)))
def jq (A:Adr):DSp:=fun ds Q=>∃ k n r k2 n2,ds=[zP A k n,zH r,zP A k2 n2]∧k.ok n∧k2.ok n2∧r.length ≤ 1000∧((¬ Legal k n r∧Q (.tup [nw,.non]))∨(Legal k n r∧yh k2 (y9 k2 (zp k n r))=false∧Q (.tup [nn,.non]))∨(Legal k n r∧yh k2 (y9 k2 (zp k n r))=true∧∃ r2,Wr k2 n2 (y9 k2 (zp k n r)) r2∧Q (.tup [.lst [],zH r2])))
def cJ (A:Adr):DSp:=fun ds Q=>∃ C,ds=[.exc C]∧((C=A.NoWriting∧Q nw)∨(C=A.NoNumber∧Q nn))
section
variable {P:Program} {w:World} {K:PySem.W.Frag} {mg:Str→Option Value} {base:Heap} {f:Addr} {fd:FuncData} {A:Adr}
abbrev xS:Stmt:=top 48
theorem sc_law_chosen:zi ["_law_cell","_law_name","_law_part"] ["_law_cell"] (defScope xS):=by walk_at "sc"
theorem ql (T:Txt K mg A) (F:Fun K "_law_chosen" "_law_chosen" xS f fd):FnOk P w K mg base CX0 1 f fd ["_law_cell"] (zv K (m_)):=by
 refine okD F sc_law_chosen (fun ds Q h=>?_) (fun cdv A' outer s H E hr ds Q h=>?_)
 ·obtain ⟨c,rfl,q⟩:=h
  rfl
 obtain ⟨c,rfl,q⟩:=h
 refine ⟨_,(zd (zr (i:=1) sc_law_chosen.nd rfl (Or.inl rfl) (zB (zN (zb zy (zb zy (zb zy (zb zy (zb zy (zb zy zf))))))) (zj yJ (dv 0) ze) (fun _ _=>rfl)))
 (zd (zr (i:=2) sc_law_chosen.nd rfl (Or.inl rfl) (zj xw (dv 0) ze))
 (zd (zD (zw (yP) (dv 1) zy (zu _)) (zg (zk (zC (zb (dv 1) (zb (zj zU ze (zj yJ (dv 2) ze)) zf))))) zq)
 (zd (zD (zw fO (dv 1) (zN (zb zy (zb zy zf))) (by with_unfolding_all rfl)) (zg (zk (zC (zb (dv 1) (zb (zj zU ze (zj yJ (dv 2) ze)) zf))))) zq)
 (zg (zk (zC (zb (dv 1) (zb (zj zU ze (zj yJ (dv 2) ze)) zf))))))))),?_⟩
 obtain ⟨k,hk⟩:=VC c
 have key:atI [Dt.str (.ofString "plain"),.str (.ofString "below"),.str (.ofString "balanced"),.str (.ofString "growing"),.str (.ofString "falling"),.str (.ofString "pairs")] (c.fmod 6)=some (.str k.nam):=by
  rw [← hk]
  cases k <;> rfl
 refine ⟨rfl,_,rfl,_,_,rfl,rfl,pL (by decide),_,_,_,rfl,rfl,key,?_⟩
 have b0:=Int.fmod_nonneg_of_pos (c.fdiv 6) (show (0:Int) < 59 by decide)
 have b1:=Int.fmod_lt_of_pos (c.fdiv 6) (show (0:Int) < 59 by decide)
 have c0:=Int.fmod_nonneg_of_pos (c.fdiv 6) (show (0:Int) < 30 by decide)
 have c1:=Int.fmod_lt_of_pos (c.fdiv 6) (show (0:Int) < 30 by decide)
 have d0:=Int.fmod_nonneg_of_pos (c.fdiv 6) (show (0:Int) < 9 by decide)
 have d1:=Int.fmod_lt_of_pos (c.fdiv 6) (show (0:Int) < 9 by decide)
 cases k
 all_goals walk_at "rd"
 ·exact q .plain _ ⟨by show (2:Int) ≤ _; omega,by show _ ≤ (60:Int); omega⟩
 ·exact q .below _ ⟨by show (2:Int) ≤ _; omega,by show _ ≤ (60:Int); omega⟩
 ·exact q .balanced _ ⟨by show (1:Int) ≤ _; omega,by show _ ≤ (30:Int); omega⟩
 ·exact q .growing _ ⟨by show (2:Int) ≤ _; omega,by show _ ≤ (60:Int); omega⟩
 ·exact q .falling _ ⟨by show (1:Int) ≤ _; omega,by show _ ≤ (9:Int); omega⟩
 ·exact q .pairs _ ⟨by show (1:Int) ≤ _; omega,by show _ ≤ (9:Int); omega⟩
abbrev xo:Stmt:=top 47
theorem sN:zi ["_law_script","_law_k"] ["_law_script","_law_k"] (defScope xo):=by walk_at "sc"
theorem sU (T:Txt K mg A) (F:Fun K "_law_cell_at" "_law_cell_at" xo f fd):FnOk P w K mg base CX0 1 f fd ["_law_script","_law_k"] (zv K (cM)):=by
 refine okD F sN (fun ds Q h=>?_) (fun cdv A' outer s H E hr ds Q h=>?_)
 ·obtain ⟨ns,k,rfl,hk,q⟩:=h
  rfl
 obtain ⟨ns,k,rfl,hk,q⟩:=h
 refine ⟨_,(zd (zD (zw (iH) (dv 1) (yN rfl T.len (dv 0)) (zu _)) (zg (zk (zB (dv 0) (dv 1) (fun _ _=>rfl)))) zq)
 (zg (zk ze))),?_⟩
 walk_at "rd"
 refine VD (fun hlt=>?_) (fun _=>q 0)
 have hlt:k < (ns.map Dt.int).length:=of_decide_eq_true hlt
 rw [List.length_map] at hlt
 exact ⟨_,rfl,_,rfl,_,_,_,rfl,rfl,uv hk hlt,q _⟩
abbrev uE:Stmt:=top 50
theorem lx:zi ["_law_name","_law_number"] ["_law_name","_law_number"] (defScope uE):=by walk_at "sc"
theorem lL (T:Txt K mg A) (F:Fun K "_law_low" "_law_low" uE f fd):FnOk P w K mg base CX0 1 f fd ["_law_name","_law_number"] (zv K (o7)):=by
 refine okD F lx (fun ds Q h=>?_) (fun cdv A' outer s H E hr ds Q h=>?_)
 ·obtain ⟨k,n,p,rfl,q⟩:=h
  rfl
 obtain ⟨k,n,p,rfl,q⟩:=h
 refine ⟨_,(zd (zD (zw (yP) (dv 0) zy (zu _)) (zg (zk (zj yi ze (dv 1)))) zq)
 (zg (zk ze))),?_⟩
 have e0:(0:Int) - n=-n:=by omega
 cases k
 all_goals
  walk_at "rd"
  first
  | exact q
  | (dsimp only; rw [e0]; exact q)
abbrev ve:Stmt:=top 51
theorem nv:zi ["_law_name","_law_number","_law_place"] ["_law_name","_law_number","_law_place"] (defScope ve):=by walk_at "sc"
theorem nL (T:Txt K mg A) (F:Fun K "_law_high" "_law_high" ve f fd):FnOk P w K mg base CX0 1 f fd ["_law_name","_law_number","_law_place"] (zv K (sD)):=by
 refine okD F nv (fun ds Q h=>?_) (fun cdv A' outer s H E hr ds Q h=>?_)
 ·obtain ⟨k,n,p,rfl,hn,q⟩:=h
  rfl
 obtain ⟨k,n,p,rfl,hn,q⟩:=h
 refine ⟨_,(zd (zD (zw fO (dv 0) (zN (zb zy (zb zy zf))) (by with_unfolding_all rfl)) (zg (zk (zj yi (dv 1) ze))) zq)
 (zd (zD (zw (yP) (dv 0) zy (zu _)) (zg (zk (zj yi (zj zU (dv 1) (dv 2)) ze))) zq)
 (zd (zD (zw (yP) (dv 0) zy (zu _)) (zg (zk (zj ya (dv 1) (dv 1)))) zq)
 (zg (zk (dv 1)))))),?_⟩
 obtain ⟨b1,b2⟩:=wa hn
 cases k
 all_goals
  repeat (first | (walk_at "rd1") | refine ⟨small (by omega) (by omega) _,?_⟩)
  exact q
abbrev xR:Stmt:=top 55
theorem sc_law_row_by:zi ["_law_name","_law_number","_law_cells","_law_row","_law_place","_law_low_here"] ["_law_name","_law_number","_law_cells"] (defScope xR):=by walk_at "sc"
theorem qk (T:Txt K mg A) (G__law_low:DOk P w K mg base 1 "_law_low" (o7)) (G__law_high:DOk P w K mg base 1 "_law_high" (sD)) (F:Fun K "_law_row_by" "_law_row_by" xR f fd):FnOk P w K mg base CX0 2 f fd ["_law_name","_law_number","_law_cells"] (zv K (mY)):=by
 refine okD F sc_law_row_by (fun ds Q h=>?_) (fun cdv A' outer s H E hr ds Q h=>?_)
 ·obtain ⟨k,n,cs,rfl,hn,hl,q⟩:=h
  rfl
 obtain ⟨k,n,cs,rfl,hn,hl,q⟩:=h
 refine ⟨_,(zd (x_ (i:=3) sc_law_row_by.nd rfl (Or.inl rfl) (u_ zf))
 (zd (ur (j:=4) rfl sc_law_row_by.nd rfl (Or.inl rfl) PassesOwn.never rfl T.range (yN rfl T.len (dv 2)) (zd (zr (i:=5) sc_law_row_by.nd rfl (Or.inl rfl) (zo G__law_low (hr.mono (by decide)) rfl (zb (dv 0) (zb (dv 1) zf))))
 (zg (vB 3 (zj zU (dv 5) (zj yJ (zj yJ (zj ya (zB (dv 2) (dv 4) (fun _ _=>rfl)) ze) ze) (zj zU (zj yi (zo G__law_high (hr.mono (by decide)) rfl (zb (dv 0) (zb (dv 1) (zb (dv 4) zf)))) (dv 5)) ze)))))))
 (zd (aN (j:=4) rfl sc_law_row_by.nd rfl (Or.inl rfl) PassesOwn.never rfl T.range (zb (zj yi (sx 3 rfl T.len) ze) (zb ze (zb (xA ze) zf))) (zg (zD (DW.dt (yk (zw (yP) (dv 0) zy (zu _)) (z7 (zw (wx hr) (jj 3 (dv 4) (fun _ _=>rfl)) (dv 1) (zu _))))) (zg (X9 3 (zj yi (dv 4) ze) ze)) zq)))
 (zd (rK PassesOwn.never (DW.dt (yk (zw (bu) (sx 3 rfl T.len) ze (zu _)) (z7 (zw (wx hr) (jj 3 (xA ze) (fun _ _=>rfl)) ze (zu _))))) (zg (dW 3)))
 (zg (su 3)))))),?_⟩
 have ll:=zL cs
 walk_at "rd"
 refine ⟨_,fun i ρ=>∃ (r:List Int) (v4 v5:Sl),ρ=[.some (.str k.nam),.some (.int n),.some (zH cs),.own (r.map Dt.int),v4,v5]∧r.length=i∧∀ p,p < i→k.low n p ≤ r.getD p 0∧r.getD p 0 ≤ k.high n p,rfl,by omega,by omega,⟨[],_,_,rfl,rfl,fun p hp=>absurd hp (Nat.not_lt_zero _)⟩,?_,?_⟩
 ·rintro i ρ' hi ⟨r,v4,v5,rfl,hlr,hp⟩
  have hi':i < cs.length:=by omega
  obtain ⟨l1,l2⟩:=oQ hn i
  refine ⟨_,rfl,_,rfl,k,n,i,rfl,?_⟩
  refine ⟨_,rfl,_,rfl,_,rfl,_,rfl,_,_,_,rfl,rfl,vg hi',_,_,rfl,rfl,XT (by decide),_,_,rfl,rfl,pL (by decide),?_⟩
  refine ⟨_,rfl,_,rfl,_,rfl,k,n,i,rfl,hn,_,rfl,_,_,rfl,rfl,_,_,rfl,rfl,?_⟩
  have hp0:(0:Int) < k.high n i - k.low n i + 1:=by omega
  have f0:=Int.fmod_nonneg_of_pos ((cs.getD i 0 * 48271).fmod 2147483647) hp0
  have f1:=Int.fmod_lt_of_pos ((cs.getD i 0 * 48271).fmod 2147483647) hp0
  refine ⟨_,_,rfl,rfl,(by show k.high n i - k.low n i + 1 ≠ 0; omega),_,_,rfl,rfl,by rw [zL]; omega,?_⟩
  obtain ⟨r',e1,e2,e3⟩:=Fg.snoc hlr hp (f:=k.low n i + ((cs.getD i 0 * 48271).fmod 2147483647).fmod (k.high n i - k.low n i + 1)) ⟨by omega,by omega⟩
  exact ⟨r',_,_,by rw [← e1]; rfl,e2,e3⟩
 ·rintro ρ' ⟨r0,v4,v5,rfl,hl0,hp0⟩
  rw [Int.toNat_natCast,ll] at hl0 hp0
  have hF0:Fg k n r0:=fun p hp=>hp0 p (by omega)
  have l0:=zL r0
  walk_at "rd"
  refine ⟨_,_,fun i ρ=>∃ (r:List Int) (v4:Sl),ρ=[.some (.str k.nam),.some (.int n),.some (zH cs),.own (r.map Dt.int),v4,v5]∧r.length=r0.length∧Fg k n r∧Fl k n r i,rfl,by omega,by omega,by decide,by decide,⟨r0,_,rfl,rfl,hF0,fun _ q h1 h2=>by omega⟩,?_,?_⟩
  ·rintro i ρ' hi ⟨r,v4,rfl,hr1,hF,hL⟩
   have lr:=zL r
   obtain ⟨p,hp⟩:∃ p:Nat,p + i + 1=r0.length:=⟨r0.length - 1 - i,by omega⟩
   have ep:((List.map Dt.int r0).length:Int) - 1 - i=p:=by omega
   rw [ep]
   have h0:0 < p:=by omega
   have done:(k.isF=true→r.getD p 0 ≠ n∨r.getD (p - 1) 0=0)→Fl k n r (i + 1):=fun hz hk q h1 h2 h3=>by
    rcases (by omega:r.length ≤ q + 1 + i∨q + 1=p) with z | z
    ·exact hL hk q z h2 h3
    ·subst z
     rcases hz hk with hz | hz
     ·exact absurd h3 hz
     ·exact hz
   by_cases hk:k=.falling
   ·subst hk
    refine ⟨_,rfl,_,_,rfl,rfl,_,rfl,ifT rfl ?_⟩
    refine ⟨_,rfl,_,rfl,_,_,rfl,uv (by omega) (by omega),_,rfl,rfl,rfl,_,rfl,?_⟩
    rw [Int.toNat_natCast]
    refine ifB (fun h4=>?_) (fun h4=>⟨r,_,rfl,hr1,hF,done fun _=>.inl (uO h4)⟩)
    refine ⟨_,rfl,_,rfl,_,_,rfl,rfl,_,_,rfl,aC (by omega) (by rw [zL]; omega),?_⟩
    have e1:((p:Int) - 1).toNat=p - 1:=by omega
    rw [e1,ff]
    refine ⟨r.set (p - 1) 0,_,rfl,by rw [List.length_set]; exact hr1,hF.put hn _,fun hk q h1 h2 h3=>?_⟩
    rw [List.length_set] at h1 h2
    rcases (by omega:r.length ≤ q + 1 + i∨q + 1=p) with z | z
    ·exact (hL.put hn (show p - 1 + i < r.length by omega)) hk q (by rw [List.length_set]; exact z) (by rw [List.length_set]; exact h2) h3
    ·subst z
     exact yt (by omega)
   ·have en:(k.nam == Str.ofString "falling")=false:=by cases k <;> first | rfl | exact absurd rfl hk
    exact ⟨_,rfl,_,_,rfl,rfl,_,rfl,ifF en (ifF rfl ⟨r,_,rfl,hr1,hF,done fun h=>absurd (by cases k <;> first | rfl | cases h) hk⟩)⟩
  ·rintro ρ' ⟨r,v4,rfl,hr1,hF,hL⟩
   refine lf rfl ?_
   have:=sJ r
   have hg:Lg k n r:=⟨hF,fun hk q h1 h2=>hL hk q (by omega) h1 h2⟩
   exact ⟨_,rfl,q _ hg.trim (by omega)⟩
abbrev xQ:Stmt:=top 56
theorem sc_law_spoilt:zi ["_law_name","_law_number","_law_row","_law_cell","_law_at","_law_beyond"] ["_law_name","_law_number","_law_row","_law_cell"] (defScope xQ):=by walk_at "sc"
theorem qj (T:Txt K mg A) (G__law_high:DOk P w K mg base 1 "_law_high" (sD)) (G__law_low:DOk P w K mg base 1 "_law_low" (o7)) (F:Fun K "_law_spoilt" "_law_spoilt" xQ f fd):FnOk P w K mg base CX0 2 f fd ["_law_name","_law_number","_law_row","_law_cell"] (zv K (pS)):=by
 refine okD F sc_law_spoilt (fun ds Q h=>?_) (fun cdv A' outer s H E hr ds Q h=>?_)
 ·obtain ⟨k,n,r,c,rfl,hn,hl,q⟩:=h
  rfl
 obtain ⟨k,n,r,c,rfl,hn,hl,q⟩:=h
 refine ⟨_,(zd (zr (i:=4) sc_law_spoilt.nd rfl (Or.inl rfl) (zj yJ (zj xw (dv 3) ze) (zj zU (yN rfl T.len (dv 2)) ze)))
 (zd (zD (zw (wx hr) (zj yJ (dv 3) ze) ze (zu _)) (zg (zk (zj vR (dv 2) (DF.de (Wa (zN (zb ze zf)) (zj zU ze (zj yJ (zj xw (dv 3) ze) ze))))))) zq)
 (zd (zr (i:=5) sc_law_spoilt.nd rfl (Or.inl rfl) (zj zU (zj zU (zo G__law_high (hr.mono (by decide)) rfl (zb (dv 0) (zb (dv 1) (zb (dv 4) zf)))) ze) (zj yJ (zj xw (dv 3) ze) (zj Zu ze ze))))
 (yb (zD (zw (wx hr) (zj yJ (dv 3) ze) ze (zu _)) (zg (zr (i:=5) sc_law_spoilt.nd rfl (Or.inl rfl) (zj yi (zj yi (zo G__law_low (hr.mono (by decide)) rfl (zb (dv 0) (zb (dv 1) zf))) ze) (zj yJ (zj xw (dv 3) ze) (zj Zu ze ze))))) zq)
 (zg (zk (zj vR (zj vR (rN (dv 2) jP (sv (dv 4))) (zN (zb (dv 5) zf))) (rN (dv 2) (sv (zj zU (dv 4) ze)) jP)))))))),?_⟩
 have ll:=zL r
 obtain ⟨b1,b2⟩:=wa hn
 have hp:(0:Int) < (r.length:Int) + 1:=by omega
 have a0:=Int.fmod_nonneg_of_pos (c.fdiv 4) hp
 have a1:=Int.fmod_lt_of_pos (c.fdiv 4) hp
 obtain ⟨a,ea⟩:∃ a:Nat,(c.fdiv 4).fmod ((r.length:Int) + 1)=a:=⟨_,(Int.toNat_of_nonneg a0).symm⟩
 have ha:a ≤ r.length:=by omega
 have z0:=Int.fmod_nonneg_of_pos (c.fdiv 4) (show (0:Int) < 3 by decide)
 have z1:=Int.fmod_lt_of_pos (c.fdiv 4) (show (0:Int) < 3 by decide)
 have t0:=Int.fmod_nonneg_of_pos (c.fdiv 40) (show (0:Int) < 10 ^ 20 by decide)
 walk_at "rd"
 rw [ll]
 refine ⟨(by show (r.length:Int) + 1 ≠ 0; omega),?_⟩
 dsimp only
 rw [ea]
 walk_at "rd"
 refine ifB (fun h=>?_) (fun h=>?_)
 ·refine ⟨_,rfl,?_⟩
  walk_at "rd"
  refine ⟨by omega,by omega,by show 1 * _ ≤ _; omega,?_⟩
  obtain ⟨m,hm⟩:∃ m:Nat,(1 + (c.fdiv 4).fmod 3).toNat=m + 1:=⟨(c.fdiv 4).fmod 3 |>.toNat,by omega⟩
  rw [hm,fo]
  refine ⟨_,_,rfl,rfl,by rw [ll,zL,List.length_replicate]; omega,?_⟩
  rw [rR]
  exact q _ (cy m) (by rw [List.length_append,List.length_replicate]; omega)
 refine ⟨_,rfl,_,rfl,_,rfl,k,n,a,rfl,hn,?_⟩
 walk_at "rd"
 refine ⟨fun ρ=>∃ x:Int,ρ=[.some (.str k.nam),.some (.int n),.some (zH r),.some (.int c),.some (.int a),.some (.int x)]∧(x < k.low n a∨k.high n a < x),?_,?_⟩
 ·walk_at "rd"
  refine ifB (fun h2=>?_) (fun h2=>⟨_,rfl,.inr (by show _ < k.high n a + 1 + (c.fdiv 40).fmod (10 ^ 20); omega)⟩)
  refine ⟨_,rfl,_,rfl,k,n,a,rfl,?_⟩
  walk_at "rd"
  exact .inl (by show k.low n a - 1 - (c.fdiv 40).fmod (10 ^ 20) < _; omega)
 ·rintro ρ ⟨x,rfl,hx⟩
  walk_at "rd"
  rw [cj,show [Dt.int x]=[x].map Dt.int from rfl]
  have l1:(r.take a).length=a:=by rw [List.length_take]; omega
  refine ⟨by rw [zL,l1]; show _ + 1 ≤ _; omega,?_⟩
  refine ⟨_,rfl,_,rfl,_,_,rfl,rfl,_,rfl,_,rfl,?_⟩
  rw [show ((a:Int) + 1)=((a + 1:Nat):Int) by omega,cn,rR]
  refine ⟨_,_,rfl,rfl,?_,?_⟩
  rotate_left
  ·rw [rR]
   refine q _ (Zb ha hx) ?_
   rw [List.length_append,List.length_append,List.length_drop,l1]; show _ + 1 + _ ≤ _; omega
  ·rw [zL,zL,List.length_append,List.length_drop,l1]; show _ + 1 + _ ≤ _; omega
abbrev vd:Stmt:=top 53
theorem nu:zi ["_law_name","_law_number","_law_place","_law_here","_law_lower"] ["_law_name","_law_number","_law_place","_law_here","_law_lower"] (defScope vd):=by walk_at "sc"
theorem nK (T:Txt K mg A) (F:Fun K "_law_next" "_law_next" vd f fd):FnOk P w K mg base CX0 1 f fd ["_law_name","_law_number","_law_place","_law_here","_law_lower"] (zv K (j5)):=by
 refine okD F nu (fun ds Q h=>?_) (fun cdv A' outer s H E hr ds Q h=>?_)
 ·obtain ⟨k,n,j,lo,rfl,hn,hj,⟨c,d,rfl,hlo⟩,q⟩:=h
  rfl
 obtain ⟨k,n,j,lo,rfl,hn,hj,⟨c,d,rfl,hlo⟩,q⟩:=h
 refine ⟨_,(zd (zD (zw (yP) (dv 0) zy (zu _)) (zg (zk (zC (zb (zj ya (zB (dv 3) ze (fun _ _=>rfl)) (dv 1)) (zb ze zf))))) zq)
 (zd (zD (zw (yP) (dv 0) zy (zu _)) (zg (zk (zC (zb (zj yi ze (zj ya (zB (dv 3) ze (fun _ _=>rfl)) (dv 1))) (zb ze zf))))) zq)
 (zd (zD (zw (yP) (dv 0) zy (zu _)) (zg (zk (zC (zb (zj ya (zB (dv 3) ze (fun _ _=>rfl)) (zj zU (zj ya ze (dv 1)) ze)) (zb ze zf))))) zq)
 (zd (zD (zw (yP) (dv 0) zy (zu _)) (zg (zk (zC (zb (zj ya (zB (dv 3) ze (fun _ _=>rfl)) (zj zU (dv 1) (dv 2))) (zb ze zf))))) zq)
 (zd (zD (zw (yP) (dv 0) zy (zu _)) (zg (zk (zC (zb (zj zU (zj ya (dv 1) (zB (dv 3) ze (fun _ _=>rfl))) (zB (dv 4) ze (fun _ _=>rfl))) (zb ze zf))))) zq)
 (zg (zk (zC (zb (zj yi (zj yi ze (zj ya (dv 1) (zB (dv 3) ze (fun _ _=>rfl)))) (zB (dv 3) ze (fun _ _=>rfl))) (zb (zj yi (zB (dv 3) ze (fun _ _=>rfl)) (zj ya (dv 1) (zB (dv 3) ze (fun _ _=>rfl)))) zf)))))))))),?_⟩
 obtain ⟨b1,b2⟩:=wa hn
 have e0:(0:Int) - n=-n:=by omega
 cases k with
 | falling=>
  obtain rfl:=hlo rfl
  repeat (first | (walk_at "rd1") | refine ⟨wm (by omega) (by omega) _,?_⟩)
  exact q
 | pairs=>
  obtain ⟨x,y,e⟩:=wt2 (n:=n) j
  have e:wt .pairs n j=.p x y:=e
  have eq_:wt .pairs n (j + 1)=.p (0 - n * x - y) (x - n * y):=by
   rw [yd rfl,e]
   show Nm.p (-n * x - 1 * y) (-n * y + 1 * x)=_
   congr 1 <;> grind
  rw [eq_] at q
  rw [e]
  repeat (first | (walk_at "rd1") | refine ⟨wm (by omega) (by omega) _,?_⟩)
  exact q
 | plain=>
  obtain ⟨x,e⟩:=wtI (k:=.plain) (n:=n) (fun h=>nomatch h) j
  have eq_:wt .plain n (j + 1)=.i (x * n):=by
   rw [yd rfl,e]
   show Nm.i (n * x)=_
   rw [Int.mul_comm]
  rw [eq_] at q
  rw [e]
  repeat (first | (walk_at "rd1") | refine ⟨small (by omega) (by omega) _,?_⟩)
  exact q
 | below=>
  obtain ⟨x,e⟩:=wtI (k:=.below) (n:=n) (fun h=>nomatch h) j
  have eq_:wt .below n (j + 1)=.i (0 - x * n):=by
   rw [yd rfl,e]
   show Nm.i (-n * x)=_
   congr 1
   grind
  rw [eq_] at q
  rw [e]
  repeat (first | (walk_at "rd1") | refine ⟨small (by omega) (by omega) _,?_⟩)
  exact q
 | balanced=>
  obtain ⟨x,e⟩:=wtI (k:=.balanced) (n:=n) (fun h=>nomatch h) j
  have eq_:wt .balanced n (j + 1)=.i (x * (2 * n + 1)):=by
   rw [yd rfl,e]
   show Nm.i ((2 * n + 1) * x)=_
   rw [Int.mul_comm]
  rw [eq_] at q
  rw [e]
  repeat (first | (walk_at "rd1") | refine ⟨small (by omega) (by omega) _,?_⟩)
  exact q
 | growing=>
  obtain ⟨x,e⟩:=wtI (k:=.growing) (n:=n) (fun h=>nomatch h) j
  have eq_:wt .growing n (j + 1)=.i (x * (n + j)):=by
   rw [yd rfl,e]
   show Nm.i ((n + j) * x)=_
   rw [Int.mul_comm]
  rw [eq_] at q
  rw [e]
  repeat (first | (walk_at "rd1") | refine ⟨small (by omega) (by omega) _,?_⟩)
  exact q
abbrev xn:Stmt:=top 54
theorem sc_law_pair_of:zi ["_law_name","_law_number","_law_row","_law_found","_law_here","_law_lower","_law_place","_law_after"] ["_law_name","_law_number","_law_row"] (defScope xn):=by walk_at "sc"
theorem sT (T:Txt K mg A) (G__law_next:DOk P w K mg base 1 "_law_next" (j5)) (F:Fun K "_law_pair_of" "_law_pair_of" xn f fd):FnOk P w K mg base CX0 2 f fd ["_law_name","_law_number","_law_row"] (zv K (cI)):=by
 refine okD F sc_law_pair_of (fun ds Q h=>?_) (fun cdv A' outer s H E hr ds Q h=>?_)
 ·obtain ⟨k,n,r,rfl,hn,hl,hb,q⟩:=h
  rfl
 obtain ⟨k,n,r,rfl,hn,hl,hb,q⟩:=h
 refine ⟨_,(zd (zr (i:=3) sc_law_pair_of.nd rfl (Or.inl rfl) (zC (zb ze (zb ze zf))))
 (zd (zr (i:=4) sc_law_pair_of.nd rfl (Or.inl rfl) (zC (zb ze (zb ze zf))))
 (zd (zr (i:=5) sc_law_pair_of.nd rfl (Or.inl rfl) (zC (zb ze (zb ze zf))))
 (zd (ur (j:=6) rfl sc_law_pair_of.nd rfl (Or.inl rfl) PassesOwn.never rfl T.range (yN rfl T.len (dv 2)) (zd (zr (i:=3) sc_law_pair_of.nd rfl (Or.inl rfl) (zC (zb (zj zU (zB (dv 3) ze (fun _ _=>rfl)) (zj ya (zB (dv 2) (dv 6) (fun _ _=>rfl)) (zB (dv 4) ze (fun _ _=>rfl)))) (zb (zj zU (zB (dv 3) ze (fun _ _=>rfl)) (zj ya (zB (dv 2) (dv 6) (fun _ _=>rfl)) (zB (dv 4) ze (fun _ _=>rfl)))) zf))))
 (zd (zr (i:=7) sc_law_pair_of.nd rfl (Or.inl rfl) (zo G__law_next (hr.mono (by decide)) rfl (zb (dv 0) (zb (dv 1) (zb (dv 6) (zb (dv 4) (zb (dv 5) zf)))))))
 (zd (zr (i:=5) sc_law_pair_of.nd rfl (Or.inl rfl) (dv 4))
 (zg (zr (i:=4) sc_law_pair_of.nd rfl (Or.inl rfl) (dv 7)))))))
 (zg (zk (dv 3))))))),?_⟩
 have ll:=zL r
 walk_at "rd"
 have h0:(wt k n 0).pr=.tup [.int 1,.int 0]:=by cases k <;> rfl
 have h1:(yS k n r 0).pr=.tup [.int 0,.int 0]:=by cases k <;> rfl
 refine ⟨_,fun i ρ=>∃ c d v6 v7,ρ=[.some (.str k.nam),.some (.int n),.some (zH r),.some (yS k n r i).pr,.some (wt k n i).pr,.some (.tup [.int c,.int d]),v6,v7]∧(k=.falling→c=(wtF n i).1),rfl,by omega,by omega,⟨_,_,_,_,by rw [h0,h1]; rfl,fun _=>rfl⟩,?_,?_⟩
 ·rintro i ρ' hi ⟨c,d,v6,v7,rfl,hc⟩
  have hi':i < r.length:=by omega
  have wb:=Zk hn (j:=i) (by omega)
  have m1:IntMulOk (r.getD i 0) (wt k n i).re:=uX (oZ hb i) wb.1 (by omega)
  have m2:IntMulOk (r.getD i 0) (wt k n i).im:=uX (oZ hb i) wb.2 (by omega)
  have es:(yS k n r (i + 1)).pr=.tup [.int ((yS k n r i).re + r.getD i 0 * (wt k n i).re),.int ((yS k n r i).im + r.getD i 0 * (wt k n i).im)]:=by
   unfold Nm.pr
   rw [show yS k n r (i + 1)=(yS k n r i).add ((Nm.i (r.getD i 0)).mul (wt k n i)) from rfl,yB,yO,zM,zR]
   show Dt.tup [.int ((yS k n r i).re + (r.getD i 0 * (wt k n i).re - 0 * (wt k n i).im)),.int ((yS k n r i).im + (r.getD i 0 * (wt k n i).im + 0 * (wt k n i).re))]=_
   rw [Int.zero_mul,Int.zero_mul,Int.sub_zero,Int.add_zero]
  walk_at "rd"
  refine ⟨_,_,_,rfl,rfl,vg hi',?_⟩
  walk_at "rd"
  refine ⟨m1,?_⟩
  walk_at "rd"
  refine ⟨_,_,_,rfl,rfl,vg hi',?_⟩
  walk_at "rd"
  refine ⟨m2,?_⟩
  walk_at "rd"
  refine ⟨k,n,i,_,rfl,hn,by omega,⟨c,d,rfl,hc⟩,?_⟩
  walk_at "rd"
  refine ⟨(wt k n i).re,(wt k n i).im,_,_,by rw [es]; rfl,fun hk=>?_⟩
  subst hk
  rfl
 ·rintro ρ' ⟨c,d,v6,v7,rfl,hc⟩
  rw [Int.toNat_natCast,ll]
  exact ⟨_,rfl,q⟩
abbrev vf:Stmt:=top 1
theorem nA:zi ["value"] ["value"] (defScope vf):=by walk_at "sc"
theorem nM (T:Txt K mg A) (F:Fun K "is_whole" "is_whole" vf f fd):FnOk P w K mg base CX0 1 f fd ["value"] (zv K (yZ)):=by
 refine okD F nA (fun ds Q h=>?_) (fun cdv A' outer s H E hr ds Q h=>?_)
 ·obtain ⟨d,b,rfl,hw,q⟩:=h
  rfl
 obtain ⟨d,b,rfl,hw,q⟩:=h
 refine ⟨_,(zg (zk (tm (tj (T:=.int) T.kt T.isinstance T.n_int PyProof.Rows.boot_int (dv 0)) (rO (d7 (tj (T:=.bool) T.kt T.isinstance T.n_bool PyProof.Rows.boot_bool (dv 0))))))),?_⟩
 cases d <;> cases hw
 all_goals
  walk_at "rd"
  exact q
abbrev uG:Stmt:=top 21
theorem lz:zi ["number","least","most"] ["number","least","most"] (defScope uG):=by walk_at "sc"
theorem lN (T:Txt K mg A) (G_is_whole:DOk P w K mg base 1 "is_whole" (yZ)) (F:Fun K "bounded" "bounded" uG f fd):FnOk P w K mg base CX0 2 f fd ["number","least","most"] (zv K (yG)):=by
 refine okD F lz (fun ds Q h=>?_) (fun cdv A' outer s H E hr ds Q h=>?_)
 ·obtain ⟨n,lo,hi,rfl,h1,h2,q⟩:=h
  rfl
 obtain ⟨n,lo,hi,rfl,h1,h2,q⟩:=h
 refine ⟨_,(zd (zD (DW.dt (rJ (x9 (zW (zo G_is_whole (hr.mono (by decide)) rfl (zb (dv 0) zf)))) (rJ (zw (iH) (dv 0) (dv 1) (zu _)) (u8 (zw (bu) (dv 0) (dv 2) (zu _)))))) (zg rL) zq)
 (zg (zk (dv 0)))),?_⟩
 walk_at "rd"
 rw [decide_eq_false (by omega:¬ n < lo)]
 walk_at "rd"
 rw [decide_eq_false (by omega:¬ hi < n)]
 walk_at "rd"
 exact q
abbrev yT:Stmt:=inClass (top 23) 0
theorem qc:zi ["self","base"] ["self","base"] (defScope yT):=by walk_at "sc"
theorem qo (T:Txt K mg A) (G_bounded:DOk P w K mg base 2 "bounded" (yG)) (F:Fun K "__init__" "Plain.__init__" yT f fd):FnOk P w K mg base CX0 3 f fd ["self","base"] (xl A.Plain "base" (Kd.ok .plain)):=by
 refine wP F qc T.cl_Plain T.na_Plain (fun cdv A outer s H E hr=>?_)
 obtain ⟨te,p,l⟩:=((zo G_bounded (hr.mono (by decide)) rfl (zb (dv 1) (zb ze (zb ze zf)))):DE (yC CX0 P w K mg base ["self","base"] "Plain.__init__" (defScope yT) f cdv A outer s H E).nox _ _)
 refine ⟨te,_,xY (uK (pv 0) p rfl),l,fun i hi=>?_⟩
 exact ⟨_,rfl,_,_,_,rfl,hi.1,hi.2,rfl⟩
abbrev yV:Stmt:=inClass (top 24) 0
theorem qg:zi ["self","base"] ["self","base"] (defScope yV):=by walk_at "sc"
theorem qt (T:Txt K mg A) (G_bounded:DOk P w K mg base 2 "bounded" (yG)) (F:Fun K "__init__" "Below.__init__" yV f fd):FnOk P w K mg base CX0 3 f fd ["self","base"] (xl A.Below "base" (Kd.ok .below)):=by
 refine wP F qg T.cl_Below T.na_Below (fun cdv A outer s H E hr=>?_)
 obtain ⟨te,p,l⟩:=((zo G_bounded (hr.mono (by decide)) rfl (zb (dv 1) (zb ze (zb ze zf)))):DE (yC CX0 P w K mg base ["self","base"] "Below.__init__" (defScope yV) f cdv A outer s H E).nox _ _)
 refine ⟨te,_,xY (uK (pv 0) p rfl),l,fun i hi=>?_⟩
 exact ⟨_,rfl,_,_,_,rfl,hi.1,hi.2,rfl⟩
abbrev yn:Stmt:=inClass (top 25) 0
theorem uy:zi ["self","half"] ["self","half"] (defScope yn):=by walk_at "sc"
theorem uM (T:Txt K mg A) (G_bounded:DOk P w K mg base 2 "bounded" (yG)) (F:Fun K "__init__" "Balanced.__init__" yn f fd):FnOk P w K mg base CX0 3 f fd ["self","half"] (xl A.Balanced "half" (Kd.ok .balanced)):=by
 refine wP F uy T.cl_Balanced T.na_Balanced (fun cdv A outer s H E hr=>?_)
 obtain ⟨te,p,l⟩:=((zo G_bounded (hr.mono (by decide)) rfl (zb (dv 1) (zb ze (zb ze zf)))):DE (yC CX0 P w K mg base ["self","half"] "Balanced.__init__" (defScope yn) f cdv A outer s H E).nox _ _)
 refine ⟨te,_,xY (uK (pv 0) p rfl),l,fun i hi=>?_⟩
 exact ⟨_,rfl,_,_,_,rfl,hi.1,hi.2,rfl⟩
abbrev yw:Stmt:=inClass (top 26) 0
theorem tI:zi ["self","first"] ["self","first"] (defScope yw):=by walk_at "sc"
theorem tP (T:Txt K mg A) (G_bounded:DOk P w K mg base 2 "bounded" (yG)) (F:Fun K "__init__" "Growing.__init__" yw f fd):FnOk P w K mg base CX0 3 f fd ["self","first"] (xl A.Growing "first" (Kd.ok .growing)):=by
 refine wP F tI T.cl_Growing T.na_Growing (fun cdv A outer s H E hr=>?_)
 obtain ⟨te,p,l⟩:=((zo G_bounded (hr.mono (by decide)) rfl (zb (dv 1) (zb ze (zb ze zf)))):DE (yC CX0 P w K mg base ["self","first"] "Growing.__init__" (defScope yw) f cdv A outer s H E).nox _ _)
 refine ⟨te,_,xY (uK (pv 0) p rfl),l,fun i hi=>?_⟩
 exact ⟨_,rfl,_,_,_,rfl,hi.1,hi.2,rfl⟩
abbrev yy:Stmt:=inClass (top 27) 0
theorem tK:zi ["self","most"] ["self","most"] (defScope yy):=by walk_at "sc"
theorem tR (T:Txt K mg A) (G_bounded:DOk P w K mg base 2 "bounded" (yG)) (F:Fun K "__init__" "Falling.__init__" yy f fd):FnOk P w K mg base CX0 3 f fd ["self","most"] (xl A.Falling "most" (Kd.ok .falling)):=by
 refine wP F tK T.cl_Falling T.na_Falling (fun cdv A outer s H E hr=>?_)
 obtain ⟨te,p,l⟩:=((zo G_bounded (hr.mono (by decide)) rfl (zb (dv 1) (zb ze (zb ze zf)))):DE (yC CX0 P w K mg base ["self","most"] "Falling.__init__" (defScope yy) f cdv A outer s H E).nox _ _)
 refine ⟨te,_,xY (uK (pv 0) p rfl),l,fun i hi=>?_⟩
 exact ⟨_,rfl,_,_,_,rfl,hi.1,hi.2,rfl⟩
abbrev yU:Stmt:=inClass (top 28) 0
theorem qe:zi ["self","most"] ["self","most"] (defScope yU):=by walk_at "sc"
theorem qr (T:Txt K mg A) (G_bounded:DOk P w K mg base 2 "bounded" (yG)) (F:Fun K "__init__" "Pairs.__init__" yU f fd):FnOk P w K mg base CX0 3 f fd ["self","most"] (xl A.Pairs "most" (Kd.ok .pairs)):=by
 refine wP F qe T.cl_Pairs T.na_Pairs (fun cdv A outer s H E hr=>?_)
 obtain ⟨te,p,l⟩:=((zo G_bounded (hr.mono (by decide)) rfl (zb (dv 1) (zb ze (zb ze zf)))):DE (yC CX0 P w K mg base ["self","most"] "Pairs.__init__" (defScope yU) f cdv A outer s H E).nox _ _)
 refine ⟨te,_,xY (uK (pv 0) p rfl),l,fun i hi=>?_⟩
 exact ⟨_,rfl,_,_,_,rfl,hi.1,hi.2,rfl⟩
abbrev uD:Stmt:=top 49
theorem lv:zi ["_law_name","_law_number"] ["_law_name","_law_number"] (defScope uD):=by walk_at "sc"
theorem lK (T:Txt K mg A) (M_Plain:KOk P w K mg base 3 "Plain" A.Plain "base" (Kd.ok .plain)) (M_Below:KOk P w K mg base 3 "Below" A.Below "base" (Kd.ok .below)) (M_Balanced:KOk P w K mg base 3 "Balanced" A.Balanced "half" (Kd.ok .balanced)) (M_Growing:KOk P w K mg base 3 "Growing" A.Growing "first" (Kd.ok .growing)) (M_Falling:KOk P w K mg base 3 "Falling" A.Falling "most" (Kd.ok .falling)) (M_Pairs:KOk P w K mg base 3 "Pairs" A.Pairs "most" (Kd.ok .pairs)) (F:Fun K "_law_way" "_law_way" uD f fd):FnOk P w K mg base CX0 5 f fd ["_law_name","_law_number"] (zv K (cE A)):=by
 refine okD F lv (fun ds Q h=>?_) (fun cdv A' outer s H E hr ds Q h=>?_)
 ·obtain ⟨k,n,rfl,hn,q⟩:=h
  rfl
 obtain ⟨k,n,rfl,hn,q⟩:=h
 refine ⟨_,(zd (zD (zw (yP) (dv 0) zy (zu _)) (zg (zk (w4 M_Plain (hr.mono (by decide)) rfl (zb (dv 1) zf)))) zq)
 (zd (zD (zw (yP) (dv 0) zy (zu _)) (zg (zk (w4 M_Below (hr.mono (by decide)) rfl (zb (dv 1) zf)))) zq)
 (zd (zD (zw (yP) (dv 0) zy (zu _)) (zg (zk (w4 M_Balanced (hr.mono (by decide)) rfl (zb (dv 1) zf)))) zq)
 (zd (zD (zw (yP) (dv 0) zy (zu _)) (zg (zk (w4 M_Growing (hr.mono (by decide)) rfl (zb (dv 1) zf)))) zq)
 (zd (zD (zw (yP) (dv 0) zy (zu _)) (zg (zk (w4 M_Falling (hr.mono (by decide)) rfl (zb (dv 1) zf)))) zq)
 (zg (zk (w4 M_Pairs (hr.mono (by decide)) rfl (zb (dv 1) zf))))))))),?_⟩
 cases k
 all_goals
  walk_at "rd"
  exact ⟨hn,q⟩
abbrev zG:Stmt:=top 37
theorem sc_has_mosts_above_noughts_alone:zi ["way","row","place"] ["way","row"] (defScope zG):=by walk_at "sc"
theorem yA (T:Txt K mg A) (F:Fun K "has_mosts_above_noughts_alone" "has_mosts_above_noughts_alone" zG f fd):FnOk P w K mg base CX0 1 f fd ["way","row"] (zv K (j6 A)):=by
 refine okD F sc_has_mosts_above_noughts_alone (fun ds Q h=>?_) (fun cdv A' outer s H E hr ds Q h=>?_)
 ·obtain ⟨n,r,rfl,hn,hl,q⟩:=h
  rfl
 obtain ⟨n,r,rfl,hn,hl,q⟩:=h
 refine ⟨_,(zd (dX (j:=2) rfl sc_has_mosts_above_noughts_alone.nd rfl (Or.inl rfl) PassesOwn.never rfl T.range (zb ze (zb (yN rfl T.len (dv 1)) zf)) (zg (zD (DW.dt (yk (zw (wx hr) (zB (dv 1) (dv 2) (fun _ _=>rfl)) (zY (dv 0)) (zu _)) (z7 (zw (ox hr) (zB (dv 1) (zj yi (dv 2) ze) (fun _ _=>rfl)) ze (zu _))))) (zg (zk xK)) zq)))
 (zg (zk xK))),?_⟩
 walk_at "rd"
 have ll:=zL r
 refine ⟨_,_,fun i ρ=>∃ v,ρ=[.some (zP A .falling n),.some (zH r),v]∧∀ p:Nat,p < i→r.getD (p + 1) 0=n→r.getD p 0=0,rfl,by decide,by decide,by omega,by omega,⟨_,rfl,fun p hp=>absurd hp (Nat.not_lt_zero _)⟩,?_,?_⟩
 ·rintro i ρ' hi ⟨v,rfl,hp⟩
  rw [ll] at hi
  have e1:(1 + (i:Int)).toNat=i + 1:=by omega
  have e2:(1 + (i:Int) - 1).toNat=i:=by omega
  refine ⟨_,rfl,_,rfl,_,_,_,rfl,rfl,uv (by omega) (by omega),_,rfl,_,_,_,rfl,rfl,T.cl_Falling,T.na_Falling,rfl,rfl,_,rfl,?_⟩
  rw [e1]
  refine ifB (fun h=>?_) (fun h=>ifF rfl ?_)
  ·refine ⟨_,rfl,_,rfl,_,_,rfl,rfl,_,_,_,rfl,rfl,uv (by omega) (by omega),rfl,rfl,_,rfl,?_⟩
   rw [e2]
   refine ifB (fun h'=>?_) (fun h'=>?_)
   ·refine q false ⟨fun z=>(Bool.false_ne_true z).elim,fun z=>?_⟩
    exact absurd (z i (by omega) (sZ h)) (uO (Va h'))
   ·refine ⟨.some (.int (1 + i)),rfl,fun p hp'=>?_⟩
    rcases (by omega:p < i∨p=i) with z | z
    ·exact hp p z
    ·subst z
     exact fun _=>sZ (Vb h')
  ·refine ⟨.some (.int (1 + i)),rfl,fun p hp'=>?_⟩
   rcases (by omega:p < i∨p=i) with z | z
   ·exact hp p z
   ·subst z
    exact fun z=>absurd z (uO h)
 ·rintro ρ' ⟨v,rfl,hp⟩
  rw [ll] at hp
  exact q true ⟨fun _ p hp'=>hp p (by omega),fun _=>rfl⟩
abbrev uI:Stmt:=inClass (top 22) 1
theorem lB:zi ["self","place"] ["self","place"] (defScope uI):=by walk_at "sc"
theorem xi (T:Txt K mg A) (F:Fun K "low" "Way.low" uI f fd):FnOk P w K mg base CX0 1 f fd ["self","place"] (zv K (Wt)):=by
 refine okD F lB (fun ds Q h=>?_) (fun cdv A' outer s H E hr ds Q h=>?_)
 ·obtain ⟨o,p,rfl,q⟩:=h
  rfl
 obtain ⟨o,p,rfl,q⟩:=h
 refine ⟨_,(zg (zk ze)),?_⟩
 exact q
abbrev xf:Stmt:=inClass (top 25) 1
theorem tM:zi ["self","place"] ["self","place"] (defScope xf):=by walk_at "sc"
theorem tT (T:Txt K mg A) (F:Fun K "low" "Balanced.low" xf f fd):FnOk P w K mg base CX0 1 f fd ["self","place"] (zv K (xM A .balanced (Kd.low .balanced))):=by
 refine okD F tM (fun ds Q h=>?_) (fun cdv A' outer s H E hr ds Q h=>?_)
 ·obtain ⟨n,p,rfl,hn,q⟩:=h
  rfl
 obtain ⟨n,p,rfl,hn,q⟩:=h
 refine ⟨_,(zg (zk (xA (zY (dv 0))))),?_⟩
 exact ⟨_,rfl,_,_,_,rfl,rfl,T.cl_Balanced,T.na_Balanced,_,rfl,q⟩
abbrev xV:Stmt:=inClass (top 23) 1
theorem qd:zi ["self","place"] ["self","place"] (defScope xV):=by walk_at "sc"
theorem qp (T:Txt K mg A) (F:Fun K "high" "Plain.high" xV f fd):FnOk P w K mg base CX0 1 f fd ["self","place"] (zv K (xM A .plain (Kd.high .plain))):=by
 refine okD F qd (fun ds Q h=>?_) (fun cdv A' outer s H E hr ds Q h=>?_)
 ·obtain ⟨n,p,rfl,hn,q⟩:=h
  rfl
 obtain ⟨n,p,rfl,hn,q⟩:=h
 refine ⟨_,(zg (zk (zj yi (zY (dv 0)) ze))),?_⟩
 exact ⟨_,rfl,_,_,_,rfl,rfl,T.cl_Plain,T.na_Plain,_,_,rfl,rfl,q⟩
abbrev xX:Stmt:=inClass (top 24) 1
theorem qh:zi ["self","place"] ["self","place"] (defScope xX):=by walk_at "sc"
theorem qu (T:Txt K mg A) (F:Fun K "high" "Below.high" xX f fd):FnOk P w K mg base CX0 1 f fd ["self","place"] (zv K (xM A .below (Kd.high .below))):=by
 refine okD F qh (fun ds Q h=>?_) (fun cdv A' outer s H E hr ds Q h=>?_)
 ·obtain ⟨n,p,rfl,hn,q⟩:=h
  rfl
 obtain ⟨n,p,rfl,hn,q⟩:=h
 refine ⟨_,(zg (zk (zj yi (zY (dv 0)) ze))),?_⟩
 exact ⟨_,rfl,_,_,_,rfl,rfl,T.cl_Below,T.na_Below,_,_,rfl,rfl,q⟩
abbrev yL:Stmt:=inClass (top 25) 2
theorem uz:zi ["self","place"] ["self","place"] (defScope yL):=by walk_at "sc"
theorem uN (T:Txt K mg A) (F:Fun K "high" "Balanced.high" yL f fd):FnOk P w K mg base CX0 1 f fd ["self","place"] (zv K (xM A .balanced (Kd.high .balanced))):=by
 refine okD F uz (fun ds Q h=>?_) (fun cdv A' outer s H E hr ds Q h=>?_)
 ·obtain ⟨n,p,rfl,hn,q⟩:=h
  rfl
 obtain ⟨n,p,rfl,hn,q⟩:=h
 refine ⟨_,(zg (zk (zY (dv 0)))),?_⟩
 exact ⟨_,rfl,_,_,_,rfl,rfl,T.cl_Balanced,T.na_Balanced,q⟩
abbrev xb:Stmt:=inClass (top 26) 1
theorem tJ:zi ["self","place"] ["self","place"] (defScope xb):=by walk_at "sc"
theorem tQ (T:Txt K mg A) (F:Fun K "high" "Growing.high" xb f fd):FnOk P w K mg base CX0 1 f fd ["self","place"] (zv K (xM A .growing (Kd.high .growing))):=by
 refine okD F tJ (fun ds Q h=>?_) (fun cdv A' outer s H E hr ds Q h=>?_)
 ·obtain ⟨n,p,rfl,hn,q⟩:=h
  rfl
 obtain ⟨n,p,rfl,hn,q⟩:=h
 refine ⟨_,(zg (zk (zj yi (zj zU (zY (dv 0)) (dv 1)) ze))),?_⟩
 exact ⟨_,rfl,_,_,_,rfl,rfl,T.cl_Growing,T.na_Growing,_,rfl,_,_,rfl,rfl,_,_,rfl,rfl,q⟩
abbrev xc:Stmt:=inClass (top 27) 1
theorem tL:zi ["self","place"] ["self","place"] (defScope xc):=by walk_at "sc"
theorem tS (T:Txt K mg A) (F:Fun K "high" "Falling.high" xc f fd):FnOk P w K mg base CX0 1 f fd ["self","place"] (zv K (xM A .falling (Kd.high .falling))):=by
 refine okD F tL (fun ds Q h=>?_) (fun cdv A' outer s H E hr ds Q h=>?_)
 ·obtain ⟨n,p,rfl,hn,q⟩:=h
  rfl
 obtain ⟨n,p,rfl,hn,q⟩:=h
 refine ⟨_,(zg (zk (zY (dv 0)))),?_⟩
 exact ⟨_,rfl,_,_,_,rfl,rfl,T.cl_Falling,T.na_Falling,q⟩
abbrev xW:Stmt:=inClass (top 28) 2
theorem qf:zi ["self","place"] ["self","place"] (defScope xW):=by walk_at "sc"
theorem qs (T:Txt K mg A) (F:Fun K "high" "Pairs.high" xW f fd):FnOk P w K mg base CX0 1 f fd ["self","place"] (zv K (xM A .pairs (Kd.high .pairs))):=by
 refine okD F qf (fun ds Q h=>?_) (fun cdv A' outer s H E hr ds Q h=>?_)
 ·obtain ⟨n,p,rfl,hn,q⟩:=h
  rfl
 obtain ⟨n,p,rfl,hn,q⟩:=h
 refine ⟨_,(zg (zk (zj ya (zY (dv 0)) (zY (dv 0))))),?_⟩
 obtain ⟨h1,h2⟩:=wa hn
 exact ⟨_,rfl,_,_,_,rfl,rfl,T.cl_Pairs,T.na_Pairs,_,rfl,_,_,_,rfl,rfl,T.cl_Pairs,T.na_Pairs,_,_,rfl,rfl,small (by omega) (by omega) _,q⟩
abbrev yj:Stmt:=top 36
theorem sc_has_figures_alone:zi ["way","row","place","thing"] ["way","row"] (defScope yj):=by walk_at "sc"
theorem ww (T:Txt K mg A) (HLo:∀ k:Kd,MOk P w K mg base 1 (A.at k) "low" (xM A k (k.low))∧MOk P w K mg base 1 (A.at k) "high" (xM A k (k.high))) (F:Fun K "has_figures_alone" "has_figures_alone" yj f fd):FnOk P w K mg base CX0 2 f fd ["way","row"] (zv K (cL A)):=by
 refine okD F sc_has_figures_alone (fun ds Q h=>?_) (fun cdv A' outer s H E hr ds Q h=>?_)
 ·obtain ⟨k,n,r,rfl,hn,hl,q⟩:=h
  rfl
 obtain ⟨k,n,r,rfl,hn,hl,q⟩:=h
 refine ⟨_,(zd (u9 (i:=2) (j:=3) rfl sc_has_figures_alone.nd rfl rfl (Or.inl rfl) (Or.inl rfl) PassesOwn.never rfl T.n_enumerate (zb (dv 1) zf) (zg (zD (DW.dt (rJ (zw (iH) (dv 3) (yY hr (dv 0) (zb (dv 2) zf)) (zu _)) (u8 (zw (bu) (dv 3) (yY hr (dv 0) (zb (dv 2) zf)) (zu _))))) (zg (zk xK)) zq)))
 (zg (zk xK))),?_⟩
 obtain ⟨M1,M2⟩:=HLo k
 walk_at "rd"
 refine ⟨_,_,fun i ρ=>∃ v u,ρ=[.some (zP A k n),.some (zH r),v,u]∧∀ p:Nat,p < i→k.low n p ≤ r.getD p 0∧r.getD p 0 ≤ k.high n p,rfl,rfl,⟨_,_,rfl,fun p hp=>absurd hp (Nat.not_lt_zero _)⟩,?_,?_⟩
 ·rintro i x ρ' hx ⟨v,u,rfl,hp⟩
  obtain ⟨rfl,hi⟩:=dF hx
  refine ⟨_,rfl,_,rfl,_,_,_,_,rfl,ZE k,M1.mono (by decide),_,rfl,n,i,rfl,hn,_,_,rfl,rfl,_,rfl,?_⟩
  refine ifB (fun h=>ifT rfl ?_) (fun h=>?_)
  ·refine q false ⟨fun z=>(Bool.false_ne_true z).elim,fun z=>?_⟩
   have:=z i hi
   have h:=of_decide_eq_true h
   omega
  ·refine ⟨_,rfl,_,rfl,_,_,_,_,rfl,dQ k,M2.mono (by decide),_,rfl,n,i,rfl,hn,_,_,rfl,rfl,_,rfl,?_⟩
   have h:=of_decide_eq_false h
   refine ifB (fun h'=>?_) (fun h'=>?_)
   ·refine q false ⟨fun z=>(Bool.false_ne_true z).elim,fun z=>?_⟩
    have:=z i hi
    have h':=of_decide_eq_true h'
    omega
   ·have h':=of_decide_eq_false h'
    refine ⟨.some (.int i),.some (.int (r.getD i 0)),rfl,fun p hp'=>?_⟩
    rcases (by omega:p < i∨p=i) with z | z
    ·exact hp p z
    ·subst z
     omega
 ·rintro ρ' ⟨v,u,rfl,hp⟩
  rw [zL] at hp
  exact q true ⟨fun _=>hp,fun _=>rfl⟩
abbrev xT:Stmt:=top 38
theorem rZ:zi ["way","row"] ["way","row"] (defScope xT):=by walk_at "sc"
theorem qm (T:Txt K mg A) (G_has_mosts_above_noughts_alone:DOk P w K mg base 1 "has_mosts_above_noughts_alone" (j6 A)) (G_has_figures_alone:DOk P w K mg base 2 "has_figures_alone" (cL A)) (F:Fun K "is_writing" "is_writing" xT f fd):FnOk P w K mg base CX0 3 f fd ["way","row"] (zv K (ZQ A)):=by
 refine okD F rZ (fun ds Q h=>?_) (fun cdv A' outer s H E hr ds Q h=>?_)
 ·obtain ⟨k,n,r,rfl,hn,hl,q⟩:=h
  rfl
 obtain ⟨k,n,r,rfl,hn,hl,q⟩:=h
 refine ⟨_,(yb (zD (DW.dt (yk (X6 (dv 1)) (z7 (zw (wx hr) (zB (dv 1) (xA ze) (fun _ _=>rfl)) ze (zu _))))) (zg (zk xK)) zq)
 (yb (zD (DW.dt (yk (zW (sy T.isinstance T.gc_Falling (dv 0))) (z7 (x9 (zW (zo G_has_mosts_above_noughts_alone (hr.mono (by decide)) rfl (zb (dv 0) (zb (dv 1) zf)))))))) (zg (zk xK)) zq)
 (zg (zk (zo G_has_figures_alone (hr.mono (by decide)) rfl (zb (dv 0) (zb (dv 1) zf))))))),?_⟩
 refine ⟨fun ρ=>ρ=[.some (zP A k n),.some (zH r)]∧(r=[]∨r.getD (r.length - 1) 0 ≠ 0),?_,?_⟩
 ·walk_at "rd"
  rcases zJ r with rfl | ⟨l,z,rfl⟩
  ·exact ifF rfl (ifF rfl ⟨rfl,.inl rfl⟩)
  ·have ez:(l ++ [z]).getD ((l ++ [z]).length - 1) 0=z:=by rw [List.length_append]; simp [List.getD_eq_getElem?_getD]
   refine ifT (by simp) ⟨_,rfl,_,rfl,_,_,_,rfl,rfl,wJ,rfl,rfl,_,rfl,?_⟩
   by_cases hz:z=0
   ·refine ifT (eqI hz) ?_
    rw [sk (fun L=>by
     rcases L.end_ with h | h
     ·simp at h
     ·rw [ez] at h; exact h hz)] at q
    exact q
   ·refine ifF (neI hz) ⟨rfl,.inr (by rw [ez]; exact hz)⟩
 ·rintro ρ' ⟨rfl,hend⟩
  refine ⟨fun ρ=>ρ=[.some (zP A k n),.some (zH r)]∧(k.isF=true→∀ p,p + 1 < r.length→r.getD (p + 1) 0=n→r.getD p 0=0),?_,?_⟩
  ·refine ⟨_,rfl,_,_,_,_,rfl,jF T k,kiF T k,_,rfl,?_⟩
   cases hk:k.isF with
   | false=>exact ifF rfl (ifF rfl ⟨rfl,fun z=>(Bool.false_ne_true z).elim⟩)
   | true=>
    have ek:k=.falling:=by cases k <;> first | rfl | cases hk
    subst ek
    refine ifT rfl ⟨_,rfl,_,rfl,n,r,rfl,hn,hl,fun b hb=>⟨_,rfl,?_⟩⟩
    cases b with
    | true=>exact ifF rfl ⟨rfl,fun _=>hb.mp rfl⟩
    | false=>
     refine ifT rfl ?_
     rw [sk (fun L=>Bool.false_ne_true (hb.mpr (L.fal rfl)))] at q
     exact q
  ·rintro ρ' ⟨rfl,hf⟩
   refine ⟨_,rfl,_,rfl,k,n,r,rfl,hn,hl,fun b hb=>?_⟩
   cases b with
   | true=>rw [oS ⟨hb.mp rfl,hf,hend⟩] at q; exact q
   | false=>rw [sk (fun L=>Bool.false_ne_true (hb.mpr L.fig))] at q; exact q
abbrev z5:Stmt:=top 39
theorem sc_held_to_be_writings:zi ["way","rows","row"] ["way","rows"] (defScope z5):=by walk_at "sc"
theorem xZ (T:Txt K mg A) (G_is_writing:DOk P w K mg base 3 "is_writing" (ZQ A)) (F:Fun K "held_to_be_writings" "held_to_be_writings" z5 f fd):FnOk P w K mg base (CX1 P w) 4 f fd ["way","rows"] (sG K (j8 A)):=by
 refine QH F sc_held_to_be_writings (fun ds Q R h=>?_) (fun cdv A' outer s H E hr ds Q R h rz=>?_)
 ·obtain ⟨k,n,rs,rfl,hn,hrs,hw⟩:=h
  rfl
 obtain ⟨k,n,rs,rfl,hn,hrs,hw⟩:=h
 refine ⟨_,(zg (X_ (j:=2) rfl sc_held_to_be_writings.nd rfl (Or.inl rfl) QG (dv 1) (zg (zD (x9 (zW (zo G_is_writing (hr.mono (by decide)) rfl (zb (dv 0) (zb (dv 2) zf))))) (zg (mP rfl rfl T.gc_NoWriting T.ex_NoWriting zy)) zq)))),?_⟩
 rcases hw with ⟨hL,q⟩ | ⟨⟨r0,hr0,hnL⟩,hR⟩
 ·refine ⟨_,rfl,_,fun i ρ=>∃ v,ρ=[.some (zP A k n),.some (.lst (rs.map zH)),v],rfl,⟨_,rfl⟩,?_,?_⟩
  ·rintro i e ρ' he ⟨v,rfl⟩
   obtain ⟨r,hm,rfl⟩:=List.mem_map.mp (List.mem_of_getElem? he)
   refine ⟨_,rfl,_,rfl,k,n,r,rfl,hn,hrs r hm,_,rfl,?_⟩
   rw [oS (hL r hm)]
   exact ifF rfl ⟨_,rfl⟩
  ·rintro ρ' ⟨v,rfl⟩
   exact q
 ·refine ⟨_,rfl,_,fun i ρ=>∃ v,ρ=[.some (zP A k n),.some (.lst (rs.map zH)),v]∧∀ (j:Nat) (r:List Int),j < i→rs[j]? = some r→Legal k n r,rfl,⟨_,rfl,fun j _ z=>absurd z (Nat.not_lt_zero _)⟩,?_,?_⟩
  ·rintro i e ρ' he ⟨v,rfl,hb⟩
   rw [List.getElem?_map] at he
   obtain ⟨r,hm,rfl⟩:=Option.map_eq_some_iff.mp he
   refine ⟨_,rfl,_,rfl,k,n,r,rfl,hn,hrs r (List.mem_of_getElem? hm),_,rfl,?_⟩
   by_cases hLr:Legal k n r
   ·rw [oS hLr]
    refine ifF rfl ⟨_,rfl,fun j r' hj hr'=>?_⟩
    rcases (by omega:j < i∨j=i) with z | z
    ·exact hb j r' z hr'
    ·subst z
     rw [hm] at hr'
     cases hr'
     exact hLr
   ·rw [sk hLr]
    exact ifT rfl (rz _ hR)
  ·rintro ρ' ⟨v,rfl,hb⟩
   obtain ⟨j,hj⟩:=List.mem_iff_getElem?.mp hr0
   rw [List.length_map] at hb
   have hlt:j < rs.length:=by
    rcases Nat.lt_or_ge j rs.length with z | z
    ·exact z
    ·rw [List.getElem?_eq_none z] at hj; cases hj
   exact absurd (hb j r0 hlt hj) hnL
abbrev uB:Stmt:=top 31
theorem sc_trimmed:zi ["row","things"] ["row"] (defScope uB):=by walk_at "sc"
theorem lI (T:Txt K mg A) (F:Fun K "trimmed" "trimmed" uB f fd):FnOk P w K mg base CX0 1 f fd ["row"] (y0 K (jp)):=by
 refine okF F sc_trimmed (fun ds Q h=>?_) (fun cdv A' outer s H E hr ds Q h=>?_)
 ·obtain ⟨r,rfl,q⟩:=h
  rfl
 obtain ⟨r,rfl,q⟩:=h
 refine ⟨_,(zd (x_ (i:=1) sc_trimmed.nd rfl (Or.inl rfl) (jR rfl T.n_list (dv 0)))
 (zd (rK PassesOwn.never (DW.dt (yk (aM 1) (z7 (zw (wx hr) (jj 1 (xA ze) (fun _ _=>rfl)) ze (zu _))))) (zg (dW 1)))
 (zg (su 1)))),?_⟩
 refine ⟨_,rfl,_,rfl,_,rfl,?_⟩
 exact nj rfl ⟨_,rfl,q⟩
abbrev uH:Stmt:=top 3
theorem lA:zi ["number"] ["number"] (defScope uH):=by walk_at "sc"
theorem lO (T:Txt K mg A) (G_is_whole:DOk P w K mg base 1 "is_whole" (yZ)) (F:Fun K "as_pair" "as_pair" uH f fd):FnOk P w K mg base CX0 2 f fd ["number"] (zv K (xN)):=by
 refine okD F lA (fun ds Q h=>?_) (fun cdv A' outer s H E hr ds Q h=>?_)
 ·obtain ⟨d,m,rfl,hm,q⟩:=h
  rfl
 obtain ⟨d,m,rfl,hm,q⟩:=h
 refine ⟨_,(zd (zD (zW (zo G_is_whole (hr.mono (by decide)) rfl (zb (dv 0) zf))) (zg (zk (zC (zb (dv 0) (zb ze zf))))) zq)
 (zg (zk (dv 0)))),?_⟩
 obtain rfl:=yH hm
 cases m with
 | i n=>
  walk_at "rd"
  exact q
 | p a b=>
  walk_at "rd"
  exact q
abbrev oe:Stmt:=top 4
theorem sc_added:zi ["one","other","left","right"] ["one","other"] (defScope oe):=by walk_at "sc"
theorem fN (T:Txt K mg A) (G_is_whole:DOk P w K mg base 1 "is_whole" (yZ)) (G_as_pair:DOk P w K mg base 2 "as_pair" (xN)) (F:Fun K "added" "added" oe f fd):FnOk P w K mg base CX0 3 f fd ["one","other"] (zv K (sE)):=by
 refine okD F sc_added (fun ds Q h=>?_) (fun cdv A' outer s H E hr ds Q h=>?_)
 ·obtain ⟨d,e,m,n,rfl,hm,hn,q⟩:=h
  rfl
 obtain ⟨d,e,m,n,rfl,hm,hn,q⟩:=h
 refine ⟨_,(zd (zD (DW.dt (yk (zW (zo G_is_whole (hr.mono (by decide)) rfl (zb (dv 0) zf))) (z7 (zW (zo G_is_whole (hr.mono (by decide)) rfl (zb (dv 1) zf)))))) (zg (zk (zj zU (dv 0) (dv 1)))) zq)
 (zd (zr (i:=2) sc_added.nd rfl (Or.inl rfl) (zo G_as_pair (hr.mono (by decide)) rfl (zb (dv 0) zf)))
 (zd (zr (i:=3) sc_added.nd rfl (Or.inl rfl) (zo G_as_pair (hr.mono (by decide)) rfl (zb (dv 1) zf)))
 (zg (zk (zC (zb (zj zU (zB (dv 2) ze (fun _ _=>rfl)) (zB (dv 3) ze (fun _ _=>rfl))) (zb (zj zU (zB (dv 2) ze (fun _ _=>rfl)) (zB (dv 3) ze (fun _ _=>rfl))) zf)))))))),?_⟩
 obtain rfl:=yH hm
 obtain rfl:=yH hn
 cases m <;> cases n
 all_goals
  walk_at "rd"
  exact q
abbrev xP:Stmt:=top 5
theorem sc_multiplied:zi ["one","other","left","right"] ["one","other"] (defScope xP):=by walk_at "sc"
theorem qi (T:Txt K mg A) (G_is_whole:DOk P w K mg base 1 "is_whole" (yZ)) (G_as_pair:DOk P w K mg base 2 "as_pair" (xN)) (F:Fun K "multiplied" "multiplied" xP f fd):FnOk P w K mg base CX0 3 f fd ["one","other"] (zv K (o6)):=by
 refine okD F sc_multiplied (fun ds Q h=>?_) (fun cdv A' outer s H E hr ds Q h=>?_)
 ·obtain ⟨d,e,m,n,rfl,hm,hn,k1,q⟩:=h
  rfl
 obtain ⟨d,e,m,n,rfl,hm,hn,k1,q⟩:=h
 refine ⟨_,(zd (zD (DW.dt (yk (zW (zo G_is_whole (hr.mono (by decide)) rfl (zb (dv 0) zf))) (z7 (zW (zo G_is_whole (hr.mono (by decide)) rfl (zb (dv 1) zf)))))) (zg (zk (zj ya (dv 0) (dv 1)))) zq)
 (zd (zr (i:=2) sc_multiplied.nd rfl (Or.inl rfl) (zo G_as_pair (hr.mono (by decide)) rfl (zb (dv 0) zf)))
 (zd (zr (i:=3) sc_multiplied.nd rfl (Or.inl rfl) (zo G_as_pair (hr.mono (by decide)) rfl (zb (dv 1) zf)))
 (zg (zk (zC (zb (zj yi (zj ya (zB (dv 2) ze (fun _ _=>rfl)) (zB (dv 3) ze (fun _ _=>rfl))) (zj ya (zB (dv 2) ze (fun _ _=>rfl)) (zB (dv 3) ze (fun _ _=>rfl)))) (zb (zj zU (zj ya (zB (dv 2) ze (fun _ _=>rfl)) (zB (dv 3) ze (fun _ _=>rfl))) (zj ya (zB (dv 2) ze (fun _ _=>rfl)) (zB (dv 3) ze (fun _ _=>rfl)))) zf)))))))),?_⟩
 obtain rfl:=yH hm
 obtain rfl:=yH hn
 obtain ⟨h1,h2,h3,h4⟩:=k1
 cases m <;> cases n
 all_goals
  walk_at "rd"
  first | refine ⟨h1,?_⟩ | skip
  walk_at "rd"
  first | exact q | skip
  try refine ⟨h2,?_⟩
  walk_at "rd"
  try refine ⟨h3,?_⟩
  walk_at "rd"
  try refine ⟨h4,?_⟩
  walk_at "rd"
  try exact q
abbrev xU:Stmt:=inClass (top 22) 0
theorem qa:zi ["self"] ["self"] (defScope xU):=by walk_at "sc"
theorem ym (T:Txt K mg A) (F:Fun K "nought" "Way.nought" xU f fd):FnOk P w K mg base CX0 1 f fd ["self"] (zv K (Qm)):=by
 refine okD F qa (fun ds Q h=>?_) (fun cdv A' outer s H E hr ds Q h=>?_)
 ·obtain ⟨o,rfl,q⟩:=h
  rfl
 obtain ⟨o,rfl,q⟩:=h
 refine ⟨_,(zg (zk ze)),?_⟩
 exact q
abbrev xa:Stmt:=inClass (top 28) 1
theorem tH:zi ["self"] ["self"] (defScope xa):=by walk_at "sc"
theorem tO (T:Txt K mg A) (F:Fun K "nought" "Pairs.nought" xa f fd):FnOk P w K mg base CX0 1 f fd ["self"] (zv K (Ql)):=by
 refine okD F tH (fun ds Q h=>?_) (fun cdv A' outer s H E hr ds Q h=>?_)
 ·obtain ⟨o,rfl,q⟩:=h
  rfl
 obtain ⟨o,rfl,q⟩:=h
 refine ⟨_,(zg (zk (zC (zb ze (zb ze zf))))),?_⟩
 exact ⟨rfl,q⟩
abbrev xq:Stmt:=inClass (top 23) 2
theorem sO:zi ["self","place"] ["self","place"] (defScope xq):=by walk_at "sc"
theorem sV (T:Txt K mg A) (F:Fun K "ratio" "Plain.ratio" xq f fd):FnOk P w K mg base CX0 1 f fd ["self","place"] (zv K (wK A .plain (Kd.ratN .plain))):=by
 refine okD F sO (fun ds Q h=>?_) (fun cdv A' outer s H E hr ds Q h=>?_)
 ·obtain ⟨n,p,rfl,hn,q⟩:=h
  rfl
 obtain ⟨n,p,rfl,hn,q⟩:=h
 refine ⟨_,(zg (zk (zY (dv 0)))),?_⟩
 exact ⟨_,rfl,_,_,_,rfl,rfl,T.cl_Plain,T.na_Plain,q⟩
abbrev xu:Stmt:=inClass (top 24) 2
theorem sQ:zi ["self","place"] ["self","place"] (defScope xu):=by walk_at "sc"
theorem sY (T:Txt K mg A) (F:Fun K "ratio" "Below.ratio" xu f fd):FnOk P w K mg base CX0 1 f fd ["self","place"] (zv K (wK A .below (Kd.ratN .below))):=by
 refine okD F sQ (fun ds Q h=>?_) (fun cdv A' outer s H E hr ds Q h=>?_)
 ·obtain ⟨n,p,rfl,hn,q⟩:=h
  rfl
 obtain ⟨n,p,rfl,hn,q⟩:=h
 refine ⟨_,(zg (zk (xA (zY (dv 0))))),?_⟩
 exact ⟨_,rfl,_,_,_,rfl,rfl,T.cl_Below,T.na_Below,_,rfl,q⟩
abbrev yF:Stmt:=inClass (top 25) 3
theorem vM:zi ["self","place"] ["self","place"] (defScope yF):=by walk_at "sc"
theorem vQ (T:Txt K mg A) (F:Fun K "ratio" "Balanced.ratio" yF f fd):FnOk P w K mg base CX0 1 f fd ["self","place"] (zv K (wK A .balanced (Kd.ratN .balanced))):=by
 refine okD F vM (fun ds Q h=>?_) (fun cdv A' outer s H E hr ds Q h=>?_)
 ·obtain ⟨n,p,rfl,hn,q⟩:=h
  rfl
 obtain ⟨n,p,rfl,hn,q⟩:=h
 refine ⟨_,(zg (zk (zj zU (zj ya ze (zY (dv 0))) ze))),?_⟩
 exact ⟨_,rfl,_,_,_,rfl,rfl,T.cl_Balanced,T.na_Balanced,_,_,rfl,rfl,aw (by decide),_,_,rfl,rfl,q⟩
abbrev yK:Stmt:=inClass (top 26) 2
theorem ux:zi ["self","place"] ["self","place"] (defScope yK):=by walk_at "sc"
theorem uL (T:Txt K mg A) (F:Fun K "ratio" "Growing.ratio" yK f fd):FnOk P w K mg base CX0 1 f fd ["self","place"] (zv K (wK A .growing (Kd.ratN .growing))):=by
 refine okD F ux (fun ds Q h=>?_) (fun cdv A' outer s H E hr ds Q h=>?_)
 ·obtain ⟨n,p,rfl,hn,q⟩:=h
  rfl
 obtain ⟨n,p,rfl,hn,q⟩:=h
 refine ⟨_,(zg (zk (zj zU (zY (dv 0)) (dv 1)))),?_⟩
 exact ⟨_,rfl,_,_,_,rfl,rfl,T.cl_Growing,T.na_Growing,_,rfl,_,_,rfl,rfl,q⟩
abbrev xt:Stmt:=inClass (top 28) 3
theorem sP:zi ["self","place"] ["self","place"] (defScope xt):=by walk_at "sc"
theorem sX (T:Txt K mg A) (F:Fun K "ratio" "Pairs.ratio" xt f fd):FnOk P w K mg base CX0 1 f fd ["self","place"] (zv K (wK A .pairs (Kd.ratN .pairs))):=by
 refine okD F sP (fun ds Q h=>?_) (fun cdv A' outer s H E hr ds Q h=>?_)
 ·obtain ⟨n,p,rfl,hn,q⟩:=h
  rfl
 obtain ⟨n,p,rfl,hn,q⟩:=h
 refine ⟨_,(zg (zk (zC (zb (xA (zY (dv 0))) (zb ze zf))))),?_⟩
 exact ⟨_,rfl,_,_,_,rfl,rfl,T.cl_Pairs,T.na_Pairs,_,rfl,rfl,q⟩
abbrev xp:Stmt:=inClass (top 22) 2
theorem sc_Way_weights:zi ["self","many","weights","weight","place"] ["self","many"] (defScope xp):=by walk_at "sc"
theorem z_ (T:Txt K mg A) (G_added:DOk P w K mg base 3 "added" (sE)) (G_multiplied:DOk P w K mg base 3 "multiplied" (o6)) (HNo:∀ k:Kd,MOk P w K mg base 1 (A.at k) "nought" (Zg k)) (HR:∀ k:Kd,k.five=true→MOk P w K mg base 1 (A.at k) "ratio" (wK A k (k.ratN))) (F:Fun K "weights" "Way.weights" xp f fd):FnOk P w K mg base CX0 4 f fd ["self","many"] (y0 K (Og A)):=by
 refine okF F sc_Way_weights (fun ds Q h=>?_) (fun cdv A' outer s H E hr ds Q h=>?_)
 ·obtain ⟨k,n,m,rfl,hk,hn,hm0,hm1,q⟩:=h
  rfl
 obtain ⟨k,n,m,rfl,hk,hn,hm0,hm1,q⟩:=h
 refine ⟨_,(zd (x_ (i:=2) sc_Way_weights.nd rfl (Or.inl rfl) (u_ zf))
 (zd (zr (i:=3) sc_Way_weights.nd rfl (Or.inl rfl) (zo G_added (hr.mono (by decide)) rfl (zb (ut hr (dv 0)) (zb ze zf))))
 (zd (ur (j:=4) rfl sc_Way_weights.nd rfl (Or.inl rfl) PassesOwn.never rfl T.range (dv 1) (zd (vB 2 (dv 3))
 (zg (zr (i:=3) sc_Way_weights.nd rfl (Or.inl rfl) (zo G_multiplied (hr.mono (by decide)) rfl (zb (yY hr (dv 0) (zb (dv 4) zf)) (zb (dv 3) zf)))))))
 (zg (su 2))))),?_⟩
 have e1:(("nought":Str) == k.fld)=false:=by cases k <;> decide +kernel
 have e2:(("ratio":Str) == k.fld)=false:=by cases k <;> decide +kernel
 have ew:∀ j,wt k n j=wtR k n j:=fun j=>ju hk
 refine ⟨rfl,_,rfl,_,rfl,_,_,_,_,rfl,e1,(HNo k).mono (by decide),⟨_,rfl,_,_,k.zero,.i 1,rfl,yg _,rfl,?_⟩⟩
 refine ⟨_,rfl,_,fun i ρ=>∃ v,ρ=[.some (zP A k n),.some (.int m),.own (wts k n i),.some (wtR k n i).dt,v],rfl,by omega,by omega,⟨_,rfl⟩,?_,?_⟩
 ·rintro i ρ' hi ⟨v,rfl⟩
  have hi1:i < 1000:=by omega
  refine ⟨_,rfl,_,rfl,by rw [y8]; omega,?_⟩
  refine ⟨_,rfl,_,_,_,_,rfl,e2,(HR k hk).mono (by decide),_,rfl,n,i,rfl,hn,_,rfl,_,_,k.ratN n i,wtR k n i,rfl,yg _,yg _,cZ hn (by omega) (by omega) _,?_⟩
  exact ⟨.some (.int i),by rw [o9,ew]; rfl⟩
 ·rintro ρ' ⟨v,rfl⟩
  exact ⟨_,rfl,q⟩
abbrev yx:Stmt:=inClass (top 27) 2
theorem sc_Falling_weights:zi ["self","many","weights","ahead","weight","place","following"] ["self","many"] (defScope yx):=by walk_at "sc"
theorem vj (T:Txt K mg A) (F:Fun K "weights" "Falling.weights" yx f fd):FnOk P w K mg base CX0 1 f fd ["self","many"] (y0 K (Qk A)):=by
 refine okF F sc_Falling_weights (fun ds Q h=>?_) (fun cdv A' outer s H E hr ds Q h=>?_)
 ·obtain ⟨n,m,rfl,hn,hm0,hm1,q⟩:=h
  rfl
 obtain ⟨n,m,rfl,hn,hm0,hm1,q⟩:=h
 refine ⟨_,(zd (x_ (i:=2) sc_Falling_weights.nd rfl (Or.inl rfl) (u_ zf))
 (zd (zr (i:=3) sc_Falling_weights.nd rfl (Or.inl rfl) ze)
 (zd (zr (i:=4) sc_Falling_weights.nd rfl (Or.inl rfl) ze)
 (zd (ur (j:=5) rfl sc_Falling_weights.nd rfl (Or.inl rfl) PassesOwn.never rfl T.range (dv 1) (zd (vB 2 (dv 4))
 (zd (zr (i:=6) sc_Falling_weights.nd rfl (Or.inl rfl) (zj zU (zj ya (zY (dv 0)) (dv 4)) (dv 3)))
 (zd (zr (i:=3) sc_Falling_weights.nd rfl (Or.inl rfl) (dv 4))
 (zg (zr (i:=4) sc_Falling_weights.nd rfl (Or.inl rfl) (dv 6)))))))
 (zg (su 2)))))),?_⟩
 obtain ⟨b1,b2⟩:=wa hn
 refine ⟨rfl,_,rfl,?_⟩
 refine ⟨_,rfl,_,fun i ρ=>∃ v u,ρ=[.some (zP A .falling n),.some (.int m),.own (wts .falling n i),.some (.int (wtF n i).1),.some (.int (wtF n i).2),v,u],rfl,by omega,by omega,⟨_,_,rfl⟩,?_,?_⟩
 ·rintro i ρ' hi ⟨v,u,rfl⟩
  refine ⟨_,rfl,_,rfl,by rw [y8]; omega,?_⟩
  refine ⟨_,rfl,_,_,_,rfl,rfl,T.cl_Falling,T.na_Falling,_,rfl,_,_,rfl,rfl,wm (by omega) (by omega) _,_,rfl,_,_,rfl,rfl,?_⟩
  refine ⟨_,rfl,_,rfl,?_⟩
  exact ⟨.some (.int i),.some (.int (n * (wtF n i).2 + (wtF n i).1)),by rw [o9]; rfl⟩
 ·rintro ρ' ⟨v,u,rfl⟩
  exact ⟨_,rfl,q⟩
abbrev z9:Stmt:=top 41
theorem sc_written_by_weights:zi ["way","number","figures","rest","weight"] ["way","number"] (defScope z9):=by walk_at "sc"
theorem wg (T:Txt K mg A) (G_trimmed:FOk P w K mg base 1 "trimmed" (jp)) (HW:∀ k:Kd,FMOk P w K mg base 4 (A.at k) "weights" (cD A k)) (F:Fun K "written_by_weights" "written_by_weights" z9 f fd):FnOk P w K mg base CX0 5 f fd ["way","number"] (y0 K (ZP A)):=by
 refine okF F sc_written_by_weights (fun ds Q h=>?_) (fun cdv A' outer s H E hr ds Q h=>?_)
 ·obtain ⟨n,m,rfl,hn,hm,hb,q⟩:=h
  rfl
 obtain ⟨n,m,rfl,hn,hm,hb,q⟩:=h
 refine ⟨_,(zd (x_ (i:=2) sc_written_by_weights.nd rfl (Or.inl rfl) (u_ zf))
 (zd (zr (i:=3) sc_written_by_weights.nd rfl (Or.inl rfl) (dv 1))
 (zd (sd (j:=4) rfl sc_written_by_weights.nd rfl (Or.inl rfl) PassesOwn.never rfl T.n_reversed (zb (DF.de (jQ hr (dv 0) (zb (zj ya ze (aQ (dv 1))) zf))) zf) (zd (vB 2 (zj bv (dv 3) (dv 4)))
 (zg (zr (i:=3) sc_written_by_weights.nd rfl (Or.inl rfl) (zj yJ (dv 3) (dv 4))))))
 (zd (X8 2)
 (oV 2 (zg (uq (sw G_trimmed (hr.mono (by decide)) rfl (zb (dv 2) zf))))))))),?_⟩
 have h1:1 ≤ n:=hn.1
 have h9:n ≤ 9:=hn.2
 refine ⟨rfl,_,rfl,_,rfl,?_⟩
 have e2:(2:Int) * ((Builtin.Int.intBits m:Nat):Int)=((2 * Builtin.Int.intBits m:Nat):Int):=by omega
 refine ⟨_,rfl,_,_,_,_,rfl,pJ .falling,(HW .falling).mono (by decide),_,rfl,_,rfl,_,_,rfl,rfl,aw (by decide),n,_,rfl,hn,by omega,by omega,?_⟩
 unfold rH pH at q
 rw [e2,Int.toNat_natCast]
 generalize hL:2 * Builtin.Int.intBits m=L at *
 have lw:=y8 .falling n L
 refine ⟨_,_,fun i ρ=>∃ v,ρ=[.some (zP A .falling n),.some (.int m),.own (((List.range i).map fun q=>gs n m L (L - 1 - q)).map Dt.int),.some (.int (rs n m L i)),v]∧i ≤ L,rfl,rfl,⟨_,rfl,Nat.zero_le _⟩,?_,?_⟩
 ·rintro i x ρ' hx ⟨v,rfl,hi⟩
  obtain ⟨hi2,hx2⟩:=jy hx
  rw [lw] at hi2 hx2
  obtain rfl:=jr hx2
  have hw:(wt .falling n (L - 1 - i)).dt=.int (wf n (L - 1 - i)):=rfl
  rw [hw]
  have p1:=(z8 h1 (L - 1 - i)).1
  have b:=gQ h1 h9 (L - 1 - i)
  have b2:(wf n (L - 1 - i)).natAbs < 2 ^ (4 * (L - 1 - i) + 1):=by rw [Nat.pow_succ]; have:=Nat.two_pow_pos (4 * (L - 1 - i)); omega
  have hbig:(wf n (L - 1 - i)).natAbs < 2 ^ 9000:=Nat.lt_of_lt_of_le b2 (Nat.pow_le_pow_right (by decide) (by omega))
  refine ⟨_,rfl,_,rfl,_,rfl,_,_,rfl,rfl,Uf (by omega) hbig,by rw [List.length_map,List.length_map,List.length_range]; omega,?_⟩
  ·refine ⟨_,rfl,_,rfl,_,_,rfl,rfl,(by show wf n (L - 1 - i) ≠ 0; omega),.some (.int (wf n (L - 1 - i))),?_,by omega⟩
   rw [List.range_succ,List.map_append,List.map_append]
   have eg:gs n m L (L - 1 - i)=(rs n m L i).fdiv (wf n (L - 1 - i)):=by unfold gs; rw [show L - 1 - (L - 1 - i)=i by omega]
   rw [List.map_cons,List.map_nil,List.map_cons,List.map_nil,eg]
   rfl
 ·rintro ρ' ⟨v,rfl,_⟩
  refine ⟨_,rfl,_,rfl,_,rfl,_,?_,q⟩
  rw [lw,← List.map_reverse,iz]
  rfl
abbrev vb:Stmt:=top 30
theorem nt:zi ["row","place"] ["row","place"] (defScope vb):=by walk_at "sc"
theorem nJ (T:Txt K mg A) (F:Fun K "thing_at" "thing_at" vb f fd):FnOk P w K mg base CX0 1 f fd ["row","place"] (zv K (rW)):=by
 refine okD F nt (fun ds Q h=>?_) (fun cdv A' outer s H E hr ds Q h=>?_)
 ·obtain ⟨xs,p,rfl,hp,q⟩:=h
  rfl
 obtain ⟨xs,p,rfl,hp,q⟩:=h
 refine ⟨_,(zd (zD (zw (iH) (dv 1) (yN rfl T.len (dv 0)) (zu _)) (zg (zk (zB (dv 0) (dv 1) (fun _ _=>rfl)))) zq)
 (zg (zk ze))),?_⟩
 refine ⟨_,rfl,_,rfl,_,rfl,_,_,rfl,rfl,_,rfl,VD (fun h=>?_) (fun h=>?_)⟩
 ·have h:p < (xs.length:Int):=of_decide_eq_true h
  have hl:p.toNat < xs.length:=by omega
  have e:((p.toNat:Nat):Int)=p:=Int.toNat_of_nonneg hp
  have:=o0 (List.getElem?_eq_getElem hl)
  rw [e] at this
  rw [List.getD_eq_getElem?_getD,List.getElem?_eq_getElem hl] at q
  exact ⟨_,rfl,_,rfl,_,_,_,rfl,rfl,this,q⟩
 ·have h:¬ p < (xs.length:Int):=fun z=>h (decide_eq_true z)
  rw [List.getD_eq_getElem?_getD,List.getElem?_eq_none (by omega)] at q
  exact q
abbrev uJ:Stmt:=inClass (top 22) 5
theorem lC:zi ["self","number"] ["self","number"] (defScope uJ):=by walk_at "sc"
theorem vi (T:Txt K mg A) (G_is_whole:DOk P w K mg base 1 "is_whole" (yZ)) (F:Fun K "has" "Way.has" uJ f fd):FnOk P w K mg base CX0 2 f fd ["self","number"] (zv K (vI .plain)):=by
 refine okD F lC (fun ds Q h=>?_) (fun cdv A' outer s H E hr ds Q h=>?_)
 ·obtain ⟨o,d,m,rfl,hm,q⟩:=h
  rfl
 obtain ⟨o,d,m,rfl,hm,q⟩:=h
 refine ⟨_,(zg (zk (tm (zo G_is_whole (hr.mono (by decide)) rfl (zb (dv 1) zf)) (rO (vC (Ve) (dv 1) ze (zu _)))))),?_⟩
 obtain rfl:=yH hm
 cases m
 all_goals
  walk_at "rd"
  exact q
abbrev wu:Stmt:=inClass (top 24) 3
theorem p7:zi ["self","number"] ["self","number"] (defScope wu):=by walk_at "sc"
theorem ot (T:Txt K mg A) (G_is_whole:DOk P w K mg base 1 "is_whole" (yZ)) (F:Fun K "has" "Below.has" wu f fd):FnOk P w K mg base CX0 2 f fd ["self","number"] (zv K (vI .below)):=by
 refine okD F p7 (fun ds Q h=>?_) (fun cdv A' outer s H E hr ds Q h=>?_)
 ·obtain ⟨o,d,m,rfl,hm,q⟩:=h
  rfl
 obtain ⟨o,d,m,rfl,hm,q⟩:=h
 refine ⟨_,(zg (zk (zo G_is_whole (hr.mono (by decide)) rfl (zb (dv 1) zf)))),?_⟩
 obtain rfl:=yH hm
 cases m
 all_goals
  walk_at "rd"
  exact q
abbrev xg:Stmt:=inClass (top 25) 4
theorem tN:zi ["self","number"] ["self","number"] (defScope xg):=by walk_at "sc"
theorem tU (T:Txt K mg A) (G_is_whole:DOk P w K mg base 1 "is_whole" (yZ)) (F:Fun K "has" "Balanced.has" xg f fd):FnOk P w K mg base CX0 2 f fd ["self","number"] (zv K (vI .balanced)):=by
 refine okD F tN (fun ds Q h=>?_) (fun cdv A' outer s H E hr ds Q h=>?_)
 ·obtain ⟨o,d,m,rfl,hm,q⟩:=h
  rfl
 obtain ⟨o,d,m,rfl,hm,q⟩:=h
 refine ⟨_,(zg (zk (zo G_is_whole (hr.mono (by decide)) rfl (zb (dv 1) zf)))),?_⟩
 obtain rfl:=yH hm
 cases m
 all_goals
  walk_at "rd"
  exact q
abbrev uF:Stmt:=top 2
theorem ly:zi ["value"] ["value"] (defScope uF):=by walk_at "sc"
theorem lM (T:Txt K mg A) (G_is_whole:DOk P w K mg base 1 "is_whole" (yZ)) (F:Fun K "is_pair" "is_pair" uF f fd):FnOk P w K mg base CX0 2 f fd ["value"] (zv K (tq)):=by
 refine okD F ly (fun ds Q h=>?_) (fun cdv A' outer s H E hr ds Q h=>?_)
 ·obtain ⟨d,m,rfl,hm,q⟩:=h
  rfl
 obtain ⟨d,m,rfl,hm,q⟩:=h
 refine ⟨_,(zg (zk (tm (tj (T:=.tuple) T.kt T.isinstance T.n_tuple PyProof.Rows.boot_tuple (dv 0)) (tm (vC (wx hr) (yN rfl T.len (dv 0)) ze (zu _)) (tm (zo G_is_whole (hr.mono (by decide)) rfl (zb (zB (dv 0) ze (fun _ _=>rfl)) zf)) (rO (zo G_is_whole (hr.mono (by decide)) rfl (zb (zB (dv 0) ze (fun _ _=>rfl)) zf)))))))),?_⟩
 obtain rfl:=yH hm
 cases m
 all_goals
  walk_at "rd"
  exact q
abbrev wr:Stmt:=inClass (top 28) 5
theorem p6:zi ["self","number"] ["self","number"] (defScope wr):=by walk_at "sc"
theorem oq (T:Txt K mg A) (G_is_pair:DOk P w K mg base 2 "is_pair" (tq)) (F:Fun K "has" "Pairs.has" wr f fd):FnOk P w K mg base CX0 3 f fd ["self","number"] (zv K (vI .pairs)):=by
 refine okD F p6 (fun ds Q h=>?_) (fun cdv A' outer s H E hr ds Q h=>?_)
 ·obtain ⟨o,d,m,rfl,hm,q⟩:=h
  rfl
 obtain ⟨o,d,m,rfl,hm,q⟩:=h
 refine ⟨_,(zg (zk (zo G_is_pair (hr.mono (by decide)) rfl (zb (dv 1) zf)))),?_⟩
 obtain rfl:=yH hm
 refine ⟨_,rfl,_,m,rfl,hm,?_⟩
 cases m <;> exact q
abbrev wq:Stmt:=inClass (top 22) 4
theorem sc_Way_split:zi ["self","total","place","low","figures","figure"] ["self","total","place"] (defScope wq):=by walk_at "sc"
theorem yW (T:Txt K mg A) (HLo:∀ k:Kd,MOk P w K mg base 1 (A.at k) "low" (xM A k (k.low))∧MOk P w K mg base 1 (A.at k) "high" (xM A k (k.high))) (HR:∀ k:Kd,k.five=true→MOk P w K mg base 1 (A.at k) "ratio" (wK A k (k.ratN))) (F:Fun K "split" "Way.split" wq f fd):FnOk P w K mg base CX0 2 f fd ["self","total","place"] (zv K (cG A)):=by
 refine okD F sc_Way_split (fun ds Q h=>?_) (fun cdv A' outer s H E hr ds Q h=>?_)
 ·obtain ⟨k,n,t,j,rfl,h4,hn,hj,q⟩:=h
  rfl
 obtain ⟨k,n,t,j,rfl,h4,hn,hj,q⟩:=h
 refine ⟨_,(zd (zr (i:=3) sc_Way_split.nd rfl (Or.inl rfl) (yY hr (dv 0) (zb (dv 2) zf)))
 (zd (zr (i:=4) sc_Way_split.nd rfl (Or.inl rfl) (zj zU (zj yi (yY hr (dv 0) (zb (dv 2) zf)) (dv 3)) ze))
 (zd (zr (i:=5) sc_Way_split.nd rfl (Or.inl rfl) (zj zU (dv 3) (zj yJ (zj yi (dv 1) (dv 3)) (dv 4))))
 (zg (zk (zC (zb (dv 5) (zb (zj xw (zj yi (dv 1) (dv 5)) (yY hr (dv 0) (zb (dv 2) zf))) zf)))))))),?_⟩
 obtain ⟨M1,M2⟩:=HLo k
 have h5:k.five=true:=by cases k <;> first | rfl | cases h4
 have M3:=HR k h5
 obtain ⟨e1,e2⟩:=pY h4 n j
 have hp:=sM h4 hn j
 have hr:k.ratN n j=.i (k.rat n j):=by cases k <;> first | rfl | cases h4
 have hb:(k.rat n j).natAbs < 1073741824:=by
  obtain ⟨b1,b2⟩:=wa hn
  cases k <;> cases h4 <;> simp only [Kd.rat] <;> omega
 refine ⟨_,rfl,_,_,_,_,rfl,ZE k,M1.mono (by decide),_,rfl,n,j,rfl,hn,?_⟩
 refine ⟨_,rfl,_,_,_,_,rfl,dQ k,M2.mono (by decide),_,rfl,n,j,rfl,hn,_,rfl,_,_,rfl,rfl,_,_,rfl,rfl,?_⟩
 refine ⟨_,rfl,_,rfl,_,rfl,_,_,rfl,rfl,_,rfl,_,_,rfl,rfl,(show k.high n j - k.low n j + 1 ≠ 0 by omega),_,_,rfl,rfl,?_⟩
 refine ⟨_,rfl,_,rfl,_,rfl,_,_,rfl,rfl,_,rfl,_,_,_,_,rfl,aL k,M3.mono (by decide),_,rfl,n,j,rfl,hn,?_⟩
 rw [hr]
 refine ⟨_,_,rfl,rfl,⟨by omega,hb⟩,rfl,?_⟩
 cases k <;> cases h4 <;> exact q
abbrev xr:Stmt:=inClass (top 28) 4
theorem sc_Pairs_split:zi ["self","total","place","pair","figures","figure","turned"] ["self","total","place"] (defScope xr):=by walk_at "sc"
theorem sW (T:Txt K mg A) (G_as_pair:DOk P w K mg base 2 "as_pair" (xN)) (G_multiplied:DOk P w K mg base 3 "multiplied" (o6)) (F:Fun K "split" "Pairs.split" xr f fd):FnOk P w K mg base CX0 4 f fd ["self","total","place"] (zv K (cH A)):=by
 refine okD F sc_Pairs_split (fun ds Q h=>?_) (fun cdv A' outer s H E hr ds Q h=>?_)
 ·obtain ⟨n,d,m,j,rfl,hm,hn,q⟩:=h
  rfl
 obtain ⟨n,d,m,j,rfl,hm,hn,q⟩:=h
 refine ⟨_,(zd (zr (i:=3) sc_Pairs_split.nd rfl (Or.inl rfl) (zo G_as_pair (hr.mono (by decide)) rfl (zb (dv 1) zf)))
 (zd (zr (i:=4) sc_Pairs_split.nd rfl (Or.inl rfl) (zj zU (zj ya (zY (dv 0)) (zY (dv 0))) ze))
 (zd (zr (i:=5) sc_Pairs_split.nd rfl (Or.inl rfl) (zj yJ (zj zU (zB (dv 3) ze (fun _ _=>rfl)) (zj ya (zY (dv 0)) (zB (dv 3) ze (fun _ _=>rfl)))) (dv 4)))
 (zd (zr (i:=6) sc_Pairs_split.nd rfl (Or.inl rfl) (zo G_multiplied (hr.mono (by decide)) rfl (zb (zC (zb (zj yi (zB (dv 3) ze (fun _ _=>rfl)) (dv 5)) (zb (zB (dv 3) ze (fun _ _=>rfl)) zf))) (zb (zC (zb (xA (zY (dv 0))) (zb (xA ze) zf))) zf))))
 (zg (zk (zC (zb (dv 5) (zb (zC (zb (zj xw (zB (dv 6) ze (fun _ _=>rfl)) (dv 4)) (zb (zj xw (zB (dv 6) ze (fun _ _=>rfl)) (dv 4)) zf))) zf))))))))),?_⟩
 have hn1:1 ≤ n:=hn.1
 have hn2:n ≤ 9:=hn.2
 have sq:n * n ≤ 81:=by
  have:=Int.mul_le_mul hn2 hn2 (by omega) (by omega)
  omega
 have sq0:0 ≤ n * n:=Int.mul_nonneg (by omega) (by omega)
 have hN:ic 0 (n * n + 1):=⟨by omega,by omega⟩
 refine ⟨_,rfl,_,m,rfl,hm,?_⟩
 refine ⟨_,rfl,_,_,_,rfl,rfl,T.cl_Pairs,T.na_Pairs,_,rfl,_,_,_,rfl,rfl,T.cl_Pairs,T.na_Pairs,_,_,rfl,rfl,small (by omega) (by omega) _,_,_,rfl,rfl,?_⟩
 refine ⟨_,rfl,_,_,_,rfl,rfl,rfl,_,rfl,_,_,_,rfl,rfl,T.cl_Pairs,T.na_Pairs,_,rfl,_,_,_,rfl,rfl,rfl,_,_,rfl,rfl,wm (by omega) (by omega) _,_,_,rfl,rfl,_,rfl,_,_,rfl,rfl,(show n * n + 1 ≠ 0 by omega),?_⟩
 repeat (first | (walk_at "rd1") | refine ⟨_,_,_,rfl,rfl,T.cl_Pairs,T.na_Pairs,?_⟩)
 refine ⟨⟨small (show -1000000 ≤ -n by omega) (show -n ≤ 1000000 by omega) _,small (show (-1000000:Int) ≤ -1 by decide) (show (-1:Int) ≤ 1000000 by decide) _,small (show (-1000000:Int) ≤ -1 by decide) (show (-1:Int) ≤ 1000000 by decide) _,small (show -1000000 ≤ -n by omega) (show -n ≤ 1000000 by omega) _⟩,?_⟩
 repeat (first | (walk_at "rd1") | refine ⟨hN,?_⟩)
 exact q
abbrev z6:Stmt:=top 33
theorem sc_figures_and_carries:zi ["way","totals","figures","carry","found","place","parts"] ["way","totals"] (defScope z6):=by walk_at "sc"
theorem x5 (T:Txt K mg A) (G_added:DOk P w K mg base 3 "added" (sE)) (G_thing_at:DOk P w K mg base 1 "thing_at" (rW)) (HNo:∀ k:Kd,MOk P w K mg base 1 (A.at k) "nought" (Zg k)) (HHas:∀ k:Kd,MOk P w K mg base 3 (A.at k) "has" (vI k)) (HSp:∀ k:Kd,k.five=true→MOk P w K mg base 4 (A.at k) "split" (j4 A k)) (F:Fun K "figures_and_carries" "figures_and_carries" z6 f fd):FnOk P w K mg base CX0 5 f fd ["way","totals"] (zv K (Qn A)):=by
 refine okD F sc_figures_and_carries (fun ds Q h=>?_) (fun cdv A' outer s H E hr ds Q h=>?_)
 ·obtain ⟨k,n,ts,J,rfl,h5,hn,ht,F,hJ,q⟩:=h
  rfl
 obtain ⟨k,n,ts,J,rfl,h5,hn,ht,F,hJ,q⟩:=h
 refine ⟨_,(zd (zD (zW (sy T.isinstance T.gc_Falling (dv 0))) (zg rL) zq)
 (zd (x_ (i:=2) sc_figures_and_carries.nd rfl (Or.inl rfl) (u_ zf))
 (zd (zr (i:=3) sc_figures_and_carries.nd rfl (Or.inl rfl) (ut hr (dv 0)))
 (zd (x_ (i:=4) sc_figures_and_carries.nd rfl (Or.inl rfl) (u_ (zb (dv 3) zf)))
 (zd (rK PassesOwn.never (DW.dt (rJ (zw (iH) (sx 2 rfl T.len) (yN rfl T.len (dv 1)) (zu _)) (u8 (zw (ox hr) (dv 3) (ut hr (dv 0)) (zu _))))) (zd (zr (i:=5) sc_figures_and_carries.nd rfl (Or.inl rfl) (sx 2 rfl T.len))
 (yb (zD (DW.dt (yk (zw (Ve) (dv 5) (yN rfl T.len (dv 1)) (zu _)) (z7 (x9 (zW (yY hr (dv 0) (zb (dv 3) zf))))))) (zg rL) zq)
 (zd (zr (i:=6) sc_figures_and_carries.nd rfl (Or.inl rfl) (yY hr (dv 0) (zb (zo G_added (hr.mono (by decide)) rfl (zb (dv 3) (zb (zo G_thing_at (hr.mono (by decide)) rfl (zb (dv 1) (zb (dv 5) zf))) zf))) (zb (dv 5) zf))))
 (zd (vB 2 (zB (dv 6) ze (fun _ _=>rfl)))
 (zd (zr (i:=3) sc_figures_and_carries.nd rfl (Or.inl rfl) (zB (dv 6) ze (fun _ _=>rfl)))
 (zg (vB 4 (dv 3)))))))))
 (oV 2 (oV 4 (zg (zk (zC (zb (dv 2) (zb (dv 4) zf)))))))))))),?_⟩
 have ll:(ts.map Nm.dt).length=ts.length:=List.length_map _
 refine ⟨_,rfl,_,_,_,_,rfl,jF T k,kiF T k,_,rfl,?_⟩
 refine ifF (rG h5) ?_
 refine ⟨rfl,_,rfl,_,rfl,_,_,_,_,rfl,uo k,(HNo k).mono (by decide),_,rfl,_,rfl,rfl,_,rfl,?_⟩
 refine ⟨fun m ρ=>∃ j v5 v6,ρ=[.some (zP A k n),.some (cQ ts),.own ((wD k n ts j).map Dt.int),.some (cAt k n ts j).dt,.own (mT k n ts (j + 1)),v5,v6]∧m=J - j∧j ≤ J,⟨J,0,_,_,rfl,rfl,Nat.zero_le _⟩,?_⟩
 rintro m ρ' ⟨j,v5,v6,rfl,rfl,hj⟩
 have fl:=ui k n ts j
 have fl':((wD k n ts j).map Dt.int).length=j:=by rw [List.length_map,fl]
 have cl:(mT k n ts (j + 1)).length=j + 1:=by unfold mT; rw [List.length_map,aX]
 have hcz:cAt k n ts j=k.zero ↔ eqD (cAt k n ts j).dt k.zero.dt=true:=(X5 (wH k n ts j) (yR k)).symm
 refine ⟨_,rfl,_,rfl,_,rfl,_,_,rfl,rfl,_,rfl,?_⟩
 by_cases hjJ:j < J
 ·refine ifB (fun _=>ifT rfl ?_) (fun hlt=>⟨_,rfl,_,rfl,_,_,_,_,rfl,uo k,(HNo k).mono (by decide),_,rfl,ou _,ou _,_,rfl,ifT (nF ?_) ?_⟩)
  rotate_left
  ·have hle:ts.length ≤ j:=by have:=of_decide_eq_false hlt; omega
   cases e:eqD (cAt k n ts j).dt k.zero.dt with
   | false=>rfl
   | true=>exact absurd (hcz.mpr e) (F.nz j hle hjJ).1
  all_goals
   refine ⟨_,rfl,?_⟩
   rw [fl']
   refine ⟨fun ρ=>ρ=[.some (zP A k n),.some (cQ ts),.own ((wD k n ts j).map Dt.int),.some (cAt k n ts j).dt,.own (mT k n ts (j + 1)),.some (.int j),v6],?_,?_⟩
   ·refine ⟨_,rfl,_,rfl,_,rfl,_,_,rfl,rfl,_,rfl,?_⟩
    refine ifB (fun hge=>?_) (fun _=>ifF rfl rfl)
    have hge:ts.length ≤ j:=by have:=of_decide_eq_true hge; omega
    refine ⟨_,rfl,_,_,_,_,rfl,ZF k,(HHas k).mono (by decide),_,rfl,_,_,_,rfl,yg _,_,rfl,?_⟩
    rw [(F.nz j hge hjJ).2]
    exact ifF rfl rfl
   ·rintro ρ' rfl
    refine ⟨_,rfl,_,_,_,_,rfl,aK k,(HSp k h5).mono (by decide),_,rfl,_,rfl,_,rfl,_,_,rfl,by omega,?_⟩
    rw [Int.toNat_natCast,aE]
    refine ⟨_,_,_,_,rfl,yg _,yg _,_,rfl,n,_,j,rfl,vG (wH k n ts j) (wk ht j),hn,by omega,?_⟩
    refine ⟨_,rfl,_,rfl,_,_,_,rfl,rfl,rfl,by omega,?_⟩
    refine ⟨_,rfl,_,_,_,rfl,rfl,rfl,?_⟩
    refine ⟨_,rfl,_,rfl,by omega,J - (j + 1),by omega,j + 1,.some (.int j),.some (.tup [.int (fAt k n ts j),(cAt k n ts (j + 1)).dt]),?_,rfl,hjJ⟩
    have ef:(wD k n ts j).map Dt.int ++ [Dt.int (fAt k n ts j)]=(wD k n ts (j + 1)).map Dt.int:=by rw [gE,cA]
    have ec:mT k n ts (j + 1) ++ [(cAt k n ts (j + 1)).dt]=mT k n ts (j + 1 + 1):=by unfold mT; rw [cp k n ts (j + 1),List.map_append]; rfl
    rw [← ec,← ef]
    rfl
 ·have ej:j=J:=by omega
  subst ej
  refine ifF (decide_eq_false (by rw [fl',ll]; have:=F.le; omega)) ?_
  refine ⟨_,rfl,_,rfl,_,_,_,_,rfl,uo k,(HNo k).mono (by decide),_,rfl,ou _,ou _,_,rfl,ifF (nT (hcz.mp F.z)) ?_⟩
  exact ⟨_,rfl,_,rfl,_,rfl,_,rfl,rfl,q⟩
abbrev uC:Stmt:=top 34
theorem lu:zi ["way","totals"] ["way","totals"] (defScope uC):=by walk_at "sc"
theorem lJ (T:Txt K mg A) (G_trimmed:FOk P w K mg base 1 "trimmed" (jp)) (G_figures_and_carries:DOk P w K mg base 5 "figures_and_carries" (Qn A)) (F:Fun K "settled" "settled" uC f fd):FnOk P w K mg base CX0 6 f fd ["way","totals"] (y0 K (pT A)):=by
 refine okF F lu (fun ds Q h=>?_) (fun cdv A' outer s H E hr ds Q h=>?_)
 ·obtain ⟨k,n,ts,J,rfl,h5,hn,ht,F,hJ,q⟩:=h
  rfl
 obtain ⟨k,n,ts,J,rfl,h5,hn,ht,F,hJ,q⟩:=h
 refine ⟨_,(zg (uq (sw G_trimmed (hr.mono (by decide)) rfl (zb (zB (zo G_figures_and_carries (hr.mono (by decide)) rfl (zb (dv 0) (zb (dv 1) zf))) ze (fun _ _=>rfl)) zf)))),?_⟩
 refine ⟨_,rfl,_,rfl,k,n,ts,J,rfl,h5,hn,ht,F,hJ,_,_,_,rfl,rfl,rfl,?_⟩
 exact ⟨_,rfl,q⟩
abbrev uA:Stmt:=top 42
theorem ls:zi ["way","number"] ["way","number"] (defScope uA):=by walk_at "sc"
theorem lH (T:Txt K mg A) (G_written_by_weights:FOk P w K mg base 5 "written_by_weights" (ZP A)) (G_settled:FOk P w K mg base 6 "settled" (pT A)) (HHas:∀ k:Kd,MOk P w K mg base 3 (A.at k) "has" (vI k)) (F:Fun K "written" "written" uA f fd):FnOk P w K mg base (CX1 P w) 7 f fd ["way","number"] (wL K (jZ A)):=by
 refine W_ F ls (fun ds Q R h=>?_) (fun cdv A' outer s H E hr ds Q R h rz=>?_)
 ·obtain ⟨k,n,m,rfl,hn,hw⟩:=h
  rfl
 obtain ⟨k,n,m,rfl,hn,hw⟩:=h
 refine ⟨_,(zd (zD (x9 (zW (yY hr (dv 0) (zb (dv 1) zf)))) (zg (mP rfl rfl T.gc_NoNumber T.ex_NoNumber zy)) zq)
 (zd (zD (zW (sy T.isinstance T.gc_Falling (dv 0))) (zg (uq (sw G_written_by_weights (hr.mono (by decide)) rfl (zb (dv 0) (zb (dv 1) zf))))) zq)
 (zg (uq (sw G_settled (hr.mono (by decide)) rfl (zb (dv 0) (zb (zN (zb (dv 1) zf)) zf))))))),?_⟩
 refine ⟨_,rfl,_,_,_,_,rfl,ZF k,(HHas k).mono (by decide),_,rfl,_,_,_,rfl,yg m,_,rfl,?_⟩
 rcases hw with ⟨hm,r,hw,q⟩ | ⟨hm,hR⟩
 ·rw [hm]
  refine ifF rfl ?_
  refine ⟨_,rfl,_,_,_,_,rfl,jF T k,kiF T k,_,rfl,?_⟩
  by_cases hk:k=.falling
  ·subst hk
   obtain ⟨a,rfl⟩:∃ a,m=.i a:=wA hm
   obtain ⟨rfl,hb⟩:=hw
   exact ifT rfl ⟨_,rfl,_,rfl,n,a,rfl,hn,of_decide_eq_true hm,hb,q⟩
  ·have h5:k.five=true:=by cases k <;> first | rfl | exact absurd rfl hk
   obtain ⟨J,hJ,F,rfl⟩:∃ J,J ≤ 50000∧Fin k n [m] J∧r=rY k n [m] J:=by cases k <;> first | exact hw | exact absurd rfl hk
   refine ifF (rG h5) ⟨_,rfl,_,rfl,rfl,k,n,[m],J,rfl,h5,hn,oi hm,F,hJ,q⟩
 ·rw [hm]
  exact ifT rfl (rz _ hR)
abbrev wo:Stmt:=top 44
theorem p5:zi ["way","number"] ["way","number"] (defScope wo):=by walk_at "sc"
theorem om (T:Txt K mg A) (G_as_pair:DOk P w K mg base 2 "as_pair" (xN)) (G_is_pair:DOk P w K mg base 2 "is_pair" (tq)) (F:Fun K "as_wanted" "as_wanted" wo f fd):FnOk P w K mg base CX0 3 f fd ["way","number"] (zv K (cF A)):=by
 refine okD F p5 (fun ds Q h=>?_) (fun cdv A' outer s H E hr ds Q h=>?_)
 ·obtain ⟨k,n,m,rfl,q⟩:=h
  rfl
 obtain ⟨k,n,m,rfl,q⟩:=h
 refine ⟨_,(zd (zD (zW (sy T.isinstance T.gc_Pairs (dv 0))) (zg (zk (zo G_as_pair (hr.mono (by decide)) rfl (zb (dv 1) zf)))) zq)
 (yb (zD (DW.dt (yk (zW (zo G_is_pair (hr.mono (by decide)) rfl (zb (dv 1) zf))) (z7 (zw (wx hr) (zB (dv 1) ze (fun _ _=>rfl)) ze (zu _))))) (zg (zk (zB (dv 1) ze (fun _ _=>rfl)))) zq)
 (zg (zk (dv 1))))),?_⟩
 refine ⟨_,rfl,_,_,_,_,rfl,jF T k,kiP T k,_,rfl,?_⟩
 by_cases hk:k=.pairs
 ·subst hk
  exact ifT rfl ⟨_,rfl,_,m,rfl,yg m,q⟩
 ·refine ifF (by cases k <;> first | rfl | exact absurd rfl hk) ?_
  refine ⟨fun ρ=>ρ=[.some (zP A k n),.some m.dt]∧y9 k m=m,?_,?_⟩
  ·refine ⟨_,rfl,_,m,rfl,yg m,_,rfl,?_⟩
   cases m with
   | i a=>exact ifF rfl (ifF rfl ⟨rfl,by cases k <;> first | rfl | exact absurd rfl hk⟩)
   | p a b=>
    refine ifT rfl ?_
    refine ⟨_,rfl,_,_,_,rfl,rfl,rfl,rfl,rfl,_,rfl,?_⟩
    refine ifB (fun h=>?_) (fun h=>⟨rfl,?_⟩)
    ·have e:y9 k (.p a b)=.i a:=by
      have hb:b=0:=sZ h
      subst hb
      cases k <;> first | rfl | exact absurd rfl hk
     rw [e] at q
     exact ⟨_,rfl,_,_,_,rfl,rfl,rfl,q⟩
    ·have hb:b ≠ 0:=uO h
     cases k <;> first | exact if_neg hb | exact absurd rfl hk
  ·rintro ρ' ⟨rfl,e⟩
   rw [e] at q
   exact ⟨_,rfl,q⟩
abbrev p8:Stmt:=top 40
theorem sc_worth:zi ["way","row","number","thing","weight"] ["way","row"] (defScope p8):=by walk_at "sc"
theorem fL (T:Txt K mg A) (G_added:DOk P w K mg base 3 "added" (sE)) (G_multiplied:DOk P w K mg base 3 "multiplied" (o6)) (HNo:∀ k:Kd,MOk P w K mg base 1 (A.at k) "nought" (Zg k)) (HW:∀ k:Kd,FMOk P w K mg base 4 (A.at k) "weights" (cD A k)) (F:Fun K "worth" "worth" p8 f fd):FnOk P w K mg base CX0 5 f fd ["way","row"] (zv K (j0 A)):=by
 refine okD F sc_worth (fun ds Q h=>?_) (fun cdv A' outer s H E hr ds Q h=>?_)
 ·obtain ⟨k,n,ns,rfl,hn,hl,hb,q⟩:=h
  rfl
 obtain ⟨k,n,ns,rfl,hn,hl,hb,q⟩:=h
 refine ⟨_,(zd (zr (i:=2) sc_worth.nd rfl (Or.inl rfl) (ut hr (dv 0)))
 (zd (jh (i:=3) (j:=4) rfl sc_worth.nd rfl rfl (Or.inl rfl) (Or.inl rfl) PassesOwn.never rfl T.n_zip (zb (dv 1) (zb (DF.de (jQ hr (dv 0) (zb (yN rfl T.len (dv 1)) zf))) zf)) (zg (zr (i:=2) sc_worth.nd rfl (Or.inl rfl) (zo G_added (hr.mono (by decide)) rfl (zb (dv 2) (zb (zo G_multiplied (hr.mono (by decide)) rfl (zb (dv 3) (zb (dv 4) zf))) zf))))))
 (zg (zk (dv 2))))),?_⟩
 have hlen:(ns.map Dt.int).length=ns.length:=List.length_map _
 refine ⟨_,rfl,_,_,_,_,rfl,uo k,(HNo k).mono (by decide),⟨_,rfl,?_⟩⟩
 refine ⟨_,rfl,_,rfl,_,_,_,_,rfl,pJ k,(HW k).mono (by decide),_,rfl,_,rfl,n,_,rfl,hn,by omega,by rw [hlen]; omega,?_⟩
 refine ⟨_,_,_,_,fun i ρ=>∃ v u,ρ=[.some (zP A k n),.some (zH ns),.some (yS k n ns i).dt,v,u],rfl,rfl,rfl,⟨_,_,rfl⟩,?_,?_⟩
 ·rintro i x y ρ' hx hy ⟨v,u,rfl⟩
  obtain ⟨rfl,hi⟩:=cX hx
  obtain rfl:=jr hy
  refine ⟨_,rfl,_,rfl,_,rfl,_,_,.i (ns.getD i 0),wt k n i,rfl,rfl,yg _,dk (Od (oZ hb i)) (Zk hn (by omega)) (by omega),?_⟩
  refine ⟨_,_,yS k n ns i,(Nm.i (ns.getD i 0)).mul (wt k n i),rfl,yg _,yg _,?_⟩
  exact ⟨_,_,rfl⟩
 ·rintro ρ' ⟨v,u,rfl⟩
  have e:min (ns.map Dt.int).length (wts k n (((ns.map Dt.int).length:Nat):Int).toNat).length=ns.length:=by rw [y8,hlen]; omega
  rw [e]
  exact ⟨_,rfl,q⟩
abbrev p9:Stmt:=top 45
theorem fh:zi ["way","row","other"] ["way","row","other"] (defScope p9):=by walk_at "sc"
theorem fM (T:Txt K mg A) (G_held_to_be_writings:DOkX P w K mg base 4 "held_to_be_writings" (j8 A)) (G_written:FOkX P w K mg base 7 "written" (jZ A)) (G_as_wanted:DOk P w K mg base 3 "as_wanted" (cF A)) (G_worth:DOk P w K mg base 5 "worth" (j0 A)) (F:Fun K "moved" "moved" p9 f fd):FnOk P w K mg base (CX1 P w) 8 f fd ["way","row","other"] (wL K (mZ A)):=by
 refine W_ F fh (fun ds Q R h=>?_) (fun cdv A' outer s H E hr ds Q R h rz=>?_)
 ·obtain ⟨k,n,r,k2,n2,rfl,hn,hn2,hl,hw⟩:=h
  rfl
 obtain ⟨k,n,r,k2,n2,rfl,hn,hn2,hl,hw⟩:=h
 refine ⟨_,(zd (aO (d9 G_held_to_be_writings (hr.mono (by decide)) rfl (zb (dv 0) (zb (zN (zb (dv 1) zf)) zf))))
 (zg (uq (d3 G_written (hr.mono (by decide)) rfl (zb (dv 2) (zb (zo G_as_wanted (hr.mono (by decide)) rfl (zb (dv 2) (zb (zo G_worth (hr.mono (by decide)) rfl (zb (dv 0) (zb (dv 1) zf))) zf))) zf)))))),?_⟩
 refine ⟨_,rfl,_,rfl,rfl,k,n,[r],rfl,hn,fun r' h'=>by rw [List.mem_singleton.mp h']; exact hl,?_⟩
 rcases hw with ⟨h1,h2⟩ | ⟨h1,h2,h3⟩ | ⟨h1,h2,r2,h3,q⟩
 ·exact .inr ⟨⟨r,List.mem_singleton.mpr rfl,h1⟩,rz _ h2⟩
 ·refine .inl ⟨fun r' h'=>by rw [List.mem_singleton.mp h']; exact h1,?_⟩
  exact ⟨_,rfl,_,rfl,_,rfl,_,rfl,k,n,r,rfl,hn,hl,jd hn h1 (by omega),k2,n2,_,rfl,k2,n2,_,rfl,hn2,.inr ⟨h2,rz _ h3⟩⟩
 ·refine .inl ⟨fun r' h'=>by rw [List.mem_singleton.mp h']; exact h1,?_⟩
  exact ⟨_,rfl,_,rfl,_,rfl,_,rfl,k,n,r,rfl,hn,hl,jd hn h1 (by omega),k2,n2,_,rfl,k2,n2,_,rfl,hn2,.inl ⟨h2,r2,h3,q⟩⟩
abbrev xm:Stmt:=top 57
theorem sc_law_names:zi ["_law_e","_law_some"] ["_law_e"] (defScope xm):=by walk_at "sc"
theorem oj (T:Txt K mg A) (F:Fun K "_law_names" "_law_names" xm f fd):FnOk P w K mg base CX0 1 f fd ["_law_e"] (zv K (cJ A)):=by
 refine okD F sc_law_names (fun ds Q h=>?_) (fun cdv A' outer s H E hr ds Q h=>?_)
 ·obtain ⟨C,rfl,hw⟩:=h
  rfl
 obtain ⟨C,rfl,hw⟩:=h
 refine ⟨_,(zd (zr (i:=1) sc_law_names.nd rfl (Or.inl rfl) (zN (zb (zC (zb zy (zb (yo T.isinstance T.gc_NoWriting (dv 0)) zf))) (zb (zC (zb zy (zb (yo T.isinstance T.gc_NoNumber (dv 0)) zf))) zf))))
 (zd (zr (i:=1) sc_law_names.nd rfl (Or.inl rfl) (zj vR (dv 1) (zN (zb (zC (zb zy (zb (yo T.isinstance T.gc_NoPairs (dv 0)) zf))) (zb (zC (zb zy (zb (yo T.isinstance T.gc_NoWay (dv 0)) zf))) zf)))))
 (zd (zr (i:=1) sc_law_names.nd rfl (Or.inl rfl) (zj vR (dv 1) (zN (zb (zC (zb zy (zb (yo T.isinstance T.gc_TooLess (dv 0)) zf))) (zb (zC (zb zy (zb (yo T.isinstance T.gc_NoRatio (dv 0)) zf))) zf)))))
 (zd (zr (i:=1) sc_law_names.nd rfl (Or.inl rfl) (zj vR (dv 1) (zN (zb (zC (zb zy (zb (yo T.isinstance T.gc_NoFalling (dv 0)) zf))) (zb (zC (zb zy (zb (yo T.isinstance T.gc_Nought (dv 0)) zf))) zf)))))
 (zd (zr (i:=1) sc_law_names.nd rfl (Or.inl rfl) (zj vR (dv 1) (zN (zb (zC (zb zy (zb (yo T.isinstance T.gc_NoSpan (dv 0)) zf))) (zb (zC (zb zy (zb (yo T.isinstance T.gc_NoTotal (dv 0)) zf))) zf)))))
 (zd (zr (i:=1) sc_law_names.nd rfl (Or.inl rfl) (zj vR (dv 1) (zN (zb (zC (zb zy (zb (yo T.isinstance T.gc_NoText (dv 0)) zf))) (zb (zC (zb zy (zb (yo T.isinstance T.gc_NoRow (dv 0)) zf))) zf)))))
 (zd (zr (i:=1) sc_law_names.nd rfl (Or.inl rfl) (zj vR (dv 1) (zN (zb (zC (zb zy (zb (d7 (d8 T.isinstance T.n_ValueError (dv 0))) zf))) zf))))
 (zg (zk (DF.de (dZ (L:=0) (osc:=defScope xm) (N0:=["_law_e","_law_some"]) (bs:=["_law_word","_law_truth"]) (caps:=[]) (js:=[]) rfl (by decide +kernel) rfl rfl rfl (aP (dv 1)) (fun _ _ _ _ _=>(sS rfl (yl (zX (i:=0) (show List.Nodup [("_law_word":Str),("_law_truth":Str)] by decide +kernel) rfl (Or.inl (lookup_relabel_local rfl)) (.inl rfl)) (yl (zX (i:=1) (show List.Nodup [("_law_word":Str),("_law_truth":Str)] by decide +kernel) rfl (Or.inl (lookup_relabel_local rfl)) (.inl rfl)) vN)))) ay (fun _ _ _ _ _=>(Wb (zW (dv 1)))) (fun _ _ _ _ _=>(dv 0))))))))))))),?_⟩
 rcases hw with ⟨rfl,q⟩ | ⟨rfl,q⟩
 ·repeat (first | (walk_at "rd1") | refine ⟨by decide,?_⟩ | refine ⟨_,_,rfl,T.ix_NoWriting,T.kx_NoWriting_NoWriting,?_⟩ | refine ⟨_,_,rfl,T.ix_NoWriting,T.kx_NoWriting_NoNumber,?_⟩ | refine ⟨_,_,rfl,T.ix_NoWriting,T.kx_NoWriting_NoPairs,?_⟩ | refine ⟨_,_,rfl,T.ix_NoWriting,T.kx_NoWriting_NoWay,?_⟩ | refine ⟨_,_,rfl,T.ix_NoWriting,T.kx_NoWriting_TooLess,?_⟩ | refine ⟨_,_,rfl,T.ix_NoWriting,T.kx_NoWriting_NoRatio,?_⟩ | refine ⟨_,_,rfl,T.ix_NoWriting,T.kx_NoWriting_NoFalling,?_⟩ | refine ⟨_,_,rfl,T.ix_NoWriting,T.kx_NoWriting_Nought,?_⟩ | refine ⟨_,_,rfl,T.ix_NoWriting,T.kx_NoWriting_NoSpan,?_⟩ | refine ⟨_,_,rfl,T.ix_NoWriting,T.kx_NoWriting_NoTotal,?_⟩ | refine ⟨_,_,rfl,T.ix_NoWriting,T.kx_NoWriting_NoText,?_⟩ | refine ⟨_,_,rfl,T.ix_NoWriting,T.kx_NoWriting_NoRow,?_⟩ | refine ⟨_,_,rfl,T.ix_NoWriting,T.kx_NoWriting_ValueError,?_⟩)
  exact rP (ρ:=[]) [(.ofString "NoWriting",true),(.ofString "NoNumber",false),(.ofString "NoPairs",false),(.ofString "NoWay",false),(.ofString "TooLess",false),(.ofString "NoRatio",false),(.ofString "NoFalling",false),(.ofString "Nought",false),(.ofString "NoSpan",false),(.ofString "NoTotal",false),(.ofString "NoText",false),(.ofString "NoRow",false),(.ofString "plain",false)] q
 ·repeat (first | (walk_at "rd1") | refine ⟨by decide,?_⟩ | refine ⟨_,_,rfl,T.ix_NoNumber,T.kx_NoNumber_NoWriting,?_⟩ | refine ⟨_,_,rfl,T.ix_NoNumber,T.kx_NoNumber_NoNumber,?_⟩ | refine ⟨_,_,rfl,T.ix_NoNumber,T.kx_NoNumber_NoPairs,?_⟩ | refine ⟨_,_,rfl,T.ix_NoNumber,T.kx_NoNumber_NoWay,?_⟩ | refine ⟨_,_,rfl,T.ix_NoNumber,T.kx_NoNumber_TooLess,?_⟩ | refine ⟨_,_,rfl,T.ix_NoNumber,T.kx_NoNumber_NoRatio,?_⟩ | refine ⟨_,_,rfl,T.ix_NoNumber,T.kx_NoNumber_NoFalling,?_⟩ | refine ⟨_,_,rfl,T.ix_NoNumber,T.kx_NoNumber_Nought,?_⟩ | refine ⟨_,_,rfl,T.ix_NoNumber,T.kx_NoNumber_NoSpan,?_⟩ | refine ⟨_,_,rfl,T.ix_NoNumber,T.kx_NoNumber_NoTotal,?_⟩ | refine ⟨_,_,rfl,T.ix_NoNumber,T.kx_NoNumber_NoText,?_⟩ | refine ⟨_,_,rfl,T.ix_NoNumber,T.kx_NoNumber_NoRow,?_⟩ | refine ⟨_,_,rfl,T.ix_NoNumber,T.kx_NoNumber_ValueError,?_⟩)
  exact rP (ρ:=[]) [(.ofString "NoWriting",false),(.ofString "NoNumber",true),(.ofString "NoPairs",false),(.ofString "NoWay",false),(.ofString "TooLess",false),(.ofString "NoRatio",false),(.ofString "NoFalling",false),(.ofString "Nought",false),(.ofString "NoSpan",false),(.ofString "NoTotal",false),(.ofString "NoText",false),(.ofString "NoRow",false),(.ofString "plain",false)] q
abbrev wn:Stmt:=top 58
theorem sc_law_asked:zi ["_law_way_here","_law_row","_law_other","_law_error","_law_found","_law_e"] ["_law_way_here","_law_row","_law_other"] (defScope wn):=by walk_at "sc"
theorem ol (T:Txt K mg A) (G_moved:FOkX P w K mg base 8 "moved" (mZ A)) (G__law_names:DOk P w K mg base 1 "_law_names" (cJ A)) (F:Fun K "_law_asked" "_law_asked" wn f fd):FnOk P w K mg base CX0 9 f fd ["_law_way_here","_law_row","_law_other"] (jY K (.t false true) (jq A)):=by
 refine okT F sc_law_asked (fun ds Q h=>?_) (fun cdv A' outer s H E hr ds Q h=>?_)
 ·obtain ⟨k,n,r,k2,n2,rfl,hn,hn2,hl,hw⟩:=h
  rfl
 obtain ⟨k,n,r,k2,n2,rfl,hn,hn2,hl,hw⟩:=h
 refine ⟨_,(zd (zr (i:=3) sc_law_asked.nd rfl (Or.inl rfl) ji)
 (zd (zr (i:=4) sc_law_asked.nd rfl (Or.inl rfl) ji)
 (zd (q0 (i:=4) (j:=5) rfl rfl sc_law_asked.nd rfl (Or.inl rfl) rfl rfl G_moved (hr.mono (by decide)) rfl (zb (dv 0) (zb (dv 1) (zb (dv 2) zf))) (fun _=>(zg (zr (i:=3) sc_law_asked.nd rfl (Or.inl rfl) (dv 5)))) rfl T.gc_OddError)
 (zd (zD (X7 (dv 3)) (zg (jN (VR (zN zf)) (VQ 4))) zq)
 (zg (jN (VR (zo G__law_names (hr.mono (by decide)) rfl (zb (dv 3) zf))) (PY ji))))))),?_⟩
 refine ⟨_,rfl,_,rfl,_,rfl,k,n,r,k2,n2,rfl,hn,hn2,hl,?_⟩
 rcases hw with ⟨h1,q⟩ | ⟨h1,h2,q⟩ | ⟨h1,h2,r2,h3,q⟩
 ·refine .inl ⟨h1,T.em_NoWriting_OddError,?_⟩
  refine ⟨_,rfl,_,rfl,_,rfl,ifF rfl ?_⟩
  exact ⟨_,rfl,_,rfl,.inl ⟨rfl,rfl,q⟩⟩
 ·refine .inr (.inl ⟨h1,h2,T.em_NoNumber_OddError,?_⟩)
  refine ⟨_,rfl,_,rfl,_,rfl,ifF rfl ?_⟩
  exact ⟨_,rfl,_,rfl,.inr ⟨rfl,rfl,q⟩⟩
 ·refine .inr (.inr ⟨h1,h2,r2,h3,_,rfl,?_⟩)
  refine ⟨_,rfl,_,rfl,ifT rfl ?_⟩
  exact ⟨rfl,.inl ⟨_,rfl,q⟩⟩
abbrev yE:Stmt:=top 52
theorem sc_law_is_writing:zi ["_law_name","_law_number","_law_row","_law_place"] ["_law_name","_law_number","_law_row"] (defScope yE):=by walk_at "sc"
theorem vP (T:Txt K mg A) (G__law_low:DOk P w K mg base 1 "_law_low" (o7)) (G__law_high:DOk P w K mg base 1 "_law_high" (sD)) (F:Fun K "_law_is_writing" "_law_is_writing" yE f fd):FnOk P w K mg base CX0 2 f fd ["_law_name","_law_number","_law_row"] (zv K (cK)):=by
 refine okD F sc_law_is_writing (fun ds Q h=>?_) (fun cdv A' outer s H E hr ds Q h=>?_)
 ·obtain ⟨k,n,r,rfl,hn,hL,hl,q⟩:=h
  rfl
 obtain ⟨k,n,r,rfl,hn,hL,hl,q⟩:=h
 refine ⟨_,(zd (zD (x9 (zW (tj (T:=.list) T.kt T.isinstance T.n_list PyProof.Rows.boot_list (dv 2)))) (zg (zk xK)) zq)
 (zd (ur (j:=3) rfl sc_law_is_writing.nd rfl (Or.inl rfl) PassesOwn.never rfl T.range (yN rfl T.len (dv 2)) (yb (zD (DW.dt (rJ (x9 (zW (tj (T:=.int) T.kt T.isinstance T.n_int PyProof.Rows.boot_int (zB (dv 2) (dv 3) (fun _ _=>rfl))))) (u8 (zW (tj (T:=.bool) T.kt T.isinstance T.n_bool PyProof.Rows.boot_bool (zB (dv 2) (dv 3) (fun _ _=>rfl))))))) (zg (zk xK)) zq)
 (zd (zD (x9 (dR (Vd) (Vd) (zo G__law_low (hr.mono (by decide)) rfl (zb (dv 0) (zb (dv 1) zf))) (zB (dv 2) (dv 3) (fun _ _=>rfl)) (zo G__law_high (hr.mono (by decide)) rfl (zb (dv 0) (zb (dv 1) (zb (dv 3) zf)))))) (zg (zk xK)) zq)
 (zg (zD (DW.dt (yk (zw (yP) (dv 0) zy (zu _)) (yk (zw (bu) (dv 3) ze (zu _)) (yk (zw (wx hr) (zB (dv 2) (dv 3) (fun _ _=>rfl)) (dv 1) (zu _)) (z7 (zw (ox hr) (zB (dv 2) (zj yi (dv 3) ze) (fun _ _=>rfl)) ze (zu _))))))) (zg (zk xK)) zq)))))
 (zg (zk (VS (vC (wx hr) (yN rfl T.len (dv 2)) ze (zu _)) (rO (vC (ox hr) (zB (dv 2) (xA ze) (fun _ _=>rfl)) ze (zu _)))))))),?_⟩
 have ll:=zL r
 walk_at "rd"
 refine ⟨_,fun i ρ=>∃ v,ρ=[.some (.str k.nam),.some (.int n),.some (zH r),v],rfl,by omega,by omega,⟨_,rfl⟩,?_,?_⟩
 ·rintro i ρ' hi ⟨v,rfl⟩
  have hi':i < r.length:=by omega
  obtain ⟨f1,f2⟩:=hL.fig i hi'
  refine ⟨fun ρ=>ρ=[.some (.str k.nam),.some (.int n),.some (zH r),.some (.int i)],?_,?_⟩
  ·refine ⟨_,rfl,_,rfl,_,_,_,rfl,rfl,vg hi',?_⟩
   walk_at "rd"
   refine ⟨_,_,_,rfl,rfl,vg hi',?_⟩
   walk_at "rd"
   rfl
  ·rintro ρ' rfl
   refine ⟨_,rfl,_,rfl,k,n,i,rfl,?_⟩
   refine ⟨_,rfl,_,rfl,_,_,_,rfl,rfl,vg hi',_,_,rfl,rfl,_,rfl,ifT (decide_eq_true f1) ?_⟩
   refine ⟨_,rfl,_,rfl,_,rfl,k,n,i,rfl,hn,_,_,rfl,rfl,_,rfl,ifF (nT (decide_eq_true f2)) ?_⟩
   by_cases hk:k=.falling
   ·subst hk
    refine ⟨_,rfl,_,_,rfl,rfl,_,rfl,ifT rfl ?_⟩
    refine ⟨_,rfl,_,_,rfl,rfl,_,rfl,?_⟩
    refine ifB (fun h3=>?_) (fun h3=>ifF rfl ⟨_,rfl⟩)
    have h3:(0:Int) < i:=of_decide_eq_true h3
    refine ⟨_,rfl,_,rfl,_,_,_,rfl,rfl,vg hi',_,rfl,rfl,rfl,_,rfl,?_⟩
    refine ifB (fun h4=>?_) (fun h4=>ifF rfl ⟨_,rfl⟩)
    refine ⟨_,rfl,_,rfl,_,_,rfl,rfl,_,_,_,rfl,rfl,uv (by omega) (by omega),rfl,rfl,_,rfl,ifF (nT (eqI ?_)) ⟨_,rfl⟩⟩
    have e1:((i:Int) - 1).toNat=i - 1:=by omega
    rw [e1]
    have hi1:i - 1 + 1=i:=by omega
    exact hL.fal rfl (i - 1) (by omega) (by rw [hi1]; exact sZ h4)
   ·have en:(k.nam == Str.ofString "falling")=false:=by cases k <;> first | rfl | exact absurd rfl hk
    exact ⟨_,rfl,_,_,rfl,rfl,_,rfl,ifF en (ifF rfl ⟨_,rfl⟩)⟩
 ·rintro ρ' ⟨v,rfl⟩
  walk_at "rd"
  rcases zJ r with rfl | ⟨l,y,rfl⟩
  ·exact ifT rfl q
  ·have ez:(l ++ [y]).getD ((l ++ [y]).length - 1) 0=y:=by rw [List.length_append]; exact getD_snoc_eq
   have hy:y ≠ 0:=by
    rcases hL.end_ with h | h
    ·simp at h
    ·rw [ez] at h; exact h
   refine ifF (neI (by rw [ll,List.length_append]; simp; omega)) ?_
   refine ⟨_,rfl,_,rfl,_,_,_,rfl,rfl,wJ,rfl,rfl,?_⟩
   rw [neI hy]
   exact q
abbrev sR:Stmt:=top 59
theorem sc_law:zi ["_law_script","_law_name","_law_number","_law_part","_law_other_name","_law_other_number","_law_row","_law_due","_law_pair","_law_handed","_law_way_here","_law_names_here","_law_found"] ["_law_script"] (defScope sR):=by walk_at "sc"
theorem Yu (T:Txt K mg A) (G__law_chosen:DOk P w K mg base 1 "_law_chosen" (m_)) (G__law_cell_at:DOk P w K mg base 1 "_law_cell_at" (cM)) (G__law_row_by:DOk P w K mg base 2 "_law_row_by" (mY)) (G__law_spoilt:DOk P w K mg base 2 "_law_spoilt" (pS)) (G__law_pair_of:DOk P w K mg base 2 "_law_pair_of" (cI)) (G__law_way:DOk P w K mg base 5 "_law_way" (cE A)) (G__law_asked:TOk P w K mg base 9 "_law_asked" (.t false true) (jq A)) (G__law_is_writing:DOk P w K mg base 2 "_law_is_writing" (cK)) (F:Fun K "law" "law" sR f fd):FnOk P w K mg base CX0 10 f fd ["_law_script"] (zv K (j7)):=by
 refine okD F sc_law (fun ds Q h=>?_) (fun cdv A' outer s H E hr ds Q h=>?_)
 ·obtain ⟨ns,rfl,hns,q⟩:=h
  rfl
 obtain ⟨ns,rfl,hns,q⟩:=h
 refine ⟨_,(zd (dU (i:=1) (j:=2) rfl sc_law.nd rfl rfl (Or.inl rfl) (Or.inl rfl) (zo G__law_chosen (hr.mono (by decide)) rfl (zb (zo G__law_cell_at (hr.mono (by decide)) rfl (zb (dv 0) (zb ze zf))) zf)))
 (zd (zr (i:=3) sc_law.nd rfl (Or.inl rfl) (zo G__law_cell_at (hr.mono (by decide)) rfl (zb (dv 0) (zb ze zf))))
 (zd (dU (i:=4) (j:=5) rfl sc_law.nd rfl rfl (Or.inl rfl) (Or.inl rfl) (zo G__law_chosen (hr.mono (by decide)) rfl (zb (zj xw (dv 3) ze) zf)))
 (zd (zr (i:=6) sc_law.nd rfl (Or.inl rfl) (zo G__law_row_by (hr.mono (by decide)) rfl (zb (dv 1) (zb (dv 2) (zb (rN (dv 0) (sv ze) (sv ze)) zf)))))
 (zd (zr (i:=7) sc_law.nd rfl (Or.inl rfl) (zN zf))
 (yb (zD (zw (wx hr) (zj yJ (dv 3) ze) ze (zu _)) (zd (zr (i:=6) sc_law.nd rfl (Or.inl rfl) (zo G__law_spoilt (hr.mono (by decide)) rfl (zb (dv 1) (zb (dv 2) (zb (dv 6) (zb (zj xw (dv 3) ze) zf))))))
 (zg (zr (i:=7) sc_law.nd rfl (Or.inl rfl) (zN (zb zy zf))))) (zd (zr (i:=8) sc_law.nd rfl (Or.inl rfl) (zo G__law_pair_of (hr.mono (by decide)) rfl (zb (dv 1) (zb (dv 2) (zb (dv 6) zf)))))
 (yb (zD (DW.dt (yk (zw (Vc) (dv 4) zy (zu _)) (z7 (zw (ox hr) (zB (dv 8) ze (fun _ _=>rfl)) ze (zu _))))) (zg (zr (i:=7) sc_law.nd rfl (Or.inl rfl) (zN (zb zy zf)))) zq)
 (zg (zD (DW.dt (yk (zw fO (dv 4) (zN (zb zy (zb zy (zb zy zf)))) (by with_unfolding_all rfl)) (z7 (zw (iH) (zB (dv 8) ze (fun _ _=>rfl)) ze (zu _))))) (zg (zr (i:=7) sc_law.nd rfl (Or.inl rfl) (zN (zb zy zf)))) zq)))))
 (zd (zr (i:=9) sc_law.nd rfl (Or.inl rfl) (DF.de (jR rfl T.n_list (dv 6))))
 (zd (zr (i:=10) sc_law.nd rfl (Or.inl rfl) (zo G__law_way (hr.mono (by decide)) rfl (zb (dv 1) (zb (dv 2) zf))))
 (zd (jM (i:=11) (j:=12) rfl sc_law.nd rfl rfl (Or.inl rfl) (Or.inl rfl) (jO G__law_asked (hr.mono (by decide)) rfl (zb (dv 10) (zb (dv 9) (zb (zo G__law_way (hr.mono (by decide)) rfl (zb (dv 4) (zb (dv 5) zf))) zf)))))
 (yb (zD (DW.dt (rJ (zw (ox hr) (dv 11) (dv 7) (zu _)) (u8 (zw (ox hr) (dv 9) (dv 6) (zu _))))) (zg (zk xK)) zq)
 (yb (zD (dS (DW.dt (yk (zw (wx hr) (dv 7) (zN zf) (zu _)) (z7 (x9 (zW (zo G__law_is_writing (hr.mono (by decide)) rfl (zb (dv 4) (zb (dv 5) (zb (dv 12) zf)))))))))) (zg (zk xK)) zq)
 (zd (jM (i:=11) (j:=12) rfl sc_law.nd rfl rfl (Or.inl rfl) (Or.inl rfl) (jO G__law_asked (hr.mono (by decide)) rfl (zb (dv 10) (zb (dv 9) (zb (dv 10) zf)))))
 (zd (zD (zw (wx hr) (zj yJ (dv 3) ze) ze (zu _)) (zg (zk (tm (vC (wx hr) (dv 11) (zN (zb zy zf)) (zu _)) (rO (vC (wx hr) (dv 9) (dv 6) (zu _)))))) zq)
 (yb (zD (dS (DW.dt (rJ (zw (ox hr) (dv 11) (zN zf) (zu _)) (u8 (zw (ox hr) (dv 12) (dv 6) (zu _)))))) (zg (zk xK)) zq)
 (zd (vB 12 ze)
 (zg (zk (vC (wx hr) (dv 9) (dv 6) (zu _))))))))))))))))))),?_⟩
 refine ⟨_,rfl,ns,_,rfl,by decide,fun z0=>⟨_,rfl,fun k n hn=>⟨_,_,rfl,?_⟩⟩⟩
 refine ⟨_,rfl,ns,_,rfl,by decide,fun z=>?_⟩
 refine ⟨_,rfl,_,_,rfl,rfl,cq (by decide),_,rfl,fun k2 n2 hn2=>⟨_,_,rfl,?_⟩⟩
 obtain ⟨cs,ec,lc,_⟩:=cm ns (some 2) (some 14)
 have lcs:cs.length ≤ 12:=by
  have z:=ck (ns.map Dt.int) 2 14
  have z:(se (ns.map Dt.int) (some 2) (some 14)).length ≤ 14 - 2:=z
  rw [ec,zL] at z
  omega
 refine ⟨_,rfl,_,rfl,_,rfl,_,rfl,_,rfl,_,rfl,?_⟩
 rw [ec]
 refine ⟨k,n,cs,rfl,hn,by omega,fun r0 hL0 hl0=>⟨rfl,?_⟩⟩
 have e1:eqD nw (.lst [])=false:=by unfold nw; rw [wZ,xz]
 have e2:eqD nn (.lst [])=false:=by unfold nn; rw [wZ,xz]
 have s1:eqD nw nw=true:=ul 40 rfl
 have s2:eqD nn nn=true:=ul 40 rfl
 have s0:eqD (.lst []) (.lst [])=true:=ul 40 rfl
 refine ⟨fun ρ=>∃ r d v8,ρ=[.some (.scr ns),.some (.str k.nam),.some (.int n),.some (.int z),.some (.str k2.nam),.some (.int n2),.some (zH r),.some d,v8,.none,.none,.none,.none]∧((z.fmod 3=0∧¬ Legal k n r∧r.length ≤ 200∧d=nw)∨(z.fmod 3 ≠ 0∧Legal k n r∧r.length ≤ 12∧d=if yh k2 (y9 k2 (zp k n r))=true then .lst [] else nn)),?_,?_⟩
 ·refine ⟨_,rfl,_,_,rfl,rfl,pL (by decide),rfl,rfl,_,rfl,ifB (fun h=>?_) (fun h=>?_)⟩
  ·refine ⟨_,rfl,_,rfl,_,rfl,_,rfl,_,_,rfl,rfl,cq (by decide),k,n,r0,_,rfl,hn,by omega,fun r' h1 h2=>?_⟩
   exact ⟨rfl,r',_,_,rfl,.inl ⟨sZ h,h1,h2,rfl⟩⟩
  ·refine ⟨_,rfl,_,rfl,_,rfl,k,n,r0,rfl,hn,by omega,jd hn hL0 (by omega),?_⟩
   obtain ⟨b1,hb1⟩:∃ b:Bool,b=(!(k2.nam == Str.ofString "pairs") && !(eqD (.int (zp k n r0).im) (.int 0))):=⟨_,rfl⟩
   obtain ⟨b2,hb2⟩:∃ b:Bool,b=([Str.ofString "plain",.ofString "growing",.ofString "falling"].any (fun a=>a == k2.nam) && decide ((zp k n r0).re < 0)):=⟨_,rfl⟩
   refine ⟨fun ρ=>ρ=[.some (.scr ns),.some (.str k.nam),.some (.int n),.some (.int z),.some (.str k2.nam),.some (.int n2),.some (zH r0),.some (if b1=true then nn else .lst []),.some (zp k n r0).pr,.none,.none,.none,.none],?_,?_⟩
   ·refine ci (!(k2.nam == Str.ofString "pairs")) (!(eqD (.int (zp k n r0).im) (.int 0))) (fun R hR=>⟨_,rfl,_,_,rfl,rfl,_,rfl,hR⟩) (fun R hR=>⟨_,rfl,_,_,_,rfl,rfl,rfl,rfl,rfl,_,rfl,hR⟩) ?_
    rw [← hb1]
    cases b1 with
    | true=>exact ifT rfl ⟨rfl,rfl⟩
    | false=>exact ifF rfl rfl
   ·rintro ρ rfl
    refine ci ([Str.ofString "plain",.ofString "growing",.ofString "falling"].any (fun a=>a == k2.nam)) (decide ((zp k n r0).re < 0)) (fun R hR=>⟨_,rfl,rfl,_,_,_,rfl,rfl,rfl,_,rfl,hR⟩) (fun R hR=>⟨_,rfl,_,_,_,rfl,rfl,rfl,_,_,rfl,rfl,_,rfl,hR⟩) ?_
    rw [← hb2]
    have hh:yh k2 (y9 k2 (zp k n r0))=!(b1 || b2):=by
     rw [gT,hb1,hb2]
     cases k2 <;> rfl
    cases b2 with
    | true=>
     refine ifT rfl ⟨rfl,r0,nn,_,rfl,.inr ⟨uO h,hL0,by omega,?_⟩⟩
     rw [hh,Bool.or_true]
     rfl
    | false=>
     refine ifF rfl ⟨r0,_,_,rfl,.inr ⟨uO h,hL0,by omega,?_⟩⟩
     rw [hh,Bool.or_false]
     cases b1 <;> rfl
 rintro ρ ⟨r,d,v8,rfl,hc⟩
 have er:eqD (zH r) (zH r)=true:=ul 40 (yf r)
 have lr:=zL r
 refine ⟨_,rfl,_,rfl,?_⟩
 refine ⟨_,rfl,_,rfl,k,n,rfl,hn,?_⟩
 refine ⟨_,rfl,_,rfl,_,rfl,_,rfl,k2,n2,rfl,hn2,?_⟩
 rcases hc with ⟨hz,hL,hl,rfl⟩ | ⟨hz,hL,hl,hd⟩
 ·refine ⟨k,n,r,k2,n2,rfl,hn,hn2,by omega,.inl ⟨hL,_,_,rfl,?_⟩⟩
  refine ⟨fun ρ=>ρ=[.some (.scr ns),.some (.str k.nam),.some (.int n),.some (.int z),.some (.str k2.nam),.some (.int n2),.some (zH r),.some nw,v8,.some (zH r),.some (zP A k n),.some nw,.some .non],?_,?_⟩
  ·refine ⟨_,rfl,_,rfl,rfl,rfl,_,rfl,ifF (nT s1) ?_⟩
   exact ⟨_,rfl,_,rfl,yf r,yf r,_,rfl,ifF (nT er) rfl⟩
  rintro ρ rfl
  refine ⟨fun ρ=>ρ=[.some (.scr ns),.some (.str k.nam),.some (.int n),.some (.int z),.some (.str k2.nam),.some (.int n2),.some (zH r),.some nw,v8,.some (zH r),.some (zP A k n),.some nw,.some .non],?_,?_⟩
  ·exact ⟨_,rfl,rfl,rfl,rfl,_,rfl,ifF e1 (ifF rfl rfl)⟩
  rintro ρ rfl
  refine ⟨_,rfl,_,rfl,_,rfl,k,n,r,k,n,rfl,hn,hn,by omega,.inl ⟨hL,_,_,rfl,?_⟩⟩
  refine ⟨_,rfl,_,_,rfl,rfl,pL (by decide),rfl,rfl,_,rfl,ifT (eqI hz) ?_⟩
  refine ⟨_,rfl,rfl,rfl,rfl,_,rfl,ifT s1 ?_⟩
  refine ⟨_,rfl,_,rfl,yf r,yf r,?_⟩
  exact er.symm ▸ q
 have hs:=pG hn hL (by omega)
 obtain ⟨w1,w2⟩:=ng hn hs r.length (by omega)
 have hm:=gq hn hL
 have hty:=y2 k n r
 have w1:(zp k n r).re.natAbs ≤ 2 ^ (7 * r.length + 13):=w1
 have w2:(zp k n r).im.natAbs ≤ 2 ^ (7 * r.length + 13):=w2
 have hP:2 ^ (7 * r.length + 13) ≤ 2 ^ 200:=Nat.pow_le_pow_right (by decide) (by omega)
 have hre:(y9 k2 (zp k n r)).re=(zp k n r).re∧(y9 k2 (zp k n r)).im=(zp k n r).im:=by
  have e:Dt.tup [.int (y9 k2 (zp k n r)).re,.int (y9 k2 (zp k n r)).im]=Dt.tup [.int (zp k n r).re,.int (zp k n r).im]:=cO k2 _
  injection e with e
  injection e with e1 e2
  injection e1 with e1
  injection e2 with e2
  injection e2 with e2
  exact ⟨e1,e2⟩
 have hself:yh k (y9 k (zp k n r))=true:=by rw [q_ hty]; exact hm
 obtain ⟨r',hw',_⟩:=Zl (b:=200) hn hm ⟨Nat.le_trans w1 hP,Nat.le_trans w2 hP⟩ (by decide) (by decide)
 obtain rfl:r'=r:=Qp hn (nc hn hm hw') hL (gP hn hm hw')
 have hw'':Wr k n (y9 k (zp k n r')) r':=by rw [q_ hty]; exact hw'
 have fin:∀ v11 v12:Sl,aR (ZH false true 11 12 (jV (jq A) (mR (vE 10) (mR (vE 9) (mR (vE 10) aU)))))
   (aR (Wk (wc (dOp gEq (dOp (gIC j9 fun i j=>Dt.int (i.fmod j)) (vE 3) (dC (Dt.int 3))) (dC (Dt.int 0)))) (cc (ZO (dOp gEq (vE 11) (aV (mR (dC (Dt.str (Str.ofString "NoWriting"))) aU))) (dOp gEq (vE 9) (vE 6)))) ce)
    (ZJ (Wk (ZN (dOr (wc (dOp gNe (vE 11) (aV aU))) (wc (dOp gNe (vE 12) (vE 6))))) (cc (dC (Dt.bl false))) ce) (aR (Ud 12 (dC (Dt.int 1))) (cc (dOp gEq (vE 9) (vE 6)))))) { nx:=fun _=>Q Dt.non,rt:=Q }
   [.some (.scr ns),.some (.str k.nam),.some (.int n),.some (.int z),.some (.str k2.nam),.some (.int n2),.some (zH r'),.some d,v8,.some (zH r'),.some (zP A k n),v11,v12]:=fun v11 v12=>by
  refine ⟨_,rfl,_,rfl,_,rfl,k,n,r',k,n,rfl,hn,hn,by omega,.inr (.inr ⟨hL,hself,r',hw'',_,_,rfl,?_⟩)⟩
  refine ⟨_,rfl,_,_,rfl,rfl,pL (by decide),rfl,rfl,_,rfl,ifF (neI hz) ?_⟩
  refine ⟨fun ρ=>ρ=[.some (.scr ns),.some (.str k.nam),.some (.int n),.some (.int z),.some (.str k2.nam),.some (.int n2),.some (zH r'),.some d,v8,.some (zH r'),.some (zP A k n),.some (.lst []),.own (r'.map Dt.int)],?_,?_⟩
  ·refine ⟨_,rfl,rfl,rfl,rfl,_,rfl,ifF (nT s0) ?_⟩
   exact ⟨_,rfl,_,rfl,yf r',yf r',_,rfl,ifF (nT er) rfl⟩
  rintro ρ rfl
  refine ⟨_,rfl,by omega,?_⟩
  refine ⟨_,rfl,_,rfl,yf r',yf r',?_⟩
  exact er.symm ▸ q
 cases hh:yh k2 (y9 k2 (zp k n r')) with
 | false=>
  have hd:d=nn:=by rw [hd,hh]; rfl
  subst hd
  refine ⟨k,n,r',k2,n2,rfl,hn,hn2,by omega,.inr (.inl ⟨hL,hh,_,_,rfl,?_⟩)⟩
  refine ⟨fun ρ=>ρ=[.some (.scr ns),.some (.str k.nam),.some (.int n),.some (.int z),.some (.str k2.nam),.some (.int n2),.some (zH r'),.some nn,v8,.some (zH r'),.some (zP A k n),.some nn,.some .non],?_,?_⟩
  ·refine ⟨_,rfl,_,rfl,rfl,rfl,_,rfl,ifF (nT s2) ?_⟩
   exact ⟨_,rfl,_,rfl,yf r',yf r',_,rfl,ifF (nT er) rfl⟩
  rintro ρ rfl
  refine ⟨fun ρ=>ρ=[.some (.scr ns),.some (.str k.nam),.some (.int n),.some (.int z),.some (.str k2.nam),.some (.int n2),.some (zH r'),.some nn,v8,.some (zH r'),.some (zP A k n),.some nn,.some .non],?_,?_⟩
  ·exact ⟨_,rfl,rfl,rfl,rfl,_,rfl,ifF e2 (ifF rfl rfl)⟩
  rintro ρ rfl
  exact fin _ _
 | true=>
  have hd:d=.lst []:=by rw [hd,hh]; rfl
  subst hd
  obtain ⟨r2,hw2,hl2⟩:=Zl (b:=200) hn2 hh ⟨by rw [hre.1]; exact Nat.le_trans w1 hP,by rw [hre.2]; exact Nat.le_trans w2 hP⟩ (by decide) (by decide)
  have hL2:=nc hn2 hh hw2
  refine ⟨k,n,r',k2,n2,rfl,hn,hn2,by omega,.inr (.inr ⟨hL,hh,r2,hw2,_,_,rfl,?_⟩)⟩
  refine ⟨fun ρ=>ρ=[.some (.scr ns),.some (.str k.nam),.some (.int n),.some (.int z),.some (.str k2.nam),.some (.int n2),.some (zH r'),.some (.lst []),v8,.some (zH r'),.some (zP A k n),.some (.lst []),.own (r2.map Dt.int)],?_,?_⟩
  ·refine ⟨_,rfl,_,rfl,rfl,rfl,_,rfl,ifF (nT s0) ?_⟩
   exact ⟨_,rfl,_,rfl,yf r',yf r',_,rfl,ifF (nT er) rfl⟩
  rintro ρ rfl
  refine ⟨fun ρ=>ρ=[.some (.scr ns),.some (.str k.nam),.some (.int n),.some (.int z),.some (.str k2.nam),.some (.int n2),.some (zH r'),.some (.lst []),v8,.some (zH r'),.some (zP A k n),.some (.lst []),.own (r2.map Dt.int)],?_,?_⟩
  ·refine ⟨_,rfl,rfl,rfl,rfl,_,rfl,ifT s0 ?_⟩
   exact ⟨_,rfl,_,rfl,_,rfl,k2,n2,r2,rfl,hn2,hL2,by omega,_,rfl,ifF rfl rfl⟩
  rintro ρ rfl
  exact fin _ _
end
section
variable (K:PySem.W.Frag)
def FX (n q:Str) (st:Stmt) (f:Addr):Prop:=∃ oc od kV dc pm an cd ct sl,K.lookup f=some ⟨oc,od,.func (PySem.W.fnOf n q (defArgs st) (defBody st) (defScope st) .none kV dc pm an cd ct),sl⟩∧PySem.W.codeIn K cd q=true∧PySem.W.keepIn K (.ref f)=true
def FD (n:Str) (st:Stmt) (f:Addr):Prop:=PySem.W.nsIn K mainGlobals n=some (some (.ref f))∧FX K n n st f
def FM (n q:Str) (st:Stmt) (f:Addr):Prop:=PySem.W.isFn K (.ref f)=true∧FX K n q st f
def Fi (C:Addr) (n:Str) (f:Addr):Prop:=PySem.W.findIn K (.ref C) n=some (some (.ref f))
def Ki (C D:Addr) (b:Bool):Prop:=PySem.W.kitOne K (.ref C) (.ref D)=some b
def Zn (n:Str):Prop:=PySem.W.nsIn K mainGlobals n=some none
structure ClR (C:Addr) (x:Str):Prop where
 cls:Cls K C
 mks:PySem.W.makesIn K C=true
 kc:PySem.W.keepIn K (.ref C)=true
 na:PySem.W.findIn K (.ref C) x=some none
structure IR (C:Addr):Prop where
 ia:PySem.W.findIn K (.ref C) "__class__"=some (some (.builtin "object.__class__"))
 im:PySem.W.mroIn K C (.type "object")=some true
variable {K} {n q:Str} {st:Stmt} {f:Addr}
theorem FX.mk {oc od kV dc pm an cd ct sl} (l:K.lookup f=some ⟨oc,od,.func (PySem.W.fnOf n q (defArgs st) (defBody st) (defScope st) .none kV dc pm an cd ct),sl⟩) (c:PySem.W.codeIn K cd q=true) (k:PySem.W.keepIn K (.ref f)=true):FX K n q st f:=⟨_,_,_,_,_,_,_,_,_,l,c,k⟩
theorem FX.get (r:FX K n q st f) (ps:List Str) (h:∀ (kV doc pm:Value) (an:Option Addr) (cdv ct:Value) (us:List Value),us.length=ps.length→bindArgs (PySem.W.fnOf n q (defArgs st) (defBody st) (defScope st) .none kV doc pm an cdv ct) ⟨us,[]⟩=pure (ps.zip us)):∃ fd,Fun K n q st f fd∧Binds K fd ps []:=
 let ⟨_,_,_,_,_,_,_,_,_,l,c,k⟩:=r; ⟨_,jc l c k,(jc l c k).binds h⟩
theorem FD.get (r:FD K n st f) {h:Heap} {mg:Str→Option Value} (X:K.In h) (G:h.Ns mainGlobals mg) (ps:List Str) (h:∀ (kV doc pm:Value) (an:Option Addr) (cdv ct:Value) (us:List Value),us.length=ps.length→bindArgs (PySem.W.fnOf n n (defArgs st) (defBody st) (defScope st) .none kV doc pm an cdv ct) ⟨us,[]⟩=pure (ps.zip us)):∃ fd,mg n=some (.ref f)∧Fun K n n st f fd∧Binds K fd ps []:=
 let ⟨fd,F,b⟩:=r.2.get ps h; ⟨fd,PySem.W.mg_of X G r.1,F,b⟩
theorem FM.get (r:FM K n q st f) (ps:List Str) (h:∀ (kV doc pm:Value) (an:Option Addr) (cdv ct:Value) (us:List Value),us.length=ps.length→bindArgs (PySem.W.fnOf n q (defArgs st) (defBody st) (defScope st) .none kV doc pm an cdv ct) ⟨us,[]⟩=pure (ps.zip us)):∃ fd,Fun K n q st f fd∧Binds K fd ps []:=r.2.get ps h
end
theorem all_mk {l:PySem.W.OpenLaw} {w:World} {K:PySem.W.Frag} {h:Heap} {mg:Str→Option Value} {fa:Addr} (X:K.In h) (G:h.Ns mainGlobals mg) (hfa:mg "law"=some (.ref fa))
 {C_Plain C_Below C_Balanced C_Growing C_Falling C_Pairs C_OddError C_NoWriting C_NoNumber C_NoPairs C_NoWay C_TooLess C_NoRatio C_NoFalling C_Nought C_NoSpan C_NoTotal C_NoText C_NoRow f1 f2 f3 f4 f5 f6 f7 f8 f9 f10 f11 f12 f13 f14 f15 f16 f17 f18 f19 f20 f21 f22 f23 f24 f25 f26 f27 f28 f29 f30 f31 f32 f33 f34 f35 f36 f37 f38 f39 f40 f41 f42 f43 f44 f45 f46 f47 f48 f49 f50 f51 f52 f53 f54 f55 f56 f57 f58 f59 f60 f61:Addr}
 (aC_Plain:PySem.W.nsIn K mainGlobals "Plain"=some (some (.ref C_Plain)))
 (aC_Below:PySem.W.nsIn K mainGlobals "Below"=some (some (.ref C_Below)))
 (aC_Balanced:PySem.W.nsIn K mainGlobals "Balanced"=some (some (.ref C_Balanced)))
 (aC_Growing:PySem.W.nsIn K mainGlobals "Growing"=some (some (.ref C_Growing)))
 (aC_Falling:PySem.W.nsIn K mainGlobals "Falling"=some (some (.ref C_Falling)))
 (aC_Pairs:PySem.W.nsIn K mainGlobals "Pairs"=some (some (.ref C_Pairs)))
 (aC_OddError:PySem.W.nsIn K mainGlobals "OddError"=some (some (.ref C_OddError)))
 (aC_NoWriting:PySem.W.nsIn K mainGlobals "NoWriting"=some (some (.ref C_NoWriting)))
 (aC_NoNumber:PySem.W.nsIn K mainGlobals "NoNumber"=some (some (.ref C_NoNumber)))
 (aC_NoPairs:PySem.W.nsIn K mainGlobals "NoPairs"=some (some (.ref C_NoPairs)))
 (aC_NoWay:PySem.W.nsIn K mainGlobals "NoWay"=some (some (.ref C_NoWay)))
 (aC_TooLess:PySem.W.nsIn K mainGlobals "TooLess"=some (some (.ref C_TooLess)))
 (aC_NoRatio:PySem.W.nsIn K mainGlobals "NoRatio"=some (some (.ref C_NoRatio)))
 (aC_NoFalling:PySem.W.nsIn K mainGlobals "NoFalling"=some (some (.ref C_NoFalling)))
 (aC_Nought:PySem.W.nsIn K mainGlobals "Nought"=some (some (.ref C_Nought)))
 (aC_NoSpan:PySem.W.nsIn K mainGlobals "NoSpan"=some (some (.ref C_NoSpan)))
 (aC_NoTotal:PySem.W.nsIn K mainGlobals "NoTotal"=some (some (.ref C_NoTotal)))
 (aC_NoText:PySem.W.nsIn K mainGlobals "NoText"=some (some (.ref C_NoText)))
 (aC_NoRow:PySem.W.nsIn K mainGlobals "NoRow"=some (some (.ref C_NoRow)))
 (r1:FD K "_law_chosen" xS f1)
 (r2:FD K "_law_cell_at" xo f2)
 (r3:FD K "_law_low" uE f3)
 (r4:FD K "_law_high" ve f4)
 (r5:FD K "_law_row_by" xR f5)
 (r6:FD K "_law_spoilt" xQ f6)
 (r7:FD K "_law_next" vd f7)
 (r8:FD K "_law_pair_of" xn f8)
 (r9:FD K "is_whole" vf f9)
 (r10:FD K "bounded" uG f10)
 (a11_Plain:Fi K C_Plain "__init__" f11)
 (r11:FM K "__init__" "Plain.__init__" yT f11)
 (a12_Below:Fi K C_Below "__init__" f12)
 (r12:FM K "__init__" "Below.__init__" yV f12)
 (a13_Balanced:Fi K C_Balanced "__init__" f13)
 (r13:FM K "__init__" "Balanced.__init__" yn f13)
 (a14_Growing:Fi K C_Growing "__init__" f14)
 (r14:FM K "__init__" "Growing.__init__" yw f14)
 (a15_Falling:Fi K C_Falling "__init__" f15)
 (r15:FM K "__init__" "Falling.__init__" yy f15)
 (a16_Pairs:Fi K C_Pairs "__init__" f16)
 (r16:FM K "__init__" "Pairs.__init__" yU f16)
 (r17:FD K "_law_way" uD f17)
 (r18:FD K "has_mosts_above_noughts_alone" zG f18)
 (a19_Plain:Fi K C_Plain "low" f19)
 (a19_Below:Fi K C_Below "low" f19)
 (a19_Growing:Fi K C_Growing "low" f19)
 (a19_Falling:Fi K C_Falling "low" f19)
 (a19_Pairs:Fi K C_Pairs "low" f19)
 (r19:FM K "low" "Way.low" uI f19)
 (a20_Balanced:Fi K C_Balanced "low" f20)
 (r20:FM K "low" "Balanced.low" xf f20)
 (a21_Plain:Fi K C_Plain "high" f21)
 (r21:FM K "high" "Plain.high" xV f21)
 (a22_Below:Fi K C_Below "high" f22)
 (r22:FM K "high" "Below.high" xX f22)
 (a23_Balanced:Fi K C_Balanced "high" f23)
 (r23:FM K "high" "Balanced.high" yL f23)
 (a24_Growing:Fi K C_Growing "high" f24)
 (r24:FM K "high" "Growing.high" xb f24)
 (a25_Falling:Fi K C_Falling "high" f25)
 (r25:FM K "high" "Falling.high" xc f25)
 (a26_Pairs:Fi K C_Pairs "high" f26)
 (r26:FM K "high" "Pairs.high" xW f26)
 (r27:FD K "has_figures_alone" yj f27)
 (r28:FD K "is_writing" xT f28)
 (r29:FD K "held_to_be_writings" z5 f29)
 (r30:FD K "trimmed" uB f30)
 (r31:FD K "as_pair" uH f31)
 (r32:FD K "added" oe f32)
 (r33:FD K "multiplied" xP f33)
 (a34_Plain:Fi K C_Plain "nought" f34)
 (a34_Below:Fi K C_Below "nought" f34)
 (a34_Balanced:Fi K C_Balanced "nought" f34)
 (a34_Growing:Fi K C_Growing "nought" f34)
 (a34_Falling:Fi K C_Falling "nought" f34)
 (r34:FM K "nought" "Way.nought" xU f34)
 (a35_Pairs:Fi K C_Pairs "nought" f35)
 (r35:FM K "nought" "Pairs.nought" xa f35)
 (a36_Plain:Fi K C_Plain "ratio" f36)
 (r36:FM K "ratio" "Plain.ratio" xq f36)
 (a37_Below:Fi K C_Below "ratio" f37)
 (r37:FM K "ratio" "Below.ratio" xu f37)
 (a38_Balanced:Fi K C_Balanced "ratio" f38)
 (r38:FM K "ratio" "Balanced.ratio" yF f38)
 (a39_Growing:Fi K C_Growing "ratio" f39)
 (r39:FM K "ratio" "Growing.ratio" yK f39)
 (a40_Pairs:Fi K C_Pairs "ratio" f40)
 (r40:FM K "ratio" "Pairs.ratio" xt f40)
 (a41_Plain:Fi K C_Plain "weights" f41)
 (a41_Below:Fi K C_Below "weights" f41)
 (a41_Balanced:Fi K C_Balanced "weights" f41)
 (a41_Growing:Fi K C_Growing "weights" f41)
 (a41_Pairs:Fi K C_Pairs "weights" f41)
 (r41:FM K "weights" "Way.weights" xp f41)
 (a42_Falling:Fi K C_Falling "weights" f42)
 (r42:FM K "weights" "Falling.weights" yx f42)
 (r43:FD K "written_by_weights" z9 f43)
 (r44:FD K "thing_at" vb f44)
 (a45_Plain:Fi K C_Plain "has" f45)
 (a45_Growing:Fi K C_Growing "has" f45)
 (a45_Falling:Fi K C_Falling "has" f45)
 (r45:FM K "has" "Way.has" uJ f45)
 (a46_Below:Fi K C_Below "has" f46)
 (r46:FM K "has" "Below.has" wu f46)
 (a47_Balanced:Fi K C_Balanced "has" f47)
 (r47:FM K "has" "Balanced.has" xg f47)
 (r48:FD K "is_pair" uF f48)
 (a49_Pairs:Fi K C_Pairs "has" f49)
 (r49:FM K "has" "Pairs.has" wr f49)
 (a50_Plain:Fi K C_Plain "split" f50)
 (a50_Below:Fi K C_Below "split" f50)
 (a50_Balanced:Fi K C_Balanced "split" f50)
 (a50_Growing:Fi K C_Growing "split" f50)
 (r50:FM K "split" "Way.split" wq f50)
 (a51_Pairs:Fi K C_Pairs "split" f51)
 (r51:FM K "split" "Pairs.split" xr f51)
 (r52:FD K "figures_and_carries" z6 f52)
 (r53:FD K "settled" uC f53)
 (r54:FD K "written" uA f54)
 (r55:FD K "as_wanted" wo f55)
 (r56:FD K "worth" p8 f56)
 (r57:FD K "moved" p9 f57)
 (r58:FD K "_law_names" xm f58)
 (r59:FD K "_law_asked" wn f59)
 (r60:FD K "_law_is_writing" yE f60)
 (r61:FD K "law" sR f61)
 (c_Plain:ClR K C_Plain "base")
 (c_Below:ClR K C_Below "base")
 (c_Balanced:ClR K C_Balanced "half")
 (c_Growing:ClR K C_Growing "first")
 (c_Falling:ClR K C_Falling "most")
 (c_Pairs:ClR K C_Pairs "most")
 (i_Plain:IR K C_Plain)
 (ki_Plain_Falling:Ki K C_Plain C_Falling false)
 (ki_Plain_Pairs:Ki K C_Plain C_Pairs false)
 (i_Below:IR K C_Below)
 (ki_Below_Falling:Ki K C_Below C_Falling false)
 (ki_Below_Pairs:Ki K C_Below C_Pairs false)
 (i_Balanced:IR K C_Balanced)
 (ki_Balanced_Falling:Ki K C_Balanced C_Falling false)
 (ki_Balanced_Pairs:Ki K C_Balanced C_Pairs false)
 (i_Growing:IR K C_Growing)
 (ki_Growing_Falling:Ki K C_Growing C_Falling false)
 (ki_Growing_Pairs:Ki K C_Growing C_Pairs false)
 (i_Falling:IR K C_Falling)
 (ki_Falling_Falling:Ki K C_Falling C_Falling true)
 (ki_Falling_Pairs:Ki K C_Falling C_Pairs false)
 (i_Pairs:IR K C_Pairs)
 (ki_Pairs_Falling:Ki K C_Pairs C_Falling false)
 (ki_Pairs_Pairs:Ki K C_Pairs C_Pairs true)
 (in_:PySem.W.specialIn K (.builtin "object.__class__") "__get__"=some (some (.builtin "getset_descriptor.__get__")))
 (it_:PySem.W.takesIn K (.builtin "object.__class__")=some true)
 (ex_NoWriting:ExcK K C_NoWriting)
 (ix_NoWriting:tF K C_NoWriting)
 (em_NoWriting_OddError:PySem.W.exmOne K (.ref C_NoWriting) (.ref C_OddError)=some true)
 (kx_NoWriting_OddError:Ki K C_NoWriting C_OddError true)
 (kx_NoWriting_NoWriting:Ki K C_NoWriting C_NoWriting true)
 (kx_NoWriting_NoNumber:Ki K C_NoWriting C_NoNumber false)
 (kx_NoWriting_NoPairs:Ki K C_NoWriting C_NoPairs false)
 (kx_NoWriting_NoWay:Ki K C_NoWriting C_NoWay false)
 (kx_NoWriting_TooLess:Ki K C_NoWriting C_TooLess false)
 (kx_NoWriting_NoRatio:Ki K C_NoWriting C_NoRatio false)
 (kx_NoWriting_NoFalling:Ki K C_NoWriting C_NoFalling false)
 (kx_NoWriting_Nought:Ki K C_NoWriting C_Nought false)
 (kx_NoWriting_NoSpan:Ki K C_NoWriting C_NoSpan false)
 (kx_NoWriting_NoTotal:Ki K C_NoWriting C_NoTotal false)
 (kx_NoWriting_NoText:Ki K C_NoWriting C_NoText false)
 (kx_NoWriting_NoRow:Ki K C_NoWriting C_NoRow false)
 (kx_NoWriting_ValueError:PySem.W.kitOne K (.ref C_NoWriting) (.type "ValueError")=some true)
 (ex_NoNumber:ExcK K C_NoNumber)
 (ix_NoNumber:tF K C_NoNumber)
 (em_NoNumber_OddError:PySem.W.exmOne K (.ref C_NoNumber) (.ref C_OddError)=some true)
 (kx_NoNumber_OddError:Ki K C_NoNumber C_OddError true)
 (kx_NoNumber_NoWriting:Ki K C_NoNumber C_NoWriting false)
 (kx_NoNumber_NoNumber:Ki K C_NoNumber C_NoNumber true)
 (kx_NoNumber_NoPairs:Ki K C_NoNumber C_NoPairs false)
 (kx_NoNumber_NoWay:Ki K C_NoNumber C_NoWay false)
 (kx_NoNumber_TooLess:Ki K C_NoNumber C_TooLess false)
 (kx_NoNumber_NoRatio:Ki K C_NoNumber C_NoRatio false)
 (kx_NoNumber_NoFalling:Ki K C_NoNumber C_NoFalling false)
 (kx_NoNumber_Nought:Ki K C_NoNumber C_Nought false)
 (kx_NoNumber_NoSpan:Ki K C_NoNumber C_NoSpan false)
 (kx_NoNumber_NoTotal:Ki K C_NoNumber C_NoTotal false)
 (kx_NoNumber_NoText:Ki K C_NoNumber C_NoText false)
 (kx_NoNumber_NoRow:Ki K C_NoNumber C_NoRow false)
 (kx_NoNumber_ValueError:PySem.W.kitOne K (.ref C_NoNumber) (.type "ValueError")=some true)
 (z_isinstance:Zn K "isinstance")
 (z_int:Zn K "int")
 (z_bool:Zn K "bool")
 (z_tuple:Zn K "tuple")
 (z_list:Zn K "list")
 (z_len:Zn K "len")
 (z_range:Zn K "range")
 (z_zip:Zn K "zip")
 (z_enumerate:Zn K "enumerate")
 (z_reversed:Zn K "reversed")
 (z_ValueError:Zn K "ValueError"):
 ∃ fd:FuncData,(∀ (s:Shared) (v:Value),BindsTo s fd ⟨[v],[]⟩ [("_law_script",v)])∧∀ base:Heap,K.In base→base.Ns mainGlobals mg→FnOk l.prog w K mg base CX0 10 fa fd ["_law_script"] (zv K (j7)):=by
 let A:Adr:=⟨C_Plain,C_Below,C_Balanced,C_Growing,C_Falling,C_Pairs,C_OddError,C_NoWriting,C_NoNumber,C_NoPairs,C_NoWay,C_TooLess,C_NoRatio,C_NoFalling,C_Nought,C_NoSpan,C_NoTotal,C_NoText,C_NoRow⟩
 have T:Txt K mg A:=⟨PM K,PySem.W.mg_none_of X G z_isinstance,PySem.W.mg_none_of X G z_int,PySem.W.mg_none_of X G z_bool,PySem.W.mg_none_of X G z_tuple,PySem.W.mg_none_of X G z_list,PySem.W.mg_none_of X G z_len,PySem.W.mg_none_of X G z_range,PySem.W.mg_none_of X G z_zip,PySem.W.mg_none_of X G z_enumerate,PySem.W.mg_none_of X G z_reversed,PySem.W.mg_none_of X G z_ValueError,c_Plain.cls,c_Plain.na,c_Below.cls,c_Below.na,c_Balanced.cls,c_Balanced.na,c_Growing.cls,c_Growing.na,c_Falling.cls,c_Falling.na,c_Pairs.cls,c_Pairs.na,PySem.W.mg_of X G aC_Falling,PySem.W.mg_of X G aC_Pairs,⟨c_Plain.cls,i_Plain.1,in_,it_,i_Plain.2⟩,ki_Plain_Falling,ki_Plain_Pairs,⟨c_Below.cls,i_Below.1,in_,it_,i_Below.2⟩,ki_Below_Falling,ki_Below_Pairs,⟨c_Balanced.cls,i_Balanced.1,in_,it_,i_Balanced.2⟩,ki_Balanced_Falling,ki_Balanced_Pairs,⟨c_Growing.cls,i_Growing.1,in_,it_,i_Growing.2⟩,ki_Growing_Falling,ki_Growing_Pairs,⟨c_Falling.cls,i_Falling.1,in_,it_,i_Falling.2⟩,ki_Falling_Falling,ki_Falling_Pairs,⟨c_Pairs.cls,i_Pairs.1,in_,it_,i_Pairs.2⟩,ki_Pairs_Falling,ki_Pairs_Pairs,PySem.W.mg_of X G aC_OddError,PySem.W.mg_of X G aC_NoWriting,PySem.W.mg_of X G aC_NoNumber,PySem.W.mg_of X G aC_NoPairs,PySem.W.mg_of X G aC_NoWay,PySem.W.mg_of X G aC_TooLess,PySem.W.mg_of X G aC_NoRatio,PySem.W.mg_of X G aC_NoFalling,PySem.W.mg_of X G aC_Nought,PySem.W.mg_of X G aC_NoSpan,PySem.W.mg_of X G aC_NoTotal,PySem.W.mg_of X G aC_NoText,PySem.W.mg_of X G aC_NoRow,ex_NoWriting,ix_NoWriting,em_NoWriting_OddError,kx_NoWriting_OddError,kx_NoWriting_NoWriting,kx_NoWriting_NoNumber,kx_NoWriting_NoPairs,kx_NoWriting_NoWay,kx_NoWriting_TooLess,kx_NoWriting_NoRatio,kx_NoWriting_NoFalling,kx_NoWriting_Nought,kx_NoWriting_NoSpan,kx_NoWriting_NoTotal,kx_NoWriting_NoText,kx_NoWriting_NoRow,kx_NoWriting_ValueError,ex_NoNumber,ix_NoNumber,em_NoNumber_OddError,kx_NoNumber_OddError,kx_NoNumber_NoWriting,kx_NoNumber_NoNumber,kx_NoNumber_NoPairs,kx_NoNumber_NoWay,kx_NoNumber_TooLess,kx_NoNumber_NoRatio,kx_NoNumber_NoFalling,kx_NoNumber_Nought,kx_NoNumber_NoSpan,kx_NoNumber_NoTotal,kx_NoNumber_NoText,kx_NoNumber_NoRow,kx_NoNumber_ValueError⟩
 obtain ⟨_,m1,F1,b1⟩:=r1.get X G ["_law_cell"] fun _ _ _ _ _ _ us hl=>match us,hl with | [_],_=>rfl
 obtain ⟨_,m2,F2,b2⟩:=r2.get X G ["_law_script","_law_k"] fun _ _ _ _ _ _ us hl=>match us,hl with | [_,_],_=>rfl
 obtain ⟨_,m3,F3,b3⟩:=r3.get X G ["_law_name","_law_number"] fun _ _ _ _ _ _ us hl=>match us,hl with | [_,_],_=>rfl
 obtain ⟨_,m4,F4,b4⟩:=r4.get X G ["_law_name","_law_number","_law_place"] fun _ _ _ _ _ _ us hl=>match us,hl with | [_,_,_],_=>rfl
 obtain ⟨_,m5,F5,b5⟩:=r5.get X G ["_law_name","_law_number","_law_cells"] fun _ _ _ _ _ _ us hl=>match us,hl with | [_,_,_],_=>rfl
 obtain ⟨_,m6,F6,b6⟩:=r6.get X G ["_law_name","_law_number","_law_row","_law_cell"] fun _ _ _ _ _ _ us hl=>match us,hl with | [_,_,_,_],_=>rfl
 obtain ⟨_,m7,F7,b7⟩:=r7.get X G ["_law_name","_law_number","_law_place","_law_here","_law_lower"] fun _ _ _ _ _ _ us hl=>match us,hl with | [_,_,_,_,_],_=>rfl
 obtain ⟨_,m8,F8,b8⟩:=r8.get X G ["_law_name","_law_number","_law_row"] fun _ _ _ _ _ _ us hl=>match us,hl with | [_,_,_],_=>rfl
 obtain ⟨_,m9,F9,b9⟩:=r9.get X G ["value"] fun _ _ _ _ _ _ us hl=>match us,hl with | [_],_=>rfl
 obtain ⟨_,m10,F10,b10⟩:=r10.get X G ["number","least","most"] fun _ _ _ _ _ _ us hl=>match us,hl with | [_,_,_],_=>rfl
 obtain ⟨_,F11,b11⟩:=r11.get ["self","base"] fun _ _ _ _ _ _ us hl=>match us,hl with | [_,_],_=>rfl
 obtain ⟨_,F12,b12⟩:=r12.get ["self","base"] fun _ _ _ _ _ _ us hl=>match us,hl with | [_,_],_=>rfl
 obtain ⟨_,F13,b13⟩:=r13.get ["self","half"] fun _ _ _ _ _ _ us hl=>match us,hl with | [_,_],_=>rfl
 obtain ⟨_,F14,b14⟩:=r14.get ["self","first"] fun _ _ _ _ _ _ us hl=>match us,hl with | [_,_],_=>rfl
 obtain ⟨_,F15,b15⟩:=r15.get ["self","most"] fun _ _ _ _ _ _ us hl=>match us,hl with | [_,_],_=>rfl
 obtain ⟨_,F16,b16⟩:=r16.get ["self","most"] fun _ _ _ _ _ _ us hl=>match us,hl with | [_,_],_=>rfl
 obtain ⟨_,m17,F17,b17⟩:=r17.get X G ["_law_name","_law_number"] fun _ _ _ _ _ _ us hl=>match us,hl with | [_,_],_=>rfl
 obtain ⟨_,m18,F18,b18⟩:=r18.get X G ["way","row"] fun _ _ _ _ _ _ us hl=>match us,hl with | [_,_],_=>rfl
 obtain ⟨_,F19,b19⟩:=r19.get ["self","place"] fun _ _ _ _ _ _ us hl=>match us,hl with | [_,_],_=>rfl
 obtain ⟨_,F20,b20⟩:=r20.get ["self","place"] fun _ _ _ _ _ _ us hl=>match us,hl with | [_,_],_=>rfl
 obtain ⟨_,F21,b21⟩:=r21.get ["self","place"] fun _ _ _ _ _ _ us hl=>match us,hl with | [_,_],_=>rfl
 obtain ⟨_,F22,b22⟩:=r22.get ["self","place"] fun _ _ _ _ _ _ us hl=>match us,hl with | [_,_],_=>rfl
 obtain ⟨_,F23,b23⟩:=r23.get ["self","place"] fun _ _ _ _ _ _ us hl=>match us,hl with | [_,_],_=>rfl
 obtain ⟨_,F24,b24⟩:=r24.get ["self","place"] fun _ _ _ _ _ _ us hl=>match us,hl with | [_,_],_=>rfl
 obtain ⟨_,F25,b25⟩:=r25.get ["self","place"] fun _ _ _ _ _ _ us hl=>match us,hl with | [_,_],_=>rfl
 obtain ⟨_,F26,b26⟩:=r26.get ["self","place"] fun _ _ _ _ _ _ us hl=>match us,hl with | [_,_],_=>rfl
 obtain ⟨_,m27,F27,b27⟩:=r27.get X G ["way","row"] fun _ _ _ _ _ _ us hl=>match us,hl with | [_,_],_=>rfl
 obtain ⟨_,m28,F28,b28⟩:=r28.get X G ["way","row"] fun _ _ _ _ _ _ us hl=>match us,hl with | [_,_],_=>rfl
 obtain ⟨_,m29,F29,b29⟩:=r29.get X G ["way","rows"] fun _ _ _ _ _ _ us hl=>match us,hl with | [_,_],_=>rfl
 obtain ⟨_,m30,F30,b30⟩:=r30.get X G ["row"] fun _ _ _ _ _ _ us hl=>match us,hl with | [_],_=>rfl
 obtain ⟨_,m31,F31,b31⟩:=r31.get X G ["number"] fun _ _ _ _ _ _ us hl=>match us,hl with | [_],_=>rfl
 obtain ⟨_,m32,F32,b32⟩:=r32.get X G ["one","other"] fun _ _ _ _ _ _ us hl=>match us,hl with | [_,_],_=>rfl
 obtain ⟨_,m33,F33,b33⟩:=r33.get X G ["one","other"] fun _ _ _ _ _ _ us hl=>match us,hl with | [_,_],_=>rfl
 obtain ⟨_,F34,b34⟩:=r34.get ["self"] fun _ _ _ _ _ _ us hl=>match us,hl with | [_],_=>rfl
 obtain ⟨_,F35,b35⟩:=r35.get ["self"] fun _ _ _ _ _ _ us hl=>match us,hl with | [_],_=>rfl
 obtain ⟨_,F36,b36⟩:=r36.get ["self","place"] fun _ _ _ _ _ _ us hl=>match us,hl with | [_,_],_=>rfl
 obtain ⟨_,F37,b37⟩:=r37.get ["self","place"] fun _ _ _ _ _ _ us hl=>match us,hl with | [_,_],_=>rfl
 obtain ⟨_,F38,b38⟩:=r38.get ["self","place"] fun _ _ _ _ _ _ us hl=>match us,hl with | [_,_],_=>rfl
 obtain ⟨_,F39,b39⟩:=r39.get ["self","place"] fun _ _ _ _ _ _ us hl=>match us,hl with | [_,_],_=>rfl
 obtain ⟨_,F40,b40⟩:=r40.get ["self","place"] fun _ _ _ _ _ _ us hl=>match us,hl with | [_,_],_=>rfl
 obtain ⟨_,F41,b41⟩:=r41.get ["self","many"] fun _ _ _ _ _ _ us hl=>match us,hl with | [_,_],_=>rfl
 obtain ⟨_,F42,b42⟩:=r42.get ["self","many"] fun _ _ _ _ _ _ us hl=>match us,hl with | [_,_],_=>rfl
 obtain ⟨_,m43,F43,b43⟩:=r43.get X G ["way","number"] fun _ _ _ _ _ _ us hl=>match us,hl with | [_,_],_=>rfl
 obtain ⟨_,m44,F44,b44⟩:=r44.get X G ["row","place"] fun _ _ _ _ _ _ us hl=>match us,hl with | [_,_],_=>rfl
 obtain ⟨_,F45,b45⟩:=r45.get ["self","number"] fun _ _ _ _ _ _ us hl=>match us,hl with | [_,_],_=>rfl
 obtain ⟨_,F46,b46⟩:=r46.get ["self","number"] fun _ _ _ _ _ _ us hl=>match us,hl with | [_,_],_=>rfl
 obtain ⟨_,F47,b47⟩:=r47.get ["self","number"] fun _ _ _ _ _ _ us hl=>match us,hl with | [_,_],_=>rfl
 obtain ⟨_,m48,F48,b48⟩:=r48.get X G ["value"] fun _ _ _ _ _ _ us hl=>match us,hl with | [_],_=>rfl
 obtain ⟨_,F49,b49⟩:=r49.get ["self","number"] fun _ _ _ _ _ _ us hl=>match us,hl with | [_,_],_=>rfl
 obtain ⟨_,F50,b50⟩:=r50.get ["self","total","place"] fun _ _ _ _ _ _ us hl=>match us,hl with | [_,_,_],_=>rfl
 obtain ⟨_,F51,b51⟩:=r51.get ["self","total","place"] fun _ _ _ _ _ _ us hl=>match us,hl with | [_,_,_],_=>rfl
 obtain ⟨_,m52,F52,b52⟩:=r52.get X G ["way","totals"] fun _ _ _ _ _ _ us hl=>match us,hl with | [_,_],_=>rfl
 obtain ⟨_,m53,F53,b53⟩:=r53.get X G ["way","totals"] fun _ _ _ _ _ _ us hl=>match us,hl with | [_,_],_=>rfl
 obtain ⟨_,m54,F54,b54⟩:=r54.get X G ["way","number"] fun _ _ _ _ _ _ us hl=>match us,hl with | [_,_],_=>rfl
 obtain ⟨_,m55,F55,b55⟩:=r55.get X G ["way","number"] fun _ _ _ _ _ _ us hl=>match us,hl with | [_,_],_=>rfl
 obtain ⟨_,m56,F56,b56⟩:=r56.get X G ["way","row"] fun _ _ _ _ _ _ us hl=>match us,hl with | [_,_],_=>rfl
 obtain ⟨_,m57,F57,b57⟩:=r57.get X G ["way","row","other"] fun _ _ _ _ _ _ us hl=>match us,hl with | [_,_,_],_=>rfl
 obtain ⟨_,m58,F58,b58⟩:=r58.get X G ["_law_e"] fun _ _ _ _ _ _ us hl=>match us,hl with | [_],_=>rfl
 obtain ⟨_,m59,F59,b59⟩:=r59.get X G ["_law_way_here","_law_row","_law_other"] fun _ _ _ _ _ _ us hl=>match us,hl with | [_,_,_],_=>rfl
 obtain ⟨_,m60,F60,b60⟩:=r60.get X G ["_law_name","_law_number","_law_row"] fun _ _ _ _ _ _ us hl=>match us,hl with | [_,_,_],_=>rfl
 obtain ⟨a61,_,_,kV,dc,pm,an,cd,ct,_,l61,c61,k61⟩:=r61
 cases hfa.symm.trans (PySem.W.mg_of X G a61)
 have F61:=jc (st:=sR) l61 c61 k61
 refine ⟨PySem.W.fnOf "law" "law" (defArgs sR) (defBody sR) (defScope sR) .none kV dc pm an cd ct,fun s v=>.of_eq rfl,fun base _ _=>?_⟩
 have G__law_chosen:=DOk.mk' F1 m1 b1 (ql (P:=l.prog) (w:=w) (base:=base) T F1)
 have G__law_cell_at:=DOk.mk' F2 m2 b2 (sU (P:=l.prog) (w:=w) (base:=base) T F2)
 have G__law_low:=DOk.mk' F3 m3 b3 (lL (P:=l.prog) (w:=w) (base:=base) T F3)
 have G__law_high:=DOk.mk' F4 m4 b4 (nL (P:=l.prog) (w:=w) (base:=base) T F4)
 have G__law_row_by:=DOk.mk' F5 m5 b5 (qk T G__law_low G__law_high F5)
 have G__law_spoilt:=DOk.mk' F6 m6 b6 (qj T G__law_high G__law_low F6)
 have G__law_next:=DOk.mk' F7 m7 b7 (nK (P:=l.prog) (w:=w) (base:=base) T F7)
 have G__law_pair_of:=DOk.mk' F8 m8 b8 (sT T G__law_next F8)
 have G_is_whole:=DOk.mk' F9 m9 b9 (nM (P:=l.prog) (w:=w) (base:=base) T F9)
 have G_bounded:=DOk.mk' F10 m10 b10 (lN T G_is_whole F10)
 have M_Plain:KOk l.prog w K mg base 3 "Plain" A.Plain "base" (Kd.ok .plain):=⟨_,_,_,PySem.W.mg_of X G aC_Plain,⟨c_Plain.mks,a11_Plain,r11.1,c_Plain.kc⟩,b11,qo T G_bounded F11⟩
 have M_Below:KOk l.prog w K mg base 3 "Below" A.Below "base" (Kd.ok .below):=⟨_,_,_,PySem.W.mg_of X G aC_Below,⟨c_Below.mks,a12_Below,r12.1,c_Below.kc⟩,b12,qt T G_bounded F12⟩
 have M_Balanced:KOk l.prog w K mg base 3 "Balanced" A.Balanced "half" (Kd.ok .balanced):=⟨_,_,_,PySem.W.mg_of X G aC_Balanced,⟨c_Balanced.mks,a13_Balanced,r13.1,c_Balanced.kc⟩,b13,uM T G_bounded F13⟩
 have M_Growing:KOk l.prog w K mg base 3 "Growing" A.Growing "first" (Kd.ok .growing):=⟨_,_,_,PySem.W.mg_of X G aC_Growing,⟨c_Growing.mks,a14_Growing,r14.1,c_Growing.kc⟩,b14,tP T G_bounded F14⟩
 have M_Falling:KOk l.prog w K mg base 3 "Falling" A.Falling "most" (Kd.ok .falling):=⟨_,_,_,PySem.W.mg_of X G aC_Falling,⟨c_Falling.mks,a15_Falling,r15.1,c_Falling.kc⟩,b15,tR T G_bounded F15⟩
 have M_Pairs:KOk l.prog w K mg base 3 "Pairs" A.Pairs "most" (Kd.ok .pairs):=⟨_,_,_,PySem.W.mg_of X G aC_Pairs,⟨c_Pairs.mks,a16_Pairs,r16.1,c_Pairs.kc⟩,b16,qr T G_bounded F16⟩
 have G__law_way:=DOk.mk' F17 m17 b17 (lK T M_Plain M_Below M_Balanced M_Growing M_Falling M_Pairs F17)
 have G_has_mosts_above_noughts_alone:=DOk.mk' F18 m18 b18 (yA (P:=l.prog) (w:=w) (base:=base) T F18)
 have N_Plain_low:=MOk.mk (C:=A.Plain) T.cl_Plain ⟨_,_,_,⟨a19_Plain,r19.1,F19.kp⟩,b19,xi (P:=l.prog) (w:=w) (base:=base) T F19⟩
 have N_Below_low:=MOk.mk (C:=A.Below) T.cl_Below ⟨_,_,_,⟨a19_Below,r19.1,F19.kp⟩,b19,xi (P:=l.prog) (w:=w) (base:=base) T F19⟩
 have N_Growing_low:=MOk.mk (C:=A.Growing) T.cl_Growing ⟨_,_,_,⟨a19_Growing,r19.1,F19.kp⟩,b19,xi (P:=l.prog) (w:=w) (base:=base) T F19⟩
 have N_Falling_low:=MOk.mk (C:=A.Falling) T.cl_Falling ⟨_,_,_,⟨a19_Falling,r19.1,F19.kp⟩,b19,xi (P:=l.prog) (w:=w) (base:=base) T F19⟩
 have N_Pairs_low:=MOk.mk (C:=A.Pairs) T.cl_Pairs ⟨_,_,_,⟨a19_Pairs,r19.1,F19.kp⟩,b19,xi (P:=l.prog) (w:=w) (base:=base) T F19⟩
 have N_Balanced_low:=MOk.mk (C:=A.Balanced) T.cl_Balanced ⟨_,_,_,⟨a20_Balanced,r20.1,F20.kp⟩,b20,tT (P:=l.prog) (w:=w) (base:=base) T F20⟩
 have N_Plain_high:=MOk.mk (C:=A.Plain) T.cl_Plain ⟨_,_,_,⟨a21_Plain,r21.1,F21.kp⟩,b21,qp (P:=l.prog) (w:=w) (base:=base) T F21⟩
 have N_Below_high:=MOk.mk (C:=A.Below) T.cl_Below ⟨_,_,_,⟨a22_Below,r22.1,F22.kp⟩,b22,qu (P:=l.prog) (w:=w) (base:=base) T F22⟩
 have N_Balanced_high:=MOk.mk (C:=A.Balanced) T.cl_Balanced ⟨_,_,_,⟨a23_Balanced,r23.1,F23.kp⟩,b23,uN (P:=l.prog) (w:=w) (base:=base) T F23⟩
 have N_Growing_high:=MOk.mk (C:=A.Growing) T.cl_Growing ⟨_,_,_,⟨a24_Growing,r24.1,F24.kp⟩,b24,tQ (P:=l.prog) (w:=w) (base:=base) T F24⟩
 have N_Falling_high:=MOk.mk (C:=A.Falling) T.cl_Falling ⟨_,_,_,⟨a25_Falling,r25.1,F25.kp⟩,b25,tS (P:=l.prog) (w:=w) (base:=base) T F25⟩
 have N_Pairs_high:=MOk.mk (C:=A.Pairs) T.cl_Pairs ⟨_,_,_,⟨a26_Pairs,r26.1,F26.kp⟩,b26,qs (P:=l.prog) (w:=w) (base:=base) T F26⟩
 have HLo:∀ k:Kd,MOk l.prog w K mg base 1 (A.at k) "low" (xM A k (k.low))∧MOk l.prog w K mg base 1 (A.at k) "high" (xM A k (k.high)):=fun k=>match k with
  | .plain=>⟨N_Plain_low.imp fun ds Q ⟨n,p,e,_,q⟩=>⟨_,_,e,q⟩,N_Plain_high⟩
  | .below=>⟨N_Below_low.imp fun ds Q ⟨n,p,e,_,q⟩=>⟨_,_,e,q⟩,N_Below_high⟩
  | .balanced=>⟨N_Balanced_low,N_Balanced_high⟩
  | .growing=>⟨N_Growing_low.imp fun ds Q ⟨n,p,e,_,q⟩=>⟨_,_,e,q⟩,N_Growing_high⟩
  | .falling=>⟨N_Falling_low.imp fun ds Q ⟨n,p,e,_,q⟩=>⟨_,_,e,q⟩,N_Falling_high⟩
  | .pairs=>⟨N_Pairs_low.imp fun ds Q ⟨n,p,e,_,q⟩=>⟨_,_,e,q⟩,N_Pairs_high⟩
 have G_has_figures_alone:=DOk.mk' F27 m27 b27 (ww (P:=l.prog) (w:=w) (base:=base) T HLo F27)
 have G_is_writing:=DOk.mk' F28 m28 b28 (qm T G_has_mosts_above_noughts_alone G_has_figures_alone F28)
 have G_held_to_be_writings:=DOkX.mk' F29 m29 b29 (xZ T G_is_writing F29)
 have G_trimmed:=FOk.mk' F30 m30 b30 (lI (P:=l.prog) (w:=w) (base:=base) T F30)
 have G_as_pair:=DOk.mk' F31 m31 b31 (lO T G_is_whole F31)
 have G_added:=DOk.mk' F32 m32 b32 (fN T G_is_whole G_as_pair F32)
 have G_multiplied:=DOk.mk' F33 m33 b33 (qi T G_is_whole G_as_pair F33)
 have N_Plain_nought:=MOk.mk (C:=A.Plain) T.cl_Plain ⟨_,_,_,⟨a34_Plain,r34.1,F34.kp⟩,b34,ym (P:=l.prog) (w:=w) (base:=base) T F34⟩
 have N_Below_nought:=MOk.mk (C:=A.Below) T.cl_Below ⟨_,_,_,⟨a34_Below,r34.1,F34.kp⟩,b34,ym (P:=l.prog) (w:=w) (base:=base) T F34⟩
 have N_Balanced_nought:=MOk.mk (C:=A.Balanced) T.cl_Balanced ⟨_,_,_,⟨a34_Balanced,r34.1,F34.kp⟩,b34,ym (P:=l.prog) (w:=w) (base:=base) T F34⟩
 have N_Growing_nought:=MOk.mk (C:=A.Growing) T.cl_Growing ⟨_,_,_,⟨a34_Growing,r34.1,F34.kp⟩,b34,ym (P:=l.prog) (w:=w) (base:=base) T F34⟩
 have N_Falling_nought:=MOk.mk (C:=A.Falling) T.cl_Falling ⟨_,_,_,⟨a34_Falling,r34.1,F34.kp⟩,b34,ym (P:=l.prog) (w:=w) (base:=base) T F34⟩
 have N_Pairs_nought:=MOk.mk (C:=A.Pairs) T.cl_Pairs ⟨_,_,_,⟨a35_Pairs,r35.1,F35.kp⟩,b35,tO (P:=l.prog) (w:=w) (base:=base) T F35⟩
 have HNo:∀ k:Kd,MOk l.prog w K mg base 1 (A.at k) "nought" (Zg k):=fun k=>match k with
  | .plain=>N_Plain_nought | .below=>N_Below_nought | .balanced=>N_Balanced_nought | .growing=>N_Growing_nought | .falling=>N_Falling_nought | .pairs=>N_Pairs_nought
 have N_Plain_ratio:=MOk.mk (C:=A.Plain) T.cl_Plain ⟨_,_,_,⟨a36_Plain,r36.1,F36.kp⟩,b36,sV (P:=l.prog) (w:=w) (base:=base) T F36⟩
 have N_Below_ratio:=MOk.mk (C:=A.Below) T.cl_Below ⟨_,_,_,⟨a37_Below,r37.1,F37.kp⟩,b37,sY (P:=l.prog) (w:=w) (base:=base) T F37⟩
 have N_Balanced_ratio:=MOk.mk (C:=A.Balanced) T.cl_Balanced ⟨_,_,_,⟨a38_Balanced,r38.1,F38.kp⟩,b38,vQ (P:=l.prog) (w:=w) (base:=base) T F38⟩
 have N_Growing_ratio:=MOk.mk (C:=A.Growing) T.cl_Growing ⟨_,_,_,⟨a39_Growing,r39.1,F39.kp⟩,b39,uL (P:=l.prog) (w:=w) (base:=base) T F39⟩
 have N_Pairs_ratio:=MOk.mk (C:=A.Pairs) T.cl_Pairs ⟨_,_,_,⟨a40_Pairs,r40.1,F40.kp⟩,b40,sX (P:=l.prog) (w:=w) (base:=base) T F40⟩
 have HR:∀ k:Kd,k.five=true→MOk l.prog w K mg base 1 (A.at k) "ratio" (wK A k (k.ratN)):=fun k hk=>match k,hk with
  | .plain,_=>N_Plain_ratio
  | .below,_=>N_Below_ratio
  | .balanced,_=>N_Balanced_ratio
  | .growing,_=>N_Growing_ratio
  | .pairs,_=>N_Pairs_ratio
 have N_Plain_weights:=FMOk.mk (C:=A.Plain) T.cl_Plain ⟨_,_,_,⟨a41_Plain,r41.1,F41.kp⟩,b41,z_ T G_added G_multiplied HNo HR F41⟩
 have N_Below_weights:=FMOk.mk (C:=A.Below) T.cl_Below ⟨_,_,_,⟨a41_Below,r41.1,F41.kp⟩,b41,z_ T G_added G_multiplied HNo HR F41⟩
 have N_Balanced_weights:=FMOk.mk (C:=A.Balanced) T.cl_Balanced ⟨_,_,_,⟨a41_Balanced,r41.1,F41.kp⟩,b41,z_ T G_added G_multiplied HNo HR F41⟩
 have N_Growing_weights:=FMOk.mk (C:=A.Growing) T.cl_Growing ⟨_,_,_,⟨a41_Growing,r41.1,F41.kp⟩,b41,z_ T G_added G_multiplied HNo HR F41⟩
 have N_Pairs_weights:=FMOk.mk (C:=A.Pairs) T.cl_Pairs ⟨_,_,_,⟨a41_Pairs,r41.1,F41.kp⟩,b41,z_ T G_added G_multiplied HNo HR F41⟩
 have N_Falling_weights:=FMOk.mk (C:=A.Falling) T.cl_Falling ⟨_,_,_,⟨a42_Falling,r42.1,F42.kp⟩,b42,vj (P:=l.prog) (w:=w) (base:=base) T F42⟩
 have HW:∀ k:Kd,FMOk l.prog w K mg base 4 (A.at k) "weights" (cD A k):=fun k=>match k with
  | .plain=>(N_Plain_weights.imp fun ds Q ⟨n,m,e,a,b,c,q⟩=>⟨.plain,n,m,e,rfl,a,b,c,q⟩).mono (by decide)
  | .below=>(N_Below_weights.imp fun ds Q ⟨n,m,e,a,b,c,q⟩=>⟨.below,n,m,e,rfl,a,b,c,q⟩).mono (by decide)
  | .balanced=>(N_Balanced_weights.imp fun ds Q ⟨n,m,e,a,b,c,q⟩=>⟨.balanced,n,m,e,rfl,a,b,c,q⟩).mono (by decide)
  | .growing=>(N_Growing_weights.imp fun ds Q ⟨n,m,e,a,b,c,q⟩=>⟨.growing,n,m,e,rfl,a,b,c,q⟩).mono (by decide)
  | .falling=>N_Falling_weights.mono (by decide)
  | .pairs=>(N_Pairs_weights.imp fun ds Q ⟨n,m,e,a,b,c,q⟩=>⟨.pairs,n,m,e,rfl,a,b,c,q⟩).mono (by decide)
 have G_written_by_weights:=FOk.mk' F43 m43 b43 (wg T G_trimmed HW F43)
 have G_thing_at:=DOk.mk' F44 m44 b44 (nJ (P:=l.prog) (w:=w) (base:=base) T F44)
 have N_Plain_has:=MOk.mk (C:=A.Plain) T.cl_Plain ⟨_,_,_,⟨a45_Plain,r45.1,F45.kp⟩,b45,vi T G_is_whole F45⟩
 have N_Growing_has:=MOk.mk (C:=A.Growing) T.cl_Growing ⟨_,_,_,⟨a45_Growing,r45.1,F45.kp⟩,b45,vi T G_is_whole F45⟩
 have N_Falling_has:=MOk.mk (C:=A.Falling) T.cl_Falling ⟨_,_,_,⟨a45_Falling,r45.1,F45.kp⟩,b45,vi T G_is_whole F45⟩
 have N_Below_has:=MOk.mk (C:=A.Below) T.cl_Below ⟨_,_,_,⟨a46_Below,r46.1,F46.kp⟩,b46,ot T G_is_whole F46⟩
 have N_Balanced_has:=MOk.mk (C:=A.Balanced) T.cl_Balanced ⟨_,_,_,⟨a47_Balanced,r47.1,F47.kp⟩,b47,tU T G_is_whole F47⟩
 have G_is_pair:=DOk.mk' F48 m48 b48 (lM T G_is_whole F48)
 have N_Pairs_has:=MOk.mk (C:=A.Pairs) T.cl_Pairs ⟨_,_,_,⟨a49_Pairs,r49.1,F49.kp⟩,b49,oq T G_is_pair F49⟩
 have HHas:∀ k:Kd,MOk l.prog w K mg base 3 (A.at k) "has" (vI k):=fun k=>match k with
  | .plain=>N_Plain_has.mono (by decide)
  | .below=>N_Below_has.mono (by decide)
  | .balanced=>N_Balanced_has.mono (by decide)
  | .growing=>(N_Growing_has.imp fun ds Q ⟨o,d,m,e,a,q⟩=>⟨o,d,m,e,a,by cases m <;> exact q⟩).mono (by decide)
  | .falling=>(N_Falling_has.imp fun ds Q ⟨o,d,m,e,a,q⟩=>⟨o,d,m,e,a,by cases m <;> exact q⟩).mono (by decide)
  | .pairs=>N_Pairs_has.mono (by decide)
 have N_Plain_split:=MOk.mk (C:=A.Plain) T.cl_Plain ⟨_,_,_,⟨a50_Plain,r50.1,F50.kp⟩,b50,yW (P:=l.prog) (w:=w) (base:=base) T HLo HR F50⟩
 have N_Below_split:=MOk.mk (C:=A.Below) T.cl_Below ⟨_,_,_,⟨a50_Below,r50.1,F50.kp⟩,b50,yW (P:=l.prog) (w:=w) (base:=base) T HLo HR F50⟩
 have N_Balanced_split:=MOk.mk (C:=A.Balanced) T.cl_Balanced ⟨_,_,_,⟨a50_Balanced,r50.1,F50.kp⟩,b50,yW (P:=l.prog) (w:=w) (base:=base) T HLo HR F50⟩
 have N_Growing_split:=MOk.mk (C:=A.Growing) T.cl_Growing ⟨_,_,_,⟨a50_Growing,r50.1,F50.kp⟩,b50,yW (P:=l.prog) (w:=w) (base:=base) T HLo HR F50⟩
 have N_Pairs_split:=MOk.mk (C:=A.Pairs) T.cl_Pairs ⟨_,_,_,⟨a51_Pairs,r51.1,F51.kp⟩,b51,sW T G_as_pair G_multiplied F51⟩
 have HSp:∀ k:Kd,k.five=true→MOk l.prog w K mg base 4 (A.at k) "split" (j4 A k):=fun k hk=>match k,hk with
  | .plain,_=>(N_Plain_split.imp fun ds Q ⟨n,m,j,e,⟨a,em⟩,h1,h2,q⟩=>⟨.plain,n,a,j,by rw [e,em]; rfl,rfl,h1,h2,by rw [em] at q; exact q⟩).mono (by decide)
  | .below,_=>(N_Below_split.imp fun ds Q ⟨n,m,j,e,⟨a,em⟩,h1,h2,q⟩=>⟨.below,n,a,j,by rw [e,em]; rfl,rfl,h1,h2,by rw [em] at q; exact q⟩).mono (by decide)
  | .balanced,_=>(N_Balanced_split.imp fun ds Q ⟨n,m,j,e,⟨a,em⟩,h1,h2,q⟩=>⟨.balanced,n,a,j,by rw [e,em]; rfl,rfl,h1,h2,by rw [em] at q; exact q⟩).mono (by decide)
  | .growing,_=>(N_Growing_split.imp fun ds Q ⟨n,m,j,e,⟨a,em⟩,h1,h2,q⟩=>⟨.growing,n,a,j,by rw [e,em]; rfl,rfl,h1,h2,by rw [em] at q; exact q⟩).mono (by decide)
  | .pairs,_=>(N_Pairs_split.imp fun ds Q ⟨n,m,j,e,_,h1,h2,q⟩=>⟨n,_,m,j,e,yg m,h1,q⟩).mono (by decide)
 have G_figures_and_carries:=DOk.mk' F52 m52 b52 (x5 T G_added G_thing_at HNo HHas HSp F52)
 have G_settled:=FOk.mk' F53 m53 b53 (lJ T G_trimmed G_figures_and_carries F53)
 have G_written:=FOkX.mk' F54 m54 b54 (lH T G_written_by_weights G_settled HHas F54)
 have G_as_wanted:=DOk.mk' F55 m55 b55 (om T G_as_pair G_is_pair F55)
 have G_worth:=DOk.mk' F56 m56 b56 (fL T G_added G_multiplied HNo HW F56)
 have G_moved:=FOkX.mk' F57 m57 b57 (fM T G_held_to_be_writings G_written G_as_wanted G_worth F57)
 have G__law_names:=DOk.mk' F58 m58 b58 (oj (P:=l.prog) (w:=w) (base:=base) T F58)
 have G__law_asked:=TOk.mk' F59 m59 b59 (ol T G_moved G__law_names F59)
 have G__law_is_writing:=DOk.mk' F60 m60 b60 (vP T G__law_low G__law_high F60)
 exact Yu T G__law_chosen G__law_cell_at G__law_row_by G__law_spoilt G__law_pair_of G__law_way G__law_asked G__law_is_writing F61
theorem walk {l:PySem.W.OpenLaw} {q:Program} {loose:List Str} {XP:(Str→Option Value)→Heap→Prop} {YP:World→Heap→Prop} {d:DefRec} {K:Params→PySem.W.Frag} (hn:l.most=some 63) (hdf:d.params.defaults=[])
  (hY:∀ (w:World) (h:Heap),YP w h→(K w.params).In h)
  (F:∀ (w:World) (mg:Str→Option Value) (fa:Addr) (h:Heap),(K w.params).In h→h.Ns mainGlobals mg→mg d.name=some (.ref fa)→
   ∃ fd:FuncData,(∀ (s:Shared) (u:Value),BindsTo s fd ⟨[u],[]⟩ [("_law_script",u)])∧∀ base:Heap,(K w.params).In base→base.Ns mainGlobals mg→FnOk l.prog w (K w.params) mg base CX0 10 fa fd ["_law_script"] (zv (K w.params) (j7))):
  PySem.W.WalkO q loose XP YP l.row.toRowW d [] (fun f vs=>PySem.call f vs):=
 L2.walk_of (n:=63) (k:=10) (x:="_law_script") (CX:=fun _=>CX0) (sp:=fun w=>zv (K w.params) (j7)) hn (by decide) hdf ⟨rfl,by decide,by decide⟩ hY F (fun w H a ns hl _ hS=>⟨⟨H,H,Same.refl H⟩,[.scr ns],fun d=>d=.bl true,rfl,allIs_cons.mpr ⟨_,_,rfl,is_scr.mpr ⟨a,rfl,hS⟩,allIs_nil.mpr rfl⟩,⟨ns,rfl,hl,rfl⟩,fun d v W' _ i e=>by subst e; exact is_bl.mp i⟩) fun _ _ _ _ _ z=>z
end My
local macro_rules | `(tactic| walk_at "fx") => `(tactic| (refine' My.FX.mk ?l ?c ?k; (case l => k_is); (case c => k_is); (case k => k_is)))
local macro_rules | `(tactic| walk_at "kk") => `(tactic| first | k_is | kit_is | kts_exm | (delta L2.ExcK; k_exc) | (delta My.Fi; k_is) | (delta My.Zn; k_is) | (delta My.Ki; kit_is) | (delta My.FD; refine ⟨?a, ?b⟩; (case a => k_is); (case b => walk_at "fx")) | (delta My.FM; refine ⟨?a, ?b⟩; (case a => k_is); (case b => walk_at "fx")) | (refine ⟨⟨?_, ?_, ?_, ?_⟩, ?_, ?_, ?_⟩ <;> k_is) | (refine ⟨?_, ?_, ?_, ?_, ?_, ?_, ?_⟩ <;> k_is) | (refine ⟨?_, ?_⟩ <;> k_is))
open PySem PySem.W PyProof.Rows
set_option maxRecDepth 100000 in
set_option maxHeartbeats 0 in
theorem PySem.Challenge.cw_oddbases_k52_moved_refused_holds : PySem.Challenge.rw_oddbases_k52_moved_refused.Holds := by
 w_on; o_law
 refine holds_open (q:=My.h_view_39) (loose:=[]) (Xt:=(fun s=>xlAt My.h_view_39 [] s && recOk (RowW.records (OpenRow.toRowW PySem.Challenge.rw_oddbases_k52_moved_refused.row)) s)) (XP:=XL My.h_view_39 []) (Yf:=Hook.obs (kHook My.h_heap_39 My.myAs My.myE)) (Ya:=Hook.val (kHook My.h_heap_39 My.myAs My.myE)) (YP:=Hook.says (kHook My.h_heap_39 My.myAs My.myE)) (N:=12788) My.left (Hook.of _) (Hook.keeps _) (fun s e=>xl_of s (Bool.and_eq_true_iff.mp e).1) XL.keeps (by rfl) (by rfl) (by rfl) (fun s e=>recFacts_of (Bool.and_eq_true_iff.mp e).2) (by rfl) (by first | assumption | decide +kernel) (by decide +kernel) ⟨rfl,rfl,rfl,rfl,rfl,by decide +kernel⟩ ?hw ?hc
 case hw=>w_witness2
 k_fill
 refine My.walk (l:=PySem.Challenge.rw_oddbases_k52_moved_refused) rfl rfl (fun w h Y=>PySem.W.kIn_of Y) ?F
 case F=>
  intro w mg fa h KX G hmg
  refine' My.all_mk KX G hmg ?c0 ?c1 ?c2 ?c3 ?c4 ?c5 ?c6 ?c7 ?c8 ?c9 ?c10 ?c11 ?c12 ?c13 ?c14 ?c15 ?c16 ?c17 ?c18 ?c19 ?c20 ?c21 ?c22 ?c23 ?c24 ?c25 ?c26 ?c27 ?c28 ?c29 ?c30 ?c31 ?c32 ?c33 ?c34 ?c35 ?c36 ?c37 ?c38 ?c39 ?c40 ?c41 ?c42 ?c43 ?c44 ?c45 ?c46 ?c47 ?c48 ?c49 ?c50 ?c51 ?c52 ?c53 ?c54 ?c55 ?c56 ?c57 ?c58 ?c59 ?c60 ?c61 ?c62 ?c63 ?c64 ?c65 ?c66 ?c67 ?c68 ?c69 ?c70 ?c71 ?c72 ?c73 ?c74 ?c75 ?c76 ?c77 ?c78 ?c79 ?c80 ?c81 ?c82 ?c83 ?c84 ?c85 ?c86 ?c87 ?c88 ?c89 ?c90 ?c91 ?c92 ?c93 ?c94 ?c95 ?c96 ?c97 ?c98 ?c99 ?c100 ?c101 ?c102 ?c103 ?c104 ?c105 ?c106 ?c107 ?c108 ?c109 ?c110 ?c111 ?c112 ?c113 ?c114 ?c115 ?c116 ?c117 ?c118 ?c119 ?c120 ?c121 ?c122 ?c123 ?c124 ?c125 ?c126 ?c127 ?c128 ?c129 ?c130 ?c131 ?c132 ?c133 ?c134 ?c135 ?c136 ?c137 ?c138 ?c139 ?c140 ?c141 ?c142 ?c143 ?c144 ?c145 ?c146 ?c147 ?c148 ?c149 ?c150 ?c151 ?c152 ?c153 ?c154 ?c155 ?c156 ?c157 ?c158 ?c159 ?c160 ?c161 ?c162 ?c163 ?c164 ?c165 ?c166 ?c167 ?c168 ?c169 ?c170 ?c171 ?c172 ?c173 ?c174 ?c175 ?c176 ?c177 ?c178 ?c179 ?c180 ?c181 ?c182 ?c183 ?c184 ?c185 ?c186 ?c187 ?c188 ?c189 ?c190 ?c191 ?c192 ?c193 ?c194 ?c195 ?c196
  (case c0 => walk_at "kk")
  (case c1 => walk_at "kk")
  (case c2 => walk_at "kk")
  (case c3 => walk_at "kk")
  (case c4 => walk_at "kk")
  (case c5 => walk_at "kk")
  (case c6 => walk_at "kk")
  (case c7 => walk_at "kk")
  (case c8 => walk_at "kk")
  (case c9 => walk_at "kk")
  (case c10 => walk_at "kk")
  (case c11 => walk_at "kk")
  (case c12 => walk_at "kk")
  (case c13 => walk_at "kk")
  (case c14 => walk_at "kk")
  (case c15 => walk_at "kk")
  (case c16 => walk_at "kk")
  (case c17 => walk_at "kk")
  (case c18 => walk_at "kk")
  (case c19 => walk_at "kk")
  (case c20 => walk_at "kk")
  (case c21 => walk_at "kk")
  (case c22 => walk_at "kk")
  (case c23 => walk_at "kk")
  (case c24 => walk_at "kk")
  (case c25 => walk_at "kk")
  (case c26 => walk_at "kk")
  (case c27 => walk_at "kk")
  (case c28 => walk_at "kk")
  (case c29 => walk_at "kk")
  (case c30 => walk_at "kk")
  (case c31 => walk_at "kk")
  (case c32 => walk_at "kk")
  (case c33 => walk_at "kk")
  (case c34 => walk_at "kk")
  (case c35 => walk_at "kk")
  (case c36 => walk_at "kk")
  (case c37 => walk_at "kk")
  (case c38 => walk_at "kk")
  (case c39 => walk_at "kk")
  (case c40 => walk_at "kk")
  (case c41 => walk_at "kk")
  (case c42 => walk_at "kk")
  (case c43 => walk_at "kk")
  (case c44 => walk_at "kk")
  (case c45 => walk_at "kk")
  (case c46 => walk_at "kk")
  (case c47 => walk_at "kk")
  (case c48 => walk_at "kk")
  (case c49 => walk_at "kk")
  (case c50 => walk_at "kk")
  (case c51 => walk_at "kk")
  (case c52 => walk_at "kk")
  (case c53 => walk_at "kk")
  (case c54 => walk_at "kk")
  (case c55 => walk_at "kk")
  (case c56 => walk_at "kk")
  (case c57 => walk_at "kk")
  (case c58 => walk_at "kk")
  (case c59 => walk_at "kk")
  (case c60 => walk_at "kk")
  (case c61 => walk_at "kk")
  (case c62 => walk_at "kk")
  (case c63 => walk_at "kk")
  (case c64 => walk_at "kk")
  (case c65 => walk_at "kk")
  (case c66 => walk_at "kk")
  (case c67 => walk_at "kk")
  (case c68 => walk_at "kk")
  (case c69 => walk_at "kk")
  (case c70 => walk_at "kk")
  (case c71 => walk_at "kk")
  (case c72 => walk_at "kk")
  (case c73 => walk_at "kk")
  (case c74 => walk_at "kk")
  (case c75 => walk_at "kk")
  (case c76 => walk_at "kk")
  (case c77 => walk_at "kk")
  (case c78 => walk_at "kk")
  (case c79 => walk_at "kk")
  (case c80 => walk_at "kk")
  (case c81 => walk_at "kk")
  (case c82 => walk_at "kk")
  (case c83 => walk_at "kk")
  (case c84 => walk_at "kk")
  (case c85 => walk_at "kk")
  (case c86 => walk_at "kk")
  (case c87 => walk_at "kk")
  (case c88 => walk_at "kk")
  (case c89 => walk_at "kk")
  (case c90 => walk_at "kk")
  (case c91 => walk_at "kk")
  (case c92 => walk_at "kk")
  (case c93 => walk_at "kk")
  (case c94 => walk_at "kk")
  (case c95 => walk_at "kk")
  (case c96 => walk_at "kk")
  (case c97 => walk_at "kk")
  (case c98 => walk_at "kk")
  (case c99 => walk_at "kk")
  (case c100 => walk_at "kk")
  (case c101 => walk_at "kk")
  (case c102 => walk_at "kk")
  (case c103 => walk_at "kk")
  (case c104 => walk_at "kk")
  (case c105 => walk_at "kk")
  (case c106 => walk_at "kk")
  (case c107 => walk_at "kk")
  (case c108 => walk_at "kk")
  (case c109 => walk_at "kk")
  (case c110 => walk_at "kk")
  (case c111 => walk_at "kk")
  (case c112 => walk_at "kk")
  (case c113 => walk_at "kk")
  (case c114 => walk_at "kk")
  (case c115 => walk_at "kk")
  (case c116 => walk_at "kk")
  (case c117 => walk_at "kk")
  (case c118 => walk_at "kk")
  (case c119 => walk_at "kk")
  (case c120 => walk_at "kk")
  (case c121 => walk_at "kk")
  (case c122 => walk_at "kk")
  (case c123 => walk_at "kk")
  (case c124 => walk_at "kk")
  (case c125 => walk_at "kk")
  (case c126 => walk_at "kk")
  (case c127 => walk_at "kk")
  (case c128 => walk_at "kk")
  (case c129 => walk_at "kk")
  (case c130 => walk_at "kk")
  (case c131 => walk_at "kk")
  (case c132 => walk_at "kk")
  (case c133 => walk_at "kk")
  (case c134 => walk_at "kk")
  (case c135 => walk_at "kk")
  (case c136 => walk_at "kk")
  (case c137 => walk_at "kk")
  (case c138 => walk_at "kk")
  (case c139 => walk_at "kk")
  (case c140 => walk_at "kk")
  (case c141 => walk_at "kk")
  (case c142 => walk_at "kk")
  (case c143 => walk_at "kk")
  (case c144 => walk_at "kk")
  (case c145 => walk_at "kk")
  (case c146 => walk_at "kk")
  (case c147 => walk_at "kk")
  (case c148 => walk_at "kk")
  (case c149 => walk_at "kk")
  (case c150 => walk_at "kk")
  (case c151 => walk_at "kk")
  (case c152 => walk_at "kk")
  (case c153 => walk_at "kk")
  (case c154 => walk_at "kk")
  (case c155 => walk_at "kk")
  (case c156 => walk_at "kk")
  (case c157 => walk_at "kk")
  (case c158 => walk_at "kk")
  (case c159 => walk_at "kk")
  (case c160 => walk_at "kk")
  (case c161 => walk_at "kk")
  (case c162 => walk_at "kk")
  (case c163 => walk_at "kk")
  (case c164 => walk_at "kk")
  (case c165 => walk_at "kk")
  (case c166 => walk_at "kk")
  (case c167 => walk_at "kk")
  (case c168 => walk_at "kk")
  (case c169 => walk_at "kk")
  (case c170 => walk_at "kk")
  (case c171 => walk_at "kk")
  (case c172 => walk_at "kk")
  (case c173 => walk_at "kk")
  (case c174 => walk_at "kk")
  (case c175 => walk_at "kk")
  (case c176 => walk_at "kk")
  (case c177 => walk_at "kk")
  (case c178 => walk_at "kk")
  (case c179 => walk_at "kk")
  (case c180 => walk_at "kk")
  (case c181 => walk_at "kk")
  (case c182 => walk_at "kk")
  (case c183 => walk_at "kk")
  (case c184 => walk_at "kk")
  (case c185 => walk_at "kk")
  (case c186 => walk_at "kk")
  (case c187 => walk_at "kk")
  (case c188 => walk_at "kk")
  (case c189 => walk_at "kk")
  (case c190 => walk_at "kk")
  (case c191 => walk_at "kk")
  (case c192 => walk_at "kk")
  (case c193 => walk_at "kk")
  (case c194 => walk_at "kk")
  (case c195 => walk_at "kk")
  (case c196 => walk_at "kk")
