import PyProof.Rows.All
import Wide.All
import OpenK.AllK
import Wide.FinOn
import Lean
import PyProof.EqAt
import PyProof.EqKinds
import PyProof.TupleCall
import PyProof.NeKinds
import PySem.Challenge.RW_oddbases_k33_products
set_option Elab.async false
set_option linter.all false
set_option maxRecDepth 100000
namespace L2
open PySem PySem.Spec PyProof.Rows
abbrev Key:=Sum Int Str
def YI:Key→Value→Bool
 | .inl k,v=>Value.isInt k v
 | .inr x,v=>Value.isStrOf x v
def R9 (w:World):Key→Int
 | .inl k=>hashInt k
 | .inr x=>hashStr w x
theorem z6:∀ {k:Key} {v:Value},YI k v=true→(∃ i t,k=Sum.inl i∧v=Value.int i t)∨(∃ x t,k=Sum.inr x∧v=Value.str x t)
 | .inl i,v,h=>by
  obtain ⟨t,e⟩:=Value.isInt_shape (k:=i) (v:=v) h
  exact .inl ⟨i,t,rfl,e⟩
 | .inr x,v,h=>by
  obtain ⟨t,e⟩:=Value.isStrOf_shape (x:=x) (v:=v) h
  exact .inr ⟨x,t,rfl,e⟩
theorem W_ (a b:Int):decide ((Sum.inl a:Key)=Sum.inl b)=(a == b):=by
 by_cases e:a=b
 ·subst e; simp
 ·have h:¬ (Sum.inl a:Key)=Sum.inl b:=fun q=>e (Sum.inl.inj q)
  rw [decide_eq_false h]
  exact (beq_eq_false_iff_ne.mpr e).symm
theorem W7 (a b:Str):decide ((Sum.inr a:Key)=Sum.inr b)=decide (a=b):=by
 by_cases e:a=b
 ·subst e; simp
 ·have h:¬ (Sum.inr a:Key)=Sum.inr b:=fun q=>e (Sum.inr.inj q)
  rw [decide_eq_false h,decide_eq_false e]
theorem W9 (a:Int) (b:Str):decide ((Sum.inl a:Key)=Sum.inr b)=false:=decide_eq_false (fun q=>nomatch q)
theorem W8 (a:Str) (b:Int):decide ((Sum.inr a:Key)=Sum.inl b)=false:=decide_eq_false (fun q=>nomatch q)
def nN (prog:Program) (w:World):PySem.KeyKind prog w Key where
 is:=YI
 hash:=R9 w
 inj:=fun v a b ha hb=>by
  rcases z6 ha with ⟨i,t,rfl,rfl⟩ | ⟨x,t,rfl,rfl⟩
  ·rcases z6 hb with ⟨j,u,rfl,e⟩ | ⟨y,u,rfl,e⟩
   ·injection e with e1 _; rw [e1]
   ·exact nomatch e
  ·rcases z6 hb with ⟨j,u,rfl,e⟩ | ⟨y,u,rfl,e⟩
   ·exact nomatch e
   ·injection e with e1 _; rw [e1]
 byValue:=fun k v h=>by
  rcases z6 h with ⟨i,t,rfl,rfl⟩ | ⟨x,t,rfl,rfl⟩ <;> rfl
 pyHash:=fun hv h=>by
  rcases z6 hv with ⟨i,t,rfl,rfl⟩ | ⟨x,t,rfl,rfl⟩
  ·exact wpAny_pyHash_int h
  ·exact wpAny_pyHash_str h
 eqBool:=fun hu hv h=>by
  rcases z6 hu with ⟨i,t,rfl,rfl⟩ | ⟨x,t,rfl,rfl⟩
  ·rcases z6 hv with ⟨j,u,rfl,rfl⟩ | ⟨y,u,rfl,rfl⟩
   ·rw [W_] at h; exact wpAny_eqBool_int h
   ·rw [W9] at h; exact SeqAt.EqAt.int_str i t y u _ _ _ _ h
  ·rcases z6 hv with ⟨j,u,rfl,rfl⟩ | ⟨y,u,rfl,rfl⟩
   ·rw [W8] at h; exact SeqAt.EqAt.str_int x t j u _ _ _ _ h
   ·rw [W7] at h; exact wpAny_eqBool_str h
 «strs»:=fun k x t v h=>by
  rcases z6 h with ⟨i,u,rfl,e⟩ | ⟨y,u,rfl,e⟩
  ·exact nomatch e
  ·injection e with e1 _
   subst e1
   cases v <;> rfl
end L2
namespace L2
open PySem PySem.Spec PyProof.Rows
inductive V where
 | non | bl (b:Bool) | int (i:Int) | str (x:Str) | byt (b:Array UInt8) | flt (b:UInt64) | ref (a:Addr) | ty (n:String)
 deriving DecidableEq
def RelV:V→Value→Prop
 | .non,u=>u=Value.none
 | .bl b,u=>u=Value.bool b
 | .int i,u=>∃ t,u=Value.int i t
 | .str x,u=>∃ t,u=Value.str x t
 | .byt b,u=>∃ t,u=Value.bytes b t
 | .flt b,u=>∃ t,u=Value.float b t
 | .ref a,u=>u=Value.ref a
 | .ty n,u=>u=Value.type n
abbrev Vals:List V→List Value→Prop:=Paired RelV
theorem Vals.length {xs:List V} {us:List Value} (r:Vals xs us):xs.length=us.length:=Paired.length r
theorem Vals.get:∀ {xs:List V} {us:List Value} {i:Nat} {x:V},Vals xs us→xs[i]? = some x→∃ u,us[i]? = some u∧RelV x u
 | _,_,_,_,.nil,e=>by simp at e
 | _,_,0,_,.cons r _,e=>by simp at e; subst e; exact ⟨_,rfl,r⟩
 | _,_,i+1,x,.cons _ t,e=>by
  obtain ⟨u,h1,h2⟩:=Vals.get (i:=i) (x:=x) t (by simpa using e)
  exact ⟨u,by simpa using h1,h2⟩
theorem Vals.set {x:V} {u:Value} (r:RelV x u):∀ {xs:List V} {us:List Value} (i:Nat),Vals xs us→Vals (xs.set i x) (us.set i u)
 | _,_,_,.nil=>.nil
 | _,_,0,.cons _ t=>.cons r t
 | _,_,i+1,.cons q t=>.cons q (Vals.set r i t)
theorem Vals.append:∀ {xs ys:List V} {us ws:List Value},Vals xs us→Vals ys ws→Vals (xs++ys) (us++ws)
 | _,_,_,_,.nil,s=>s
 | _,_,_,_,.cons r t,s=>.cons r (Vals.append t s)
theorem Vals.take:∀ {xs:List V} {us:List Value} (n:Nat),Vals xs us→Vals (xs.take n) (us.take n)
 | _,_,0,_=>.nil
 | _,_,_+1,.nil=>.nil
 | _,_,n+1,.cons r t=>.cons r (Vals.take n t)
theorem Vals.drop:∀ {xs:List V} {us:List Value} (n:Nat),Vals xs us→Vals (xs.drop n) (us.drop n)
 | _,_,0,r=>r
 | _,_,_+1,.nil=>.nil
 | _,_,n+1,.cons _ t=>Vals.drop n t
theorem Vals.none_of:∀ {xs:List V} {us:List Value} {i:Nat},Vals xs us→xs[i]? = none→us[i]? = none:=fun {xs us i} r e=>by
 have h1:=r.length
 have h2:xs.length≤i:=List.getElem?_eq_none_iff.mp e
 exact List.getElem?_eq_none_iff.mpr (by omega)
def RelO:Option V→Option Value→Prop
 | some v,some u=>RelV v u
 | none,none=>True
 | _,_=>False
def KV {κ:Type}:List (κ × V)→List (κ × Value)→Prop:=Paired fun (p:κ × V) (q:κ × Value)=>p.1=q.1∧RelV p.2 q.2
def kV:Key→V
 | .inl i=>.int i
 | .inr x=>.str x
inductive HO where
 | lst (xs:List V)
 | tup (xs:List V)
 | dK (kvs:List (Key × V)) | dT (kvs:List (List Key × V))
 | set (S:Int→Bool) (n:Nat)
 | ins (C dx:Addr) (fs:List (Str × V))
 | own (x:Addr)
 | xd (fs:List (Str × V))
 | met (f x:Addr)
 | rng (lo hi:Int)
 | frz (o:Obj) (u:HO)
 | tbl (ps:Array Value)
 | ext (φ:Heap→Prop)
abbrev Hp:=Addr→Option HO
def upd (H:Hp) (a:Addr) (o:HO):Hp:=fun b=>if b=a then some o else H b
theorem zx {H:Hp} {a:Addr} {o:HO}:upd H a o a=some o:=by unfold upd; rw [if_pos rfl]
theorem zy {H:Hp} {a b:Addr} {o:HO} (h:b≠a):upd H a o b=H b:=by unfold upd; rw [if_neg h]
theorem z7 {H:Hp} {a b:Addr} {o:HO} (h:H a=some o) (h':H b=none):a≠b:=by
 intro e; subst e; rw [h] at h'; cases h'
section
variable (P:Program) (w:World)
def ObjOk (H:Hp) (h:Heap) (a:Addr):HO→Prop
 | .lst xs=>xs.length≤sizeLine∧∃ (its:List Value) (n:Nat),Vals xs its∧h.get? a=some { cls:=.type "list",data:=.seq its.toArray n }
 | .tup xs=>xs.length≤sizeLine∧∃ its:List Value,Vals xs its∧IsTup h a its.toArray
 | .dK kvs=>kvs.length≤sizeLine∧(a == sysModules)=false∧∃ vs,KV kvs vs∧h.DictOf (nN P w) a vs
 | .dT kvs=>kvs.length≤sizeLine∧(a == sysModules)=false∧∃ xs:List (List Key × Addr × Value),
   Paired (fun (p:List Key × V) (q:List Key × Addr × Value)=>p.1=q.1∧H q.2.1=some (.tup (p.1.map kV))∧RelV p.2 q.2.2) kvs xs∧
   ∃ o es ep,h.get? a=some o∧o.ExactDict∧o.data=.dict es ep∧es.toList=xs.map (entryOfKey (tupleKind (nN P w)))∧(xs.map (·.1)).Nodup
 | .set S n=>h.SetOf (intKind P w) a S n
 | .ins C dx fs=>H dx=some (.own a)∧fs.length≤1000∧dx≠a∧h.get? a=some (PySem.W.instObj C dx)∧
   ∃ mA,h.Ns1 dx mA∧(∀ f,RelO (fs.lookup f) (mA f))∧PySem.Within mA (fs.map (·.1))
 | .own _=>∃ o,h.get? a=some o
 | .xd fs=>∃ mA,h.Ns1 a mA∧∀ f,RelO (fs.lookup f) (mA f)
 | .rng lo hi=>∃ t u v,h.get? a=some { cls:=.type "range",data:=.fields #[.int lo t,.int hi u,.int 1 v] }
 | .frz o u=>h.get? a=some o∧ObjOk H h a u
 | .tbl ps=>h.get? a=some { cls:=.none,data:=.fields ps }
 | .met f x=>h.get? a=some (PySem.W.methodObj (.ref f) (.ref x))
 | .ext φ=>φ h∧(∃ o,h.get? a=some o)∧∀ h1 h2:Heap,φ h1→(∀ o,h1.get? a=some o→h2.get? a=some o)→φ h2
def HOk (H:Hp) (h:Heap):Prop:=∀ a o,H a=some o→ObjOk P w H h a o
end
section
variable {P:Program} {w:World} {H H':Hp} {h h':Heap} {a:Addr} {o:HO}
theorem ObjOk.lt (x:ObjOk P w H h a o):a<h.objs.size:=by
 cases o with
 | lst xs=>obtain ⟨_,_,_,_,e⟩:=x; exact Heap.lt_size e
 | tup xs=>obtain ⟨_,_,_,p⟩:=x; exact p.lt
 | dK kvs=>obtain ⟨_,_,_,_,o,_,_,e,_⟩:=x; exact Heap.lt_size e
 | dT kvs=>obtain ⟨_,_,_,_,o,_,_,e,_⟩:=x; exact Heap.lt_size e
 | set S n=>obtain ⟨o,_,_,_,e,_⟩:=x; exact Heap.lt_size e
 | ins C dx fs=>obtain ⟨_,_,_,e,_⟩:=x; exact Heap.lt_size e
 | own y=>obtain ⟨_,e⟩:=x; exact Heap.lt_size e
 | xd fs=>obtain ⟨_,⟨_,_,_,e,_⟩,_⟩:=x; exact Heap.lt_size e
 | rng lo hi=>obtain ⟨_,_,_,e⟩:=x; exact Heap.lt_size e
 | frz ob u=>obtain ⟨e,_⟩:=x; exact Heap.lt_size e
 | tbl ps=>exact Heap.lt_size (show h.get? a=some _ from x)
 | met f y=>exact Heap.lt_size (show h.get? a=some _ from x)
 | ext φ=>obtain ⟨_,⟨_,e⟩,_⟩:=x; exact Heap.lt_size e
theorem Paired.mapP {α β:Type} {F G:α→β→Prop}:∀ {l₁:List α} {l₂:List β},Paired F l₁ l₂→(∀ a b,F a b→G a b)→Paired G l₁ l₂
 | _,_,.nil,_=>.nil
 | _,_,.cons r t,f=>.cons (f _ _ r) (Paired.mapP t f)
theorem ObjOk.stay (x:ObjOk P w H h a o) (k:∀ b u,(b=a∨H b=some (.own a))→h.get? b=some u→h'.get? b=some u)
  (ho:∀ b,H b=some (.own a)→H' b=some (.own a)) (ht:∀ b xs,H b=some (.tup xs)→H' b=some (.tup xs)):ObjOk P w H' h' a o:=by
 induction o with
 | lst xs=>obtain ⟨z,its,n,r,e⟩:=x; exact ⟨z,its,n,r,k _ _ (.inl rfl) e⟩
 | tup xs=>obtain ⟨z,its,r,ob,e,c⟩:=x; exact ⟨z,its,r,ob,k _ _ (.inl rfl) e,c⟩
 | dK kvs=>obtain ⟨z,y,vs,r,ob,es,ep,e,c⟩:=x; exact ⟨z,y,vs,r,ob,es,ep,k _ _ (.inl rfl) e,c⟩
 | dT kvs=>
  obtain ⟨z,y,xs,r,ob,es,ep,e,c⟩:=x
  exact ⟨z,y,xs,Paired.mapP r fun p q z=>⟨z.1,ht _ _ z.2.1,z.2.2⟩,ob,es,ep,k _ _ (.inl rfl) e,c⟩
 | set S n=>obtain ⟨ob,es,ep,t,e,c⟩:=x; exact ⟨ob,es,ep,t,k _ _ (.inl rfl) e,c⟩
 | ins C dx fs=>
  obtain ⟨d,z,ne,e,mA,⟨od,es,ep,e2,c⟩,r⟩:=x
  exact ⟨ho _ d,z,ne,k _ _ (.inl rfl) e,mA,⟨od,es,ep,k _ _ (.inr d) e2,c⟩,r⟩
 | own y=>obtain ⟨ob,e⟩:=x; exact ⟨ob,k _ _ (.inl rfl) e⟩
 | xd fs=>obtain ⟨mA,⟨od,es,ep,e,c⟩,r⟩:=x; exact ⟨mA,⟨od,es,ep,k _ _ (.inl rfl) e,c⟩,r⟩
 | rng lo hi=>obtain ⟨t,u,v,e⟩:=x; exact ⟨t,u,v,k _ _ (.inl rfl) e⟩
 | frz ob u ih=>obtain ⟨e,q⟩:=x; exact ⟨k _ _ (.inl rfl) e,ih q⟩
 | tbl ps=>
  have e:h.get? a=some { cls:=.none,data:=.fields ps }:=x
  show h'.get? a=some { cls:=.none,data:=.fields ps }
  exact k a _ (.inl rfl) e
 | met f y=>
  have e:h.get? a=some (PySem.W.methodObj (.ref f) (.ref y)):=x
  show h'.get? a=some (PySem.W.methodObj (.ref f) (.ref y))
  exact k a _ (.inl rfl) e
 | ext φ=>obtain ⟨p,⟨o,e⟩,st⟩:=x; exact ⟨st _ _ p fun o q=>k _ _ (.inl rfl) q,⟨o,k _ _ (.inl rfl) e⟩,st⟩
theorem HOk.lt (x:HOk P w H h) (e:H a=some o):a<h.objs.size:=(x a o e).lt
theorem HOk.fresh (x:HOk P w H h) (e:h.objs.size≤a):H a=none:=by
 cases q:H a with
 | none=>rfl
 | some u=>exact absurd (Nat.lt_of_lt_of_le (x.lt q) e) (Nat.lt_irrefl _)
theorem HOk.kept (x:HOk P w H h) (k:∀ b u,h.get? b=some u→h'.get? b=some u):HOk P w H h':=fun a o e=>
 (x a o e).stay (fun b u _ q=>k b u q) (fun _ q=>q) fun _ _ q=>q
theorem HOk.laid (x:HOk P w H h) (k:∀ b u,h.get? b=some u→h'.get? b=some u) (hp:h.objs.size≤a) (new:ObjOk P w (upd H a o) h' a o):HOk P w (upd H a o) h':=fun b u e=>by
 have hn:=x.fresh hp
 by_cases hb:b=a
 ·subst hb; rw [zx] at e; cases e; exact new
 ·rw [zy hb] at e
  exact (x b u e).stay (fun c v _ q=>k c v q) (fun c q=>by rw [zy (z7 q hn)]; exact q) fun c xs q=>by rw [zy (z7 q hn)]; exact q
end
def Rd (H:Hp) (a:Addr) (u:HO):Prop:=H a=some u∨∃ o,H a=some (.frz o u)
theorem Rd.of {H:Hp} {a:Addr} {u:HO} (h:H a=some u):Rd H a u:=.inl h
theorem Rd.ok {P:Program} {w:World} {H:Hp} {h:Heap} {a:Addr} {u:HO} (r:Rd H a u) (x:HOk P w H h):ObjOk P w H h a u:=by
 rcases r with r | ⟨o,r⟩
 ·exact x a u r
 ·obtain ⟨_,q⟩:=x a _ r
  exact q
def Mut:Option HO→Prop
 | some (.lst _)=>True
 | some (.dK _)=>True
 | some (.dT _)=>True
 | some (.set _ _)=>True
 | some (.ins _ _ _)=>True
 | some (.ext _)=>True
 | _=>False
section
variable {P:Program} {w:World} {H:Hp} {h h':Heap} {x e:Addr} {o':HO}
theorem HOk.write (ok:HOk P w H h) (mu:Mut (H x)) (he:e=x∨H e=some (.own x)) (k:∀ b u,b≠e→h.get? b=some u→h'.get? b=some u) (heo:∃ u,h'.get? e=some u)
  (new:ObjOk P w (upd H x o') h' x o'):HOk P w (upd H x o') h':=fun b u q=>by
 have nown:∀ c y,H c=some (.own y)→c≠x:=fun c y r z=>by subst z; rw [r] at mu; exact mu
 have ntup:∀ c xs,H c=some (.tup xs)→c≠x:=fun c xs r z=>by subst z; rw [r] at mu; exact mu
 by_cases hb:b=x
 ·subst hb; rw [zx] at q; cases q; exact new
 ·rw [zy hb] at q
  by_cases hbe:b=e
  ·have q':H b=some (.own x):=by
    rcases he with z | z
    ·exact absurd (hbe.trans z) hb
    ·rw [hbe]; exact z
   rw [q] at q'; cases q'
   obtain ⟨v,hv⟩:=heo
   exact ⟨v,by rw [hbe]; exact hv⟩
  ·refine (ok b u q).stay (fun c v hc r=>k c v ?_ r) (fun c r=>by rw [zy (nown c b r)]; exact r) fun c xs r=>by rw [zy (ntup c xs r)]; exact r
   rcases hc with rfl | hc
   ·exact hbe
   ·rintro rfl
    rcases he with z | z
    ·exact nown c b hc z
    ·rw [hc] at z; cases z; exact hb rfl
end
structure Un (fs ex:List Addr) (H H':Hp) (h h':Heap):Prop where
 keep:∀ b o,h.get? b=some o→H b=none→b∉fs→b∉ex→h'.get? b=some o
 slot:∀ b o,h.get? b=some o→H b=none→b∈fs→b∉ex→∃ sl,h'.get? b=some { o with slots:=sl }
 free:∀ b o,h.get? b=some o→H b=none→b∉ex→H' b=none
 there:∀ b o,h.get? b=some o→b∉ex→∃ o',h'.get? b=some o'
 tups:∀ b xs,H b=some (.tup xs)→H' b=some (.tup xs)
 frzs:∀ b o u,H b=some (.frz o u)→H' b=some (.frz o u)
 tbls:∀ b ps,H b=some (.tbl ps)→∃ more,H' b=some (.tbl (ps++more))
section
variable {fs fs' ex ex':List Addr} {H H1 H2:Hp} {h h1 h2 h':Heap} {a x e:Addr} {o:HO}
theorem Un.any (u:Un fs ex H H1 h h1) {b:Addr} {ob:Obj} (q:h.get? b=some ob) (n:H b=none) (hx:b∉ex):∃ sl,h1.get? b=some { ob with slots:=sl }:=by
 by_cases hb:b∈fs
 ·exact u.slot b ob q n hb hx
 ·exact ⟨ob.slots,u.keep b ob q n hb hx⟩
theorem Un.trans (a:Un fs ex H H1 h h1) (b:Un fs ex H1 H2 h1 h2):Un fs ex H H2 h h2 where
 keep:=fun c ob q n hc hx=>b.keep c ob (a.keep c ob q n hc hx) (a.free c ob q n hx) hc hx
 slot:=fun c ob q n hc hx=>by
  obtain ⟨sl,e1⟩:=a.slot c ob q n hc hx
  obtain ⟨sl',e2⟩:=b.slot c _ e1 (a.free c ob q n hx) hc hx
  exact ⟨sl',e2⟩
 free:=fun c ob q n hx=>by
  obtain ⟨o',e1⟩:=a.there c ob q hx
  exact b.free c o' e1 (a.free c ob q n hx) hx
 there:=fun c ob q hx=>by
  obtain ⟨o',e1⟩:=a.there c ob q hx
  exact b.there c o' e1 hx
 tups:=fun c xs q=>b.tups c xs (a.tups c xs q)
 frzs:=fun c ob xs q=>b.frzs c ob xs (a.frzs c ob xs q)
 tbls:=fun c ps q=>by
  obtain ⟨m1,e1⟩:=a.tbls c ps q
  obtain ⟨m2,e2⟩:=b.tbls c _ e1
  exact ⟨m1++m2,by rw [e2,Array.append_assoc]⟩
theorem Un.kept (k:∀ b u,h.get? b=some u→h'.get? b=some u):Un fs ex H H h h':=
 ⟨fun b ob q _ _ _=>k b ob q,fun b ob q _ _ _=>⟨ob.slots,k b ob q⟩,fun _ _ _ n _=>n,fun b ob q _=>⟨ob,k b ob q⟩,fun _ _ q=>q,fun _ _ _ q=>q,fun _ ps q=>⟨#[],by rw [q]; simp⟩⟩
theorem Un.refl:Un fs ex H H h h:=Un.kept fun _ _ q=>q
theorem Un.laid (k:∀ b u,h.get? b=some u→h'.get? b=some u) (hp:h.objs.size≤a) (hn:H a=none):Un fs ex H (upd H a o) h h' where
 keep:=fun b u q _ _ _=>k b u q
 slot:=fun b u q _ _ _=>⟨u.slots,k b u q⟩
 free:=fun b u q n _=>by rw [zy (Nat.ne_of_lt (Nat.lt_of_lt_of_le (Heap.lt_size q) hp))]; exact n
 there:=fun b u q _=>⟨u,k b u q⟩
 tups:=fun b xs q=>by rw [zy (z7 q hn)]; exact q
 frzs:=fun b u xs q=>by rw [zy (z7 q hn)]; exact q
 tbls:=fun b ps q=>⟨#[],by rw [zy (z7 q hn),q]; simp⟩
theorem Un.write (mu:Mut (H x)) (he:e=x∨H e=some (.own x)) (k:∀ b u,b≠e→h.get? b=some u→h'.get? b=some u) (heo:∃ u,h'.get? e=some u):Un fs ex H (upd H x o) h h':=by
 have hx:∀ b,H b=none→b≠x:=fun b n z=>by subst z; rw [n] at mu; exact mu
 have hb:∀ b,H b=none→b≠e:=fun b n z=>by
  subst z
  rcases he with r | r
  ·exact hx b n r
  ·rw [n] at r; cases r
 have hm:∀ b u,H b=some u→¬ Mut (some u)→b≠x:=fun b u q nm z=>by subst z; rw [q] at mu; exact nm mu
 refine ⟨fun b u q n _ _=>k b u (hb b n) q,fun b u q n _ _=>⟨u.slots,k b u (hb b n) q⟩,fun b u q n _=>by rw [zy (hx b n)]; exact n,fun b u q _=>?_,
  fun b xs q=>by rw [zy (hm b _ q fun z=>z)]; exact q,fun b u xs q=>by rw [zy (hm b _ q fun z=>z)]; exact q,fun b ps q=>⟨#[],by rw [zy (hm b _ q fun z=>z),q]; simp⟩⟩
 by_cases hbe:b=e
 ·subst hbe; exact heo
 ·exact ⟨u,k b u hbe q⟩
theorem Un.mono (u:Un fs ex H H1 h h1) (hs:∀ b∈fs,b∈fs') (hx:∀ b∈ex,b∈ex'):Un fs' ex' H H1 h h1:=
 ⟨fun b ob q n hb he=>u.keep b ob q n (fun z=>hb (hs b z)) fun z=>he (hx b z),fun _ _ q n _ he=>u.any q n fun z=>he (hx _ z),fun b ob q n he=>u.free b ob q n fun z=>he (hx b z),fun b ob q he=>u.there b ob q fun z=>he (hx b z),u.tups,u.frzs,u.tbls⟩
end
def trk (h:Heap) (H:Hp):List Addr:=(List.range h.objs.size).filter fun a=>(H a).isSome
def nR (h:Heap) (H:Hp):Heap:=PySem.W.hideAll h (trk h H)
theorem eA (h:Heap) (H:Hp):(nR h H).objs.size=h.objs.size:=PySem.W.hideAll_size _ _
theorem bv {h:Heap} {H:Hp} {b:Addr} {o:Obj} (e:h.get? b=some o) (n:H b=none):(nR h H).get? b=some o:=
 PySem.W.hideAll_get _ e fun hm=>by
  have q:(H b).isSome=true:=(List.mem_filter.mp hm).2
  rw [n] at q; simp at q
theorem Zc {h:Heap} {H:Hp} {b:Addr} {o:Obj} (e:(nR h H).get? b=some o):h.get? b=some o∧H b=none:=by
 have e':h.get? b=some o:=PySem.W.of_hideAll (trk h H) e
 refine ⟨e',?_⟩
 cases q:H b with
 | none=>rfl
 | some x=>
  have hm:b∈trk h H:=List.mem_filter.mpr ⟨List.mem_range.mpr (Heap.lt_size e'),by simp [q]⟩
  have z:(nR h H).get? b=none:=PySem.W.hideAll_none (trk h H) hm
  rw [z] at e; cases e
def Yq (g h:Heap) (L:Addr):List (Addr × Obj):=(List.range h.objs.size).filterMap fun a=>if a=L∨(g.get? a).isSome=true then none else (h.get? a).map fun o=>(a,o)
def yI (g h:Heap) (L d:Addr):List (Addr × Obj):=(Yq g h L).filter fun p=>decide (p.1≠d)
end L2
namespace L2
open PySem PySem.Spec PyProof.Rows
structure Mod (K:PySem.W.Frag) (mg:Str→Option Value) (base:Heap):Prop where
 kin:K.In base
 glob:base.Ns mainGlobals mg
 blt:∃ mb,base.Ns builtinsNs mb∧∀ x:Str,x≠"__name__"→mb x=bootBuiltins x
 nolimit:base.NoLimit
structure Cx where
 prog:Program
 w:World
 K:PySem.W.Frag
 mg:Str→Option Value
 base:Heap
 A:Around
 N:List Str
 s₀:Shared
 H₀:Hp
 env:Env
 outer:List Env
 stack:List Env
 ex:List Addr
 fn:Str→Bool
 calm:Bool
 pn:List (Addr × Obj)
 xe:Value→Shared→Prop
def frs (l:List Env):List Addr:=l.filterMap (·.frame)
abbrev Cx.fs (X:Cx):List Addr:=frs X.outer
def Vis (sc:Scope) (x:Str):Prop:=sc.names.lookup x=some .local∨sc.names.lookup x=some .cell∨sc.names.lookup x=some .free
def Loc (sc:Scope) (x:Str):Prop:=sc.names.lookup x=some .local∨sc.names.lookup x=some .cell
def QB (env:Env) (h:Heap) (m:Str→Option Value) (x:Str) (u:Value):Prop:=
 (env.kindOf x=some .local∧m x=some u)∨((env.kindOf x=some .cell∨env.kindOf x=some .free)∧∃ c,env.cells.lookup x=some c∧h.IsCell c (some u))
structure Cx.Ok (X:Cx):Prop where
 mod:Mod X.K X.mg X.base
 kind:X.env.scope.kind=.function
 glob:X.env.globals=mainGlobals
 blt:X.env.builtins=builtinsNs
 above:X.s₀.heap.objs.size≤X.env.locals
 inj:∀ x y c,X.env.cells.lookup x=some c→X.env.cells.lookup y=some c→x=y
 has:∀ x,(X.env.kindOf x=some .cell∨X.env.kindOf x=some .free)→∃ c,X.env.cells.lookup x=some c
 cab:∀ x c,X.fn x=true→X.env.cells.lookup x=some c→X.s₀.heap.objs.size≤c
 hd:X.calm=true→X.A.handled=none
 frames:X.A.frames=some X.stack
 stk:X.stack=X.outer∨(X.stack=X.env::X.outer∧X.env.frame=some X.env.locals)
 exf:∀ b∈X.ex,b≠X.env.locals∧∀ x c,X.env.cells.lookup x=some c→c≠b
 bs:∀ b o,X.base.get? b=some o→X.s₀.heap.get? b=some o∧X.H₀ b=none
 bsz:X.base.objs.size≤X.s₀.heap.objs.size
 noex:∀ b o,X.base.get? b=some o→b∉X.ex
 exfs:∀ b∈X.ex,b∉X.fs
 funs:X.s₀.heap.FunFrames X.base X.outer
 frf:∀ b∈X.fs,X.H₀ b=none
structure Inv (X:Cx) (pins:List (Addr × Obj)) (σ:List (Option V)) (H:Hp) (s:Shared):Prop where
 ok:X.Ok
 os:s.os=X.s₀.os
 bare:AllBare s.gens
 base:Un X.fs X.ex X.H₀ H X.s₀.heap s.heap
 loc:∃ m,s.heap.Ns X.env.locals m∧∀ (i:Nat) (x:Str) (v:V),X.N[i]? = some x→σ[i]? = some (some v)→Vis X.env.scope x→∃ u,RelV v u∧QB X.env s.heap m x u
 cell:∀ x c,X.env.cells.lookup x=some c→∃ v,s.heap.IsCell c v
 free:H X.env.locals=none
 freeC:∀ x c,X.env.cells.lookup x=some c→H c=none
 pin:∀ p∈X.pn++pins,s.heap.get? p.1=some p.2∧H p.1=none∧p.1≠X.env.locals∧p.1∉X.fs∧∀ v,p.2.data≠.cell v
 hok:HOk X.prog X.w H s.heap
 len:σ.length=X.N.length
section
variable {X:Cx} {pins:List (Addr × Obj)} {σ:List (Option V)} {H H':Hp} {s:Shared} {h':Heap}
theorem Cx.Ok.nofr (ok:X.Ok) {b:Addr} {o:Obj} (e:X.base.get? b=some o):b∉X.fs:=fun hb=>by
 have:=(ok.funs.mem hb).1
 rw [e] at this; cases this
theorem Inv.bs (I:Inv X pins σ H s):∀ b o,X.base.get? b=some o→s.heap.get? b=some o∧H b=none:=fun b o e=>
 ⟨I.base.keep b o (I.ok.bs b o e).1 (I.ok.bs b o e).2 (I.ok.nofr e) (I.ok.noex b o e),I.base.free b o (I.ok.bs b o e).1 (I.ok.bs b o e).2 (I.ok.noex b o e)⟩
theorem Inv.bk (I:Inv X pins σ H s):∀ b o,X.base.get? b=some o→s.heap.get? b=some o:=fun b o e=>(I.bs b o e).1
theorem Inv.mod (I:Inv X pins σ H s):Mod X.K X.mg X.base:=I.ok.mod
theorem Inv.kIn (I:Inv X pins σ H s):X.K.In s.heap:=I.ok.mod.kin.keeps I.bk
theorem Inv.nolimit (I:Inv X pins σ H s):s.heap.NoLimit:=I.ok.mod.nolimit.keeps I.bk
theorem Inv.fr (I:Inv X pins σ H s):∃ m,Fr X.base X.env.locals s.heap m:=
 let ⟨m,hn,_⟩:=I.loc
 ⟨m,hn,I.bk,Nat.le_trans I.ok.bsz I.ok.above⟩
theorem Inv.lt (I:Inv X pins σ H s):X.env.locals<s.heap.objs.size:=let ⟨_,hn,_⟩:=I.loc; hn.lt
theorem Inv.sz (I:Inv X pins σ H s):X.s₀.heap.objs.size≤s.heap.objs.size:=Nat.le_trans I.ok.above (Nat.le_of_lt I.lt)
theorem Inv.nofs (I:Inv X pins σ H s) {a:Addr} (h:s.heap.objs.size≤a):a∉X.fs:=fun hb=>by
 obtain ⟨_,o,ho,_⟩:=I.ok.funs.mem hb
 exact absurd (Nat.lt_of_lt_of_le (Heap.lt_size ho) (Nat.le_trans I.sz h)) (Nat.lt_irrefl _)
theorem Inv.cne (I:Inv X pins σ H s):∀ x c,X.env.cells.lookup x=some c→c≠X.env.locals:=fun x c e z=>by
 obtain ⟨v,o,ho,hd⟩:=I.cell x c e
 obtain ⟨m,⟨o',es,ep,ho',hd',_⟩,_⟩:=I.loc
 rw [z,ho'] at ho; cases ho; rw [hd'] at hd; cases hd
theorem Inv.funs (I:Inv X pins σ H s):s.heap.FunFrames X.base X.outer:=by
 have all:∀ (l:List Env),(∀ b∈frs l,b∈X.fs)→X.s₀.heap.FunFrames X.base l→s.heap.FunFrames X.base l:=by
  intro l
  induction l with
  | nil=>intro _ _; trivial
  | cons env r ih=>
   intro hs hl
   obtain ⟨hk,⟨L,o,hf,hn,ho,hd⟩,hr⟩:=hl
   have hL:L∈X.fs:=hs L (by unfold frs; rw [List.filterMap_cons,hf]; exact List.mem_cons_self)
   obtain ⟨sl,e⟩:=I.base.slot L o ho (I.ok.frf L hL) hL fun z=>I.ok.exfs L z hL
   exact ⟨hk,⟨L,_,hf,hn,e,hd⟩,ih (fun b hb=>hs b (by unfold frs; rw [List.filterMap_cons,hf]; exact List.mem_cons_of_mem _ hb)) hr⟩
 exact all X.outer (fun _ hb=>hb) I.ok.funs
theorem Inv.stack (I:Inv X pins σ H s):s.heap.FunFrames X.base X.stack:=by
 rcases I.ok.stk with e | ⟨e,hf⟩
 ·rw [e]; exact I.funs
 ·rw [e]
  obtain ⟨m,hn,_⟩:=I.loc
  refine .cons (by rw [I.ok.kind]; decide) hf hn ?_ I.funs
  exact Heap.get?_none_of_le (Nat.le_trans I.ok.bsz I.ok.above)
theorem Inv.stkSub (I:Inv X pins σ H s):∀ b∈frs X.stack,b∈X.env.locals::X.fs:=fun b hb=>by
 rcases I.ok.stk with e | ⟨e,hf⟩
 ·rw [e] at hb; exact List.mem_cons_of_mem _ hb
 ·rw [e] at hb
  unfold frs at hb
  rw [List.filterMap_cons,hf] at hb
  exact hb
theorem Inv.stkFree (I:Inv X pins σ H s):∀ b∈frs X.stack,H b=none:=fun b hb=>by
 rcases List.mem_cons.mp (I.stkSub b hb) with e | hb
 ·rw [e]; exact I.free
 ·obtain ⟨_,o,ho,_⟩:=I.ok.funs.mem hb
  exact I.base.free b o ho (I.ok.frf b hb) fun z=>I.ok.exfs b z hb
theorem Inv.step {g':Array GenState} {t':Nat} {d':Drawn} {ch:List Addr} (I:Inv X pins σ H s)
  (hch:∀ b∈ch,(b∈X.ex∨X.s₀.heap.objs.size≤b)∧b≠X.env.locals∧(∀ x c,X.env.cells.lookup x=some c→c≠b)∧∀ p∈X.pn++pins,p.1≠b)
  (keep:∀ b o,b≠X.env.locals→b∉X.fs→b∉ch→s.heap.get? b=some o→H b=none→h'.get? b=some o)
  (slot:∀ b o,b≠X.env.locals→b∈X.fs→b∉ch→s.heap.get? b=some o→H b=none→∃ sl,h'.get? b=some { o with slots:=sl }) (free:∀ b o,b∉ch→s.heap.get? b=some o→H b=none→H' b=none)
  (there:∀ b o,b∉ch→s.heap.get? b=some o→∃ o',h'.get? b=some o')
  (tups:∀ b xs,H b=some (.tup xs)→H' b=some (.tup xs)) (frzs:∀ b o u,H b=some (.frz o u)→H' b=some (.frz o u)) (tbls:∀ b ps,H b=some (.tbl ps)→∃ more,H' b=some (.tbl (ps++more)))
  (ns:∀ m,s.heap.Ns X.env.locals m→h'.Ns X.env.locals m) (hok:HOk X.prog X.w H' h') (hg:AllBare g'):
  Inv X pins σ H' { s with heap:=h',gens:=g',drawn:=d',toks:=t' }:=by
 have neL:∀ b o,X.s₀.heap.get? b=some o→b≠X.env.locals:=fun b o e=>Nat.ne_of_lt (Nat.lt_of_lt_of_le (Heap.lt_size e) I.ok.above)
 have neC:∀ b o,X.s₀.heap.get? b=some o→b∉X.ex→b∉ch:=fun b o e hx hb=>by
  rcases (hch b hb).1 with z | z
  ·exact hx z
  ·exact absurd (Nat.lt_of_lt_of_le (Heap.lt_size e) z) (Nat.lt_irrefl _)
 have cellK:∀ x c,X.env.cells.lookup x=some c→∀ v,s.heap.IsCell c v→h'.IsCell c v:=fun x c e v ⟨o,ho,hd⟩=>by
  have nch:c∉ch:=fun z=>(hch c z).2.2.1 x c e rfl
  by_cases hc:c∈X.fs
  ·obtain ⟨sl,q⟩:=slot c o (I.cne x c e) hc nch ho (I.freeC x c e)
   exact ⟨_,q,hd⟩
  ·exact ⟨o,keep c o (I.cne x c e) hc nch ho (I.freeC x c e),hd⟩
 refine ⟨I.ok,I.os,hg,⟨fun b o e n hb hx=>?_,fun b o e n hb hx=>?_,fun b o e n hx=>?_,fun b o e hx=>?_,fun b xs e=>tups b xs (I.base.tups b xs e),fun b o xs e=>frzs b o xs (I.base.frzs b o xs e),fun b ps e=>?_⟩,?_,fun x c e=>?_,?_,fun x c e=>?_,fun p hp=>?_,hok,I.len⟩
 ·exact keep b o (neL b o e) hb (neC b o e hx) (I.base.keep b o e n hb hx) (I.base.free b o e n hx)
 ·obtain ⟨sl,e1⟩:=I.base.slot b o e n hb hx
  obtain ⟨sl',e2⟩:=slot b _ (neL b o e) hb (neC b o e hx) e1 (I.base.free b o e n hx)
  exact ⟨sl',e2⟩
 ·obtain ⟨o',e1⟩:=I.base.there b o e hx
  exact free b o' (neC b o e hx) e1 (I.base.free b o e n hx)
 ·obtain ⟨o',e1⟩:=I.base.there b o e hx
  exact there b o' (neC b o e hx) e1
 ·obtain ⟨m1,e1⟩:=I.base.tbls b ps e
  obtain ⟨m2,e2⟩:=tbls b _ e1
  exact ⟨m1++m2,by rw [e2,Array.append_assoc]⟩
 ·obtain ⟨m,hn,hl⟩:=I.loc
  refine ⟨m,ns m hn,fun i x v e1 e2 e3=>?_⟩
  obtain ⟨u,r,l⟩:=hl i x v e1 e2 e3
  refine ⟨u,r,?_⟩
  rcases l with l | ⟨k,c,e,z⟩
  ·exact .inl l
  ·exact .inr ⟨k,c,e,cellK x c e _ z⟩
 ·obtain ⟨v,z⟩:=I.cell x c e
  exact ⟨v,cellK x c e v z⟩
 ·obtain ⟨m,⟨o,_,_,ho,_⟩,_⟩:=I.loc
  exact free _ o (fun z=>(hch _ z).2.1 rfl) ho I.free
 ·obtain ⟨v,o,ho,hd⟩:=I.cell x c e
  exact free c o (fun z=>(hch c z).2.2.1 x c e rfl) ho (I.freeC x c e)
 ·obtain ⟨e,n,ne,nf,d⟩:=I.pin p hp
  have nch:p.1∉ch:=fun z=>(hch p.1 z).2.2.2 p hp rfl
  exact ⟨keep p.1 p.2 ne nf nch e n,free p.1 p.2 nch e n,ne,nf,d⟩
theorem Inv.un {t':Nat} (I:Inv X pins σ H s) (u:Un X.fs [] H H' s.heap h') (hok:HOk X.prog X.w H' h'):Inv X pins σ H' { s with heap:=h',toks:=t' }:=by
 obtain ⟨m,⟨o,es,ep,ho,r⟩,_⟩:=id I.loc
 obtain ⟨sl,hL⟩:=u.any ho I.free (by simp)
 exact I.step (g':=s.gens) (d':=s.drawn) (ch:=[]) (fun _ z=>nomatch z) (fun b o _ hb _ e n=>u.keep b o e n hb (by simp)) (fun b o _ hb _ e n=>u.slot b o e n hb (by simp)) (fun b o _ e n=>u.free b o e n (by simp)) (fun b o _ e=>u.there b o e (by simp)) u.tups u.frzs u.tbls (fun m' hm=>by
  obtain ⟨o',es',ep',ho',r'⟩:=hm
  rw [ho] at ho'; cases ho'
  exact ⟨_,es',ep',hL,r'⟩) hok I.bare
theorem Inv.call {g':Array GenState} {t':Nat} {d':Drawn} {ch:List Addr} (I:Inv X pins σ H s) (u:Un (frs X.stack) ch H H' s.heap h') (hok:HOk X.prog X.w H' h') (hg:AllBare g')
  (hch:∀ b∈ch,(b∈X.ex∨X.s₀.heap.objs.size≤b)∧b≠X.env.locals∧(∀ x c,X.env.cells.lookup x=some c→c≠b)∧∀ p∈X.pn++pins,p.1≠b):
  Inv X pins σ H' { s with heap:=h',gens:=g',drawn:=d',toks:=t' }:=by
 obtain ⟨m,⟨o,es,ep,ho,r⟩,_⟩:=id I.loc
 obtain ⟨sl,hL⟩:=u.any ho I.free fun z=>(hch _ z).2.1 rfl
 exact I.step (ch:=ch) hch (fun b o hL hb hc e n=>u.keep b o e n (fun z=>(List.mem_cons.mp (I.stkSub b z)).elim hL hb) hc) (fun b o _ _ hc e n=>u.any e n hc) (fun b o hc e n=>u.free b o e n hc) (fun b o hc e=>u.there b o e hc) u.tups u.frzs u.tbls (fun m' hm=>by
  obtain ⟨o',es',ep',ho',r'⟩:=hm
  rw [ho] at ho'; cases ho'
  exact ⟨_,es',ep',hL,r'⟩) hok hg
theorem Inv.turned {t':Nat} {it:Addr} (I:Inv X pins σ H s) (k:∀ b o,b≠it→s.heap.get? b=some o→h'.get? b=some o) (hn:H it=none) (hL:it≠X.env.locals)
  (h1:it∈X.ex∨X.s₀.heap.objs.size≤it) (h2:∀ x c,X.env.cells.lookup x=some c→c≠it) (h3:∀ p∈X.pn++pins,p.1≠it):Inv X pins σ H { s with heap:=h',toks:=t' }:=by
 have nit:∀ b u,H b=some u→b≠it:=fun b u e z=>by rw [z,hn] at e; cases e
 refine I.step (g':=s.gens) (d':=s.drawn) (ch:=[it]) (fun b hb=>?_) (fun b o _ _ hc e _=>k b o (fun z=>hc (by simp [z])) e) (fun b o _ _ hc e _=>⟨o.slots,k b o (fun z=>hc (by simp [z])) e⟩) (fun _ _ _ _ n=>n)
  (fun b o hc e=>⟨o,k b o (fun z=>hc (by simp [z])) e⟩) (fun _ _ e=>e) (fun _ _ _ e=>e) (fun b ps e=>⟨#[],by rw [e]; simp⟩) (fun m hm=>?_) (fun b u e=>?_) I.bare
 ·have e:b=it:=by simpa using hb
  subst e
  exact ⟨h1,hL,h2,h3⟩
 ·obtain ⟨o,es,ep,ho,r⟩:=hm
  exact ⟨o,es,ep,k _ o (Ne.symm hL) ho,r⟩
 ·refine (I.hok b u e).stay (fun c v hc q=>k c v ?_ q) (fun _ q=>q) fun _ _ q=>q
  rcases hc with z | z
  ·rw [z]; exact nit b u e
  ·exact nit c _ z
theorem Inv.tok (I:Inv X pins σ H s) (t:Nat):Inv X pins σ H { s with toks:=t }:=I.un (h':=s.heap) (t':=t) Un.refl I.hok
theorem Inv.kept {t':Nat} (I:Inv X pins σ H s) (k:∀ b u,s.heap.get? b=some u→h'.get? b=some u):Inv X pins σ H { s with heap:=h',toks:=t' }:=I.un (Un.kept k) (I.hok.kept k)
theorem Inv.laid {a:Addr} {o:HO} {t':Nat} (I:Inv X pins σ H s) (k:∀ b u,s.heap.get? b=some u→h'.get? b=some u) (hp:s.heap.objs.size≤a) (new:ObjOk X.prog X.w (upd H a o) h' a o):
  Inv X pins σ (upd H a o) { s with heap:=h',toks:=t' }:=I.un (Un.laid k hp (I.hok.fresh hp)) (I.hok.laid k hp new)
theorem Inv.write {x e:Addr} {o:HO} {t':Nat} (I:Inv X pins σ H s) (mu:Mut (H x)) (he:e=x∨H e=some (.own x)) (k:∀ b u,b≠e→s.heap.get? b=some u→h'.get? b=some u) (heo:∃ u,h'.get? e=some u)
  (new:ObjOk X.prog X.w (upd H x o) h' x o):Inv X pins σ (upd H x o) { s with heap:=h',toks:=t' }:=I.un (Un.write mu he k heo) (I.hok.write mu he k heo new)
theorem Inv.weak {σ':List (Option V)} (I:Inv X pins σ H s) (hl:σ'.length=σ.length) (w:∀ (i:Nat) v,σ'[i]? = some (some v)→σ[i]? = some (some v)):Inv X pins σ' H s:=
 ⟨I.ok,I.os,I.bare,I.base,let ⟨m,hn,hl'⟩:=I.loc; ⟨m,hn,fun i x v e1 e2 e3=>hl' i x v e1 (w i v e2) e3⟩,I.cell,I.free,I.freeC,I.pin,I.hok,hl.trans I.len⟩
theorem Inv.pins_of {pins':List (Addr × Obj)} (I:Inv X pins σ H s) (h:∀ p∈pins',s.heap.get? p.1=some p.2∧H p.1=none∧p.1≠X.env.locals∧p.1∉X.fs∧∀ v,p.2.data≠.cell v):Inv X pins' σ H s:=
 ⟨I.ok,I.os,I.bare,I.base,I.loc,I.cell,I.free,I.freeC,fun p hp=>(List.mem_append.mp hp).elim (fun z=>I.pin p (List.mem_append_left _ z)) (h p),I.hok,I.len⟩
theorem lA {N:List Str} (hN:N.Nodup) {i j:Nat} {x:Str} (a:N[i]? = some x) (b:N[j]? = some x):i=j:=by
 obtain ⟨h1,e1⟩:=List.getElem?_eq_some_iff.mp a
 obtain ⟨h2,e2⟩:=List.getElem?_eq_some_iff.mp b
 exact (List.getElem_inj hN).mp (e1.trans e2.symm)
theorem gH {M:Model} {A:Around} {E:Value→Shared→Prop} {i:Nat} {x:Str} {v:V} {u:Value} {Q:Unit→Shared→Prop} (I:Inv X pins σ H s) (hN:X.N.Nodup) (hi:X.N[i]? = some x) (hx:Loc X.env.scope x) (r:RelV v u)
  (h:∀ s',Inv X pins (σ.set i (some v)) H s'→(∃ a,Heap.SameBut a s.heap s'.heap∧(a=X.env.locals∨X.env.cells.lookup x=some a))→Q () s') (hf:X.fn x=true∨X.env.scope.names.lookup x=some .local:=by first | exact .inl rfl | exact .inr rfl | assumption):wpAny M A (storeName X.env x u) Q E s:=by
 obtain ⟨m,hn,hl⟩:=id I.loc
 have hcls:(X.env.scope.kind == .class || (X.env.scope.kind == .module && X.env.locals != X.env.globals))=false:=by rw [I.ok.kind]; rfl
 have hiσ:i<σ.length:=by rw [I.len]; exact (List.getElem?_eq_some_iff.mp hi).1
 have cne:=I.cne
 have tracked:∀ {a:Addr} {h':Heap},(∃ o,s.heap.get? a=some o∧H a=none)→Heap.SameBut a s.heap h'→HOk X.prog X.w H h':=fun {a h'} ha hs b ob e=>by
  obtain ⟨_,_,hfree⟩:=ha
  refine (I.hok b ob e).stay (fun c w' hc q=>(hs.2 c ?_).trans q) (fun _ q=>q) fun _ _ q=>q
  rintro rfl
  rcases hc with rfl | hc
  ·rw [hfree] at e; cases e
  ·rw [hfree] at hc; cases hc
 rcases hx with hk | hk
 ·refine wpAny_storeName_local hk hn (fun h' hn' hs=>?_) hcls
  obtain ⟨oL,_,_,hoL,_⟩:=id hn
  refine h _ ⟨I.ok,I.os,I.bare,⟨fun b o e n hb hx=>?_,fun b o e n hb hx=>?_,I.base.free,fun b o e hx=>?_,I.base.tups,I.base.frzs,I.base.tbls⟩,⟨_,hn',fun j y v' e1 e2 e3=>?_⟩,fun y c e=>?_,I.free,I.freeC,fun p hp=>?_,tracked ⟨oL,hoL,I.free⟩ hs,by simpa using I.len⟩ ⟨_,hs,.inl rfl⟩
  ·exact (hs.2 b (Nat.ne_of_lt (Nat.lt_of_lt_of_le (Heap.lt_size e) I.ok.above))).trans (I.base.keep b o e n hb hx)
  ·obtain ⟨sl,e1⟩:=I.base.slot b o e n hb hx
   exact ⟨sl,(hs.2 b (Nat.ne_of_lt (Nat.lt_of_lt_of_le (Heap.lt_size e) I.ok.above))).trans e1⟩
  ·obtain ⟨o',e1⟩:=I.base.there b o e hx
   exact ⟨o',(hs.2 b (Nat.ne_of_lt (Nat.lt_of_lt_of_le (Heap.lt_size e) I.ok.above))).trans e1⟩
  ·by_cases hj:j=i
   ·subst hj
    rw [hi] at e1; cases e1
    rw [List.getElem?_set_self hiσ] at e2
    cases e2
    exact ⟨u,r,.inl ⟨hk,by simp⟩⟩
   ·rw [List.getElem?_set_ne (Ne.symm hj)] at e2
    obtain ⟨u',r',q⟩:=hl j y v' e1 e2 e3
    refine ⟨u',r',?_⟩
    rcases q with ⟨k,e⟩ | ⟨k,c,e,z⟩
    ·refine .inl ⟨k,?_⟩
     have:y≠x:=fun e=>hj (lA hN e1 (e ▸ hi))
     simp [this,e]
    ·exact .inr ⟨k,c,e,z.sameBut hs (cne y c e)⟩
  ·obtain ⟨w',z⟩:=I.cell y c e
   exact ⟨w',z.sameBut hs (cne y c e)⟩
  ·obtain ⟨e,n,ne,nf,d⟩:=I.pin p hp
   exact ⟨(hs.2 p.1 ne).trans e,n,ne,nf,d⟩
 ·have hfn:X.fn x=true:=by
   rcases hf with z | z
   ·exact z
   ·rw [z] at hk; cases hk
  obtain ⟨c,hc⟩:=I.ok.has x (.inl hk)
  obtain ⟨w',z⟩:=I.cell x c hc
  refine wpAny_storeName_cell I.ok.kind hk hc z (fun h' hc' hs=>?_)
  obtain ⟨oc,hoc,hocd⟩:=id z
  refine h { s with heap:=h' } ⟨I.ok,I.os,I.bare,⟨fun b o e n hb hx=>?_,fun b o e n hb hx=>?_,I.base.free,fun b o e hx=>?_,I.base.tups,I.base.frzs,I.base.tbls⟩,⟨m,hn.sameBut hs (Ne.symm (cne x c hc)),fun j y v' e1 e2 e3=>?_⟩,fun y c' e=>?_,I.free,I.freeC,fun p hp=>?_,tracked ⟨oc,hoc,I.freeC x c hc⟩ hs,by simpa using I.len⟩ ⟨c,hs,.inr hc⟩
  ·exact (hs.2 b (Nat.ne_of_lt (Nat.lt_of_lt_of_le (Heap.lt_size e) (I.ok.cab x c hfn hc)))).trans (I.base.keep b o e n hb hx)
  ·obtain ⟨sl,e1⟩:=I.base.slot b o e n hb hx
   exact ⟨sl,(hs.2 b (Nat.ne_of_lt (Nat.lt_of_lt_of_le (Heap.lt_size e) (I.ok.cab x c hfn hc)))).trans e1⟩
  ·obtain ⟨o',e1⟩:=I.base.there b o e hx
   exact ⟨o',(hs.2 b (Nat.ne_of_lt (Nat.lt_of_lt_of_le (Heap.lt_size e) (I.ok.cab x c hfn hc)))).trans e1⟩
  ·by_cases hj:j=i
   ·subst hj
    rw [hi] at e1; cases e1
    rw [List.getElem?_set_self hiσ] at e2
    cases e2
    exact ⟨u,r,.inr ⟨.inl hk,c,hc,hc'⟩⟩
   ·rw [List.getElem?_set_ne (Ne.symm hj)] at e2
    obtain ⟨u',r',q⟩:=hl j y v' e1 e2 e3
    refine ⟨u',r',?_⟩
    rcases q with q | ⟨k,c',e,z'⟩
    ·exact .inl q
    ·refine .inr ⟨k,c',e,z'.sameBut hs ?_⟩
     rintro rfl
     exact hj (lA hN e1 (I.ok.inj _ _ _ e hc ▸ hi))
  ·by_cases hcc:c'=c
   ·subst hcc; exact ⟨_,hc'⟩
   ·obtain ⟨w2,z2⟩:=I.cell y c' e
    exact ⟨w2,z2.sameBut hs hcc⟩
  ·obtain ⟨e,n,ne,nf,d⟩:=I.pin p hp
   refine ⟨(hs.2 p.1 ?_).trans e,n,ne,nf,d⟩
   intro q
   rw [q,hoc] at e
   have q':oc=p.2:=Option.some.inj e
   exact d w' (by rw [← q']; exact hocd)
theorem rA {M:Model} {A:Around} {E:Value→Shared→Prop} {i:Nat} {x:Str} {v:V} {u:Value} {Q:Unit→Shared→Prop} (I:Inv X pins σ H s) (hN:X.N.Nodup) (hi:X.N[i]? = some x) (hx:Loc X.env.scope x) (r:RelV v u)
  (h:∀ s',Inv X pins (σ.set i (some v)) H s'→Q () s') (hf:X.fn x=true∨X.env.scope.names.lookup x=some .local:=by first | exact .inl rfl | exact .inr rfl | assumption):wpAny M A (storeName X.env x u) Q E s:=
 gH I hN hi hx r (fun s' I' _=>h s' I') hf
theorem Inv.call' {s':Shared} {ch:List Addr} (I:Inv X pins σ H s) (ho:s'.os=s.os) (u:Un (frs X.stack) ch H H' s.heap s'.heap) (hok:HOk X.prog X.w H' s'.heap) (hg:AllBare s'.gens)
  (hch:∀ b∈ch,(b∈X.ex∨X.s₀.heap.objs.size≤b)∧b≠X.env.locals∧(∀ x c,X.env.cells.lookup x=some c→c≠b)∧∀ p∈X.pn++pins,p.1≠b):Inv X pins σ H' s':=by
 obtain ⟨h',g',d',t',o'⟩:=s'
 have e:o'=s.os:=ho
 subst e
 exact I.call (g':=g') (t':=t') (d':=d') u hok hg hch
end
abbrev XK:=Value→Option Addr→Hp→Prop
abbrev St:=List (Option V)
abbrev VK:=V→Hp→Prop
abbrev TE:=St→Hp→VK→Prop
abbrev TT:=St→Hp→(Bool→Hp→Prop)→Prop
abbrev TA:=St→Hp→(List V→Hp→Prop)→Prop
structure uc where
 nx:St→Hp→Prop
 rt:VK
 bk:St→Hp→Prop:=fun _ _=>False
 ct:St→Hp→Prop:=fun _ _=>False
abbrev TS:=uc→St→Hp→Prop
def EP (X:Cx) (pins:List (Addr × Obj)) (σ:St) (Q:VK) (u:Value) (s':Shared):Prop:=∃ v H',Inv X pins σ H' s'∧RelV v u∧Q v H'
def TP (X:Cx) (pins:List (Addr × Obj)) (σ:St) (Q:Bool→Hp→Prop) (b:Bool) (s':Shared):Prop:=∃ H',Inv X pins σ H' s'∧Q b H'
def AP (X:Cx) (pins:List (Addr × Obj)) (σ:St) (Q:List V→Hp→Prop) (us:List Value) (s':Shared):Prop:=∃ vs H',Inv X pins σ H' s'∧Vals vs us∧Q vs H'
def SP (X:Cx) (pins:List (Addr × Obj)) (D:uc) (f:Flow) (s':Shared):Prop:=
 match f with
 | .next=>∃ σ' H',Inv X pins σ' H' s'∧D.nx σ' H'
 | .brk=>∃ σ' H',Inv X pins σ' H' s'∧D.bk σ' H'
 | .cont=>∃ σ' H',Inv X pins σ' H' s'∧D.ct σ' H'
 | .ret u=>∃ v σ' H',Inv X pins σ' H' s'∧RelV v u∧D.rt v H'
def PE (X:Cx) (e:Expr) (t:TE):Prop:=
 ∀ (pins:List (Addr × Obj)) (s:Shared) (σ:St) (H:Hp) (Q:VK),Inv X pins σ H s→t σ H Q→wpAny (model X.prog X.w) X.A (eval e X.env) (EP X pins σ Q) X.xe s
def PT (X:Cx) (e:Expr) (t:TT):Prop:=
 ∀ (pins:List (Addr × Obj)) (s:Shared) (σ:St) (H:Hp) (Q:Bool→Hp→Prop),Inv X pins σ H s→t σ H Q→wpAny (model X.prog X.w) X.A (isTrue e X.env (eval e X.env)) (TP X pins σ Q) X.xe s
def PW (X:Cx) (e:Expr) (t:TT):Prop:=
 ∀ (yS:Sem Value) (pins:List (Addr × Obj)) (s:Shared) (σ:St) (H:Hp) (Q:Bool→Hp→Prop),Inv X pins σ H s→t σ H Q→wpAny (model X.prog X.w) X.A (isTrue e X.env yS) (TP X pins σ Q) X.xe s
theorem PW.pt {X:Cx} {e:Expr} {t:TT} (h:PW X e t):PT X e t:=h _
def PA (X:Cx) (es:List Expr) (t:TA):Prop:=
 ∀ (pos:Pos) (pins:List (Addr × Obj)) (s:Shared) (σ:St) (H:Hp) (Q:List V→Hp→Prop),Inv X pins σ H s→t σ H Q→wpAny (model X.prog X.w) X.A (spliced (backTo pos (starEach es X.env))) (AP X pins σ Q) X.xe s
def PS (X:Cx) (st:Stmt) (t:TS):Prop:=
 ∀ (pins:List (Addr × Obj)) (s:Shared) (σ:St) (H:Hp) (D:uc),Inv X pins σ H s→t D σ H→wpAny (model X.prog X.w) X.A (exec st X.env) (SP X pins D) X.xe s
def PSs (X:Cx) (st:List Stmt) (t:TS):Prop:=
 ∀ (pins:List (Addr × Obj)) (s:Shared) (σ:St) (H:Hp) (D:uc),Inv X pins σ H s→t D σ H→wpAny (model X.prog X.w) X.A (execs st X.env) (SP X pins D) X.xe s
theorem thn {α:Type} {t:Sem α} {Q Q':α→Shared→Prop} {M:Model} {A:Around} {E:Value→Shared→Prop} {s:Shared} (h:wpAny M A t Q E s) (hQ:∀ a s,Q a s→Q' a s):wpAny M A t Q' E s:=wpAny_mono h hQ fun _ _ x=>x
end L2
namespace L2
open PySem PySem.Spec PyProof.Rows
section
variable {X:Cx}
theorem bin {a b:Expr} {ta tb:TE} (ha:PE X a ta) (hb:PE X b tb) {pins:List (Addr × Obj)} {s:Shared} {σ:St} {H:Hp} {R:V→V→Hp→Prop} (I:Inv X pins σ H s) (h:ta σ H fun x H1=>tb σ H1 fun y H2=>R x y H2)
  {α:Type} {Q:α→Shared→Prop} {f:Value→Value→Sem α}
  (hf:∀ v u s2 x y H2,Inv X pins σ H2 s2→RelV x v→RelV y u→R x y H2→wpAny (model X.prog X.w) X.A (f v u) Q X.xe s2):
  wpAny (model X.prog X.w) X.A (eval a X.env) (fun v s₁=>wpAny (model X.prog X.w) X.A (eval b X.env) (fun u s₂=>wpAny (model X.prog X.w) X.A (f v u) Q X.xe s₂) X.xe s₁) X.xe s:=by
 refine thn (ha pins s σ H _ I h) fun v s1 ⟨x,H1,I1,r1,q1⟩=>?_
 refine thn (hb pins s1 σ H1 _ I1 q1) fun u s2 ⟨y,H2,I2,r2,q2⟩=>?_
 exact hf v u s2 x y H2 I2 r1 r2 q2
def aE (i:Nat):TE:=fun σ H Q=>∃ v,σ[i]? = some (some v)∧Q v H
def tC (v:V):TE:=fun _ H Q=>Q v H
theorem yo {i:Nat} {x:Str} {pos:Pos} (hN:X.N[i]? = some x) (hv:Vis X.env.scope x) (hd:(x == ("__debug__":Str))=false:=by decide) (hcd:(x == ("__classdict__":Str))=false:=by decide):PE X (.Name x pos) (aE i):=by
 intro pins s σ H Q I h
 obtain ⟨v,e,h⟩:=h
 obtain ⟨m,hn,hl⟩:=I.loc
 obtain ⟨u,r,l⟩:=hl i x v hN e hv
 have fin:EP X pins σ Q u s:=⟨v,H,I,r,h⟩
 rcases l with ⟨hk,hm⟩ | ⟨hk,c,hc,hcell⟩
 ·exact wpAny_Name (wpAny_loadName_local I.ok.kind hk hn hm fin) hd
 ·rcases hk with hk | hk
  ·exact wpAny_Name (wpAny_loadName_cell I.ok.kind hk hc hcell fin) hd
  ·exact wpAny_Name (wpAny_loadName_free I.ok.kind hk hc hcell fin hcd) hd
theorem d6 {i j pos}:PE X (.Constant (.int i) j pos) (tC (.int i)):=fun _ _ _ H _ I h=>wpAny_Constant_int ⟨.int i,H,I.tok _,⟨_,rfl⟩,h⟩
theorem Ub {b j pos}:PE X (.Constant (.bool b) j pos) (tC (.bl b)):=fun _ _ _ H _ I h=>Constant_bool ⟨.bl b,H,I,rfl,h⟩
theorem XI {j pos}:PE X (.Constant .none j pos) (tC .non):=fun _ _ _ H _ I h=>Constant_none ⟨.non,H,I,rfl,h⟩
theorem XF {x j pos}:PE X (.Constant (.str x) j pos) (tC (.str x)):=fun _ _ _ H _ I h=>Calls.Constant_str ⟨.str x,H,I.tok _,⟨_,rfl⟩,h⟩
def Gl (X:Cx) (x:Str):Prop:=X.env.kindOf x=some .globalImplicit
theorem s8 {E:Value→Shared→Prop} {pins:List (Addr × Obj)} {s:Shared} {σ:St} {H:Hp} {x:Str} {u:Value} {pos:Pos} {Q:Value→Shared→Prop} (I:Inv X pins σ H s) (hg:Gl X x) (hm:X.mg x=some u) (h:Q u s)
  (hd:(x == ("__debug__":Str))=false:=by decide):wpAny (model X.prog X.w) X.A (eval (.Name x pos) X.env) Q E s:=
 Calls.Name_function_global I.ok.kind hg (Calls.loadGlobal_global (by rw [I.ok.glob]; exact I.mod.glob.keeps I.bk) hm h) hd
theorem ww {E:Value→Shared→Prop} {pins:List (Addr × Obj)} {s:Shared} {σ:St} {H:Hp} {x:Str} {u:Value} {pos:Pos} {Q:Value→Shared→Prop} (I:Inv X pins σ H s) (hg:Gl X x) (hm:X.mg x=none) (hv:bootBuiltins x=some u) (h:Q u s)
  (hn:x≠"__name__":=by decide) (hd:(x == ("__debug__":Str))=false:=by decide):wpAny (model X.prog X.w) X.A (eval (.Name x pos) X.env) Q E s:=by
 obtain ⟨mb,h1,h2⟩:=I.mod.blt
 exact Calls.Name_function_global I.ok.kind hg (Calls.loadGlobal_builtin (by rw [I.ok.glob]; exact I.mod.glob.keeps I.bk) hm (by rw [I.ok.blt]; exact h1.keeps I.bk) ((h2 x hn).trans hv) h) hd
theorem aX {x:Str} {v:V} {u:Value} {pos:Pos} (hg:Gl X x) (hm:X.mg x=some u) (r:RelV v u) (hd:(x == ("__debug__":Str))=false:=by decide):PE X (.Name x pos) (tC v):=
 fun _ _ _ H _ I h=>s8 I hg hm ⟨v,H,I,r,h⟩ hd
theorem aZ {x:Str} {v:V} {u:Value} {pos:Pos} (hg:Gl X x) (hm:X.mg x=none) (hv:bootBuiltins x=some u) (r:RelV v u) (hn:x≠"__name__":=by decide) (hd:(x == ("__debug__":Str))=false:=by decide):PE X (.Name x pos) (tC v):=
 fun _ _ _ H _ I h=>ww I hg hm hv ⟨v,H,I,r,h⟩ hn hd
variable {a b:Expr} {ta tb:TE} {pos:Pos}
def PC (X:Cx) (op:CmpOp) (a b:Expr) (t:TE):Prop:=
 ∀ (pins:List (Addr × Obj)) (s:Shared) (σ:St) (H:Hp) (Q:VK),Inv X pins σ H s→t σ H Q→
  wpAny (model X.prog X.w) X.A (eval a X.env) (fun v s₁=>wpAny (model X.prog X.w) X.A (eval b X.env) (fun u s₂=>wpAny (model X.prog X.w) X.A (compareOp op v u) (EP X pins σ Q) X.xe s₂) X.xe s₁) X.xe s
theorem c_ (b:Expr) {op:CmpOp} (h:op≠.In) (h2:op≠.NotIn):behindInMarks op b=false:=by
 have e1:(op == CmpOp.In)=false:=by cases op <;> first | rfl | exact absurd rfl h
 have e2:(op == CmpOp.NotIn)=false:=by cases op <;> first | rfl | exact absurd rfl h2
 cases b <;> simp [behindInMarks,e1,e2]
def VV (ta:TE):TE:=fun σ H Q=>ta σ H fun x H1=>Q (.bl (decide (x=.non))) H1
theorem RelV.none_iff {x:V} {v:Value} (r:RelV x v):(v == Value.none)=decide (x=.non):=by
 cases x with
 | non=>cases r; rfl
 | bl _=>cases r; rfl
 | int _=>obtain ⟨t,rfl⟩:=r; rfl
 | str _=>obtain ⟨t,rfl⟩:=r; rfl
 | byt _=>obtain ⟨t,rfl⟩:=r; rfl
 | flt _=>obtain ⟨t,rfl⟩:=r; rfl
 | ref _=>cases r; rfl
 | ty _=>cases r; rfl
theorem XQ {j pos'} (ha:PE X a ta):PC X .Is a (.Constant .none j pos') (VV ta):=by
 intro pins s σ H Q I h
 refine thn (ha pins s σ H _ I h) fun v s1 ⟨x,H1,I1,r1,q1⟩=>?_
 exact Constant_none (is_none_gen ⟨.bl _,H1,I1,by rw [r1.none_iff]; rfl,q1⟩)
def tB (t:TE):TT:=fun σ H Q=>t σ H fun x H1=>∃ c,x=.bl c∧Q c H1
theorem Xz {op:CmpOp} {t:TE} (h:PC X op a b t) (h1:behindInMarks op b=false:=by first | exact c_ _ (by decide) (by decide) | rfl):PT X (.Compare a [op] [b] pos) (tB t):=by
 intro pins s σ H Q I hw
 refine wpAny_isTrue_Compare1 (thn (h pins s σ H _ I hw) fun v s1 h1=>thn h1 fun u s2 h2=>thn h2 fun c s3 ⟨x,H1,I1,r1,q1⟩=>?_) h1
 obtain ⟨d,rfl,q⟩:=q1
 cases r1
 exact wpAny_truthy_bool ⟨H1,I1,q⟩
theorem Xx {e:Expr} {t:TE} (h:PE X e t) (he:∀ yS,isTrue e X.env yS=(do let v ← yS; standAt e.pos; holding [v] (truthy v)):=by intro _; rfl):PT X e (tB t):=by
 intro pins s σ H Q I hw
 refine isTrue_plain (thn (h pins s σ H _ I hw) fun v s1 ⟨x,H1,I1,r1,q1⟩=>?_) (he _)
 obtain ⟨d,rfl,q⟩:=q1
 cases r1
 exact wpAny_truthy_bool ⟨H1,I1,q⟩
variable {tA tB':TT} {yI:List Expr}
def Rn (t u:TT):TT:=fun σ H Q=>t σ H fun c H1=>if c=true then u σ H1 Q else Q false H1
def tOr (t u:TT):TT:=fun σ H Q=>t σ H fun c H1=>if c=true then Q true H1 else u σ H1 Q
def Rf (t:TT):TT:=fun σ H Q=>t σ H fun c H1=>Q (!c) H1
theorem aN (ha:PT X a tA):PW X (.BoolOp .And [a] pos) tA:=by
 intro wh pins s σ H Q I h
 refine isTrue_and (thn (ha pins s σ H Q I h) fun c s1 e=>?_)
 cases c with
 | true=>exact isTrue_and_nil e
 | false=>exact e
theorem Xv (ha:PT X a tA):PW X (.BoolOp .Or [a] pos) tA:=by
 intro wh pins s σ H Q I h
 refine isTrue_or (thn (ha pins s σ H Q I h) fun c s1 e=>?_)
 cases c with
 | false=>exact isTrue_or_nil e
 | true=>exact e
theorem Xw (ha:PT X a tA) (hb:PW X (.BoolOp .And (b::yI) pos) tB'):PW X (.BoolOp .And (a::b::yI) pos) (Rn tA tB'):=by
 intro wh pins s σ H Q I h
 refine isTrue_and (thn (ha pins s σ H _ I h) fun c s1 ⟨H1,I1,q1⟩=>?_)
 cases c with
 | true=>exact hb wh pins s1 σ H1 Q I1 q1
 | false=>exact ⟨H1,I1,q1⟩
theorem V8 (ha:PT X a tA) (hb:PW X (.BoolOp .Or (b::yI) pos) tB'):PW X (.BoolOp .Or (a::b::yI) pos) (tOr tA tB'):=by
 intro wh pins s σ H Q I h
 refine isTrue_or (thn (ha pins s σ H _ I h) fun c s1 ⟨H1,I1,q1⟩=>?_)
 cases c with
 | true=>exact ⟨H1,I1,q1⟩
 | false=>exact hb wh pins s1 σ H1 Q I1 q1
theorem Xy (ha:PT X a tA):PT X (.UnaryOp .Not a pos) (Rf tA):=by
 intro pins s σ H Q I h
 exact isTrue_not (ha pins s σ H (fun c H1=>Q (!c) H1) I h)
def V2 (ta tb:TE):TE:=fun σ H Q=>ta σ H fun x H1=>∃ c,x=.bl c∧if c=true then tb σ H1 Q else Q (.bl false) H1
def Re (ta tb:TE):TE:=fun σ H Q=>ta σ H fun x H1=>∃ c,x=.bl c∧if c=true then Q (.bl true) H1 else tb σ H1 Q
def VR (ta:TE):TE:=fun σ H Q=>ta σ H fun x H1=>∃ c,x=.bl c∧Q (.bl (!c)) H1
theorem XG {op} {t:TE} (h:PE X a t):PE X (.BoolOp op [a] pos) t:=fun pins s σ H Q I hw=>BoolOp_one (h pins s σ H Q I hw)
theorem XN (ha:PE X a ta) (hb:PE X (.BoolOp .And (b::yI) pos) tb):PE X (.BoolOp .And (a::b::yI) pos) (V2 ta tb):=by
 intro pins s σ H Q I h
 refine BoolOp_and (thn (ha pins s σ H _ I h) fun v s1 ⟨x,H1,I1,r1,q1⟩=>?_)
 obtain ⟨c,rfl,q1⟩:=q1
 cases r1
 refine wpAny_truthy_bool ?_
 cases c with
 | true=>exact hb pins s1 σ H1 Q I1 q1
 | false=>exact ⟨.bl false,H1,I1,rfl,q1⟩
theorem Ua (ha:PE X a ta) (hb:PE X (.BoolOp .Or (b::yI) pos) tb):PE X (.BoolOp .Or (a::b::yI) pos) (Re ta tb):=by
 intro pins s σ H Q I h
 refine BoolOp_or (thn (ha pins s σ H _ I h) fun v s1 ⟨x,H1,I1,r1,q1⟩=>?_)
 obtain ⟨c,rfl,q1⟩:=q1
 cases r1
 refine wpAny_truthy_bool ?_
 cases c with
 | false=>exact hb pins s1 σ H1 Q I1 q1
 | true=>exact ⟨.bl true,H1,I1,rfl,q1⟩
theorem XH (ha:PE X a ta):PE X (.UnaryOp .Not a pos) (VR ta):=by
 intro pins s σ H Q I h
 refine UnaryOp_ (thn (ha pins s σ H _ I h) fun v s1 ⟨x,H1,I1,r1,q1⟩=>?_)
 obtain ⟨c,rfl,q1⟩:=q1
 cases r1
 exact not_of (wpAny_truthy_bool ⟨.bl (!c),H1,I1,rfl,q1⟩)
end
end L2
namespace L2
open PySem PySem.Spec PyProof.Rows
def SqL (K:PySem.W.Frag) (H:Hp) (a:Addr) (xs:List V):Prop:=
 Rd H a (.lst xs)∨
  ∃ (o:Obj) (its:Array Value) (n:Nat),K.lookup a=some o∧o.cls=.type "list"∧o.dict=none∧o.data=.seq its n∧its.size≤sizeLine∧Vals xs its.toList
def SqT (K:PySem.W.Frag) (H:Hp) (a:Addr) (xs:List V):Prop:=
 Rd H a (.tup xs)∨
  ∃ (o:Obj) (its:Array Value) (n:Nat),K.lookup a=some o∧o.cls=.type "tuple"∧o.data=.seq its n∧its.size≤sizeLine∧Vals xs its.toList
def Qz:Value→Option V
 | .none=>some .non
 | .bool b=>some (.bl b)
 | .int i _=>some (.int i)
 | .str x _=>some (.str x)
 | .bytes b _=>some (.byt b)
 | .float b _=>some (.flt b)
 | .ref a=>some (.ref a)
 | .type n=>some (.ty n)
 | _=>none
theorem RelV.abs {x:V} {u:Value} (r:RelV x u):Qz u=some x:=by
 cases x with
 | non=>cases r; rfl
 | bl _=>cases r; rfl
 | int _=>obtain ⟨t,rfl⟩:=r; rfl
 | str _=>obtain ⟨t,rfl⟩:=r; rfl
 | byt _=>obtain ⟨t,rfl⟩:=r; rfl
 | flt _=>obtain ⟨t,rfl⟩:=r; rfl
 | ref _=>cases r; rfl
 | ty _=>cases r; rfl
theorem RelV.inj {x y:V} {u:Value} (r:RelV x u) (q:RelV y u):x=y:=Option.some.inj (r.abs.symm.trans q.abs)
theorem Vals.inj:∀ {xs ys:List V} {us:List Value},Vals xs us→Vals ys us→xs=ys
 | _,_,_,.nil,.nil=>rfl
 | _,_,_,.cons r t,.cons r' t'=>by rw [r.inj r',Vals.inj t t']
section
variable {X:Cx} {pins:List (Addr × Obj)} {σ:St} {H:Hp} {s:Shared} {a:Addr} {xs ys:List V}
theorem SqL.of {K:PySem.W.Frag} (h:H a=some (.lst xs)):SqL K H a xs:=.inl (.inl h)
theorem SqT.of {K:PySem.W.Frag} (h:H a=some (.tup xs)):SqT K H a xs:=.inl (.inl h)
theorem Inv.list (I:Inv X pins σ H s) (h:SqL X.K H a xs):∃ its:List Value,Vals xs its∧PlainL s.heap a its.toArray∧xs.length≤sizeLine:=by
 rcases h with h | ⟨o,its,n,hk,hc,hd,hs,hz,r⟩
 ·obtain ⟨z,its,n,r,e⟩:=h.ok I.hok
  exact ⟨its,r,⟨_,n,e,rfl,rfl,rfl⟩,z⟩
 ·refine ⟨its.toList,r,⟨o,n,I.kIn a o hk,hc,hd,by simpa using hs⟩,?_⟩
  have e:=r.length
  simp only [Array.length_toList] at e
  omega
theorem Inv.tuple (I:Inv X pins σ H s) (h:SqT X.K H a xs):∃ its:List Value,Vals xs its∧IsTup s.heap a its.toArray∧xs.length≤sizeLine:=by
 rcases h with h | ⟨o,its,n,hk,hc,hs,hz,r⟩
 ·obtain ⟨z,its,r,p⟩:=h.ok I.hok
  exact ⟨its,r,p,z⟩
 ·refine ⟨its.toList,r,⟨o,I.kIn a o hk,hc,n,by simpa using hs⟩,?_⟩
  have e:=r.length
  simp only [Array.length_toList] at e
  omega
theorem Inv.list_inj (I:Inv X pins σ H s) (h:SqL X.K H a xs) (h':SqL X.K H a ys):xs=ys:=by
 obtain ⟨its,r,⟨o,n,e,_,_,d⟩,_⟩:=I.list h
 obtain ⟨its',r',⟨o',n',e',_,_,d'⟩,_⟩:=I.list h'
 rw [e] at e'; cases e'
 rw [d] at d'
 injection d' with d1 _
 have:its=its':=by simpa using congrArg Array.toList d1
 subst this
 exact r.inj r'
end
abbrev Cx.wish (X:Cx) (E:Value→Shared→Prop):Cx:={ X with xe:=E }
abbrev Cx.nox (X:Cx):Cx:=X.wish fun _ _=>False
theorem Cx.Ok.wish {X:Cx} (ok:X.Ok) (E:Value→Shared→Prop):(X.wish E).Ok:=
 ⟨ok.mod,ok.kind,ok.glob,ok.blt,ok.above,ok.inj,ok.has,ok.cab,ok.hd,ok.frames,ok.stk,ok.exf,ok.bs,ok.bsz,ok.noex,ok.exfs,ok.funs,ok.frf⟩
theorem Cx.Ok.unwish {X:Cx} {E:Value→Shared→Prop} (ok:(X.wish E).Ok):X.Ok:=
 ⟨ok.mod,ok.kind,ok.glob,ok.blt,ok.above,ok.inj,ok.has,ok.cab,ok.hd,ok.frames,ok.stk,ok.exf,ok.bs,ok.bsz,ok.noex,ok.exfs,ok.funs,ok.frf⟩
section
variable {X:Cx} {pins:List (Addr × Obj)} {σ:St} {H:Hp} {s:Shared} {E:Value→Shared→Prop}
theorem Inv.wish (I:Inv X pins σ H s) (E:Value→Shared→Prop):Inv (X.wish E) pins σ H s:=⟨I.ok.wish E,I.os,I.bare,I.base,I.loc,I.cell,I.free,I.freeC,I.pin,I.hok,I.len⟩
theorem Inv.unwish (I:Inv (X.wish E) pins σ H s):Inv X pins σ H s:=⟨I.ok.unwish,I.os,I.bare,I.base,I.loc,I.cell,I.free,I.freeC,I.pin,I.hok,I.len⟩
theorem SP.unwish {D:uc} {f:Flow} {s':Shared} (h:SP (X.wish E) pins D f s'):SP X pins D f s':=by
 cases f with
 | next=>obtain ⟨σ',H',I,q⟩:=h; exact ⟨σ',H',I.unwish,q⟩
 | brk=>obtain ⟨σ',H',I,q⟩:=h; exact ⟨σ',H',I.unwish,q⟩
 | cont=>obtain ⟨σ',H',I,q⟩:=h; exact ⟨σ',H',I.unwish,q⟩
 | ret u=>obtain ⟨v,σ',H',I,r,q⟩:=h; exact ⟨v,σ',H',I.unwish,r,q⟩
theorem PE.nox {e:Expr} {t:TE} (h:PE X.nox e t):PE X e t:=fun pins s σ H Q I hw=>
 wpAny_mono (h pins s σ H Q (I.wish _) hw) (fun _ _ ⟨v,H',I',r,q⟩=>⟨v,H',I'.unwish,r,q⟩) fun _ _ z=>False.elim z
theorem PT.nox {e:Expr} {t:TT} (h:PT X.nox e t):PT X e t:=fun pins s σ H Q I hw=>
 wpAny_mono (h pins s σ H Q (I.wish _) hw) (fun _ _ ⟨H',I',q⟩=>⟨H',I'.unwish,q⟩) fun _ _ z=>False.elim z
theorem PSs.nox {st:List Stmt} {t:TS} (h:PSs X.nox st t):PSs X st t:=fun pins s σ H D I hw=>
 wpAny_mono (h pins s σ H D (I.wish _) hw) (fun _ _ q=>q.unwish) fun _ _ z=>False.elim z
end
section
variable {X:Cx} {st:Stmt} {yI:List Stmt} {t u:TS} {e:Expr} {te:TE} {pos:Pos}
def VT:TS:=fun D σ H=>D.nx σ H
def Rb (t u:TS):TS:=fun D σ H=>t { D with nx:=u D } σ H
theorem aP:PSs X [] VT:=fun _ _ σ H _ I h=>wpAny_execs_nil ⟨σ,H,I,h⟩
theorem mJ (h1:PS X st t) (h2:PSs X yI u):PSs X (st::yI) (Rb t u):=by
 intro pins s σ H D I h
 refine wpAny_execs_cons (thn (h1 pins s σ H { D with nx:=u D } I h) fun f s1 q=>?_)
 cases f with
 | next=>
  obtain ⟨σ',H',I',q⟩:=q
  exact h2 pins s1 σ' H' D I' q
 | ret v=>exact q
 | brk=>exact q
 | cont=>exact q
theorem wm (h1:PS X st t):PSs X [st] t:=by
 intro pins s σ H D I h
 refine wpAny_execs_cons (thn (h1 pins s σ H D I h) fun f s1 q=>?_)
 cases f with
 | next=>exact wpAny_execs_nil q
 | ret v=>exact q
 | brk=>exact q
 | cont=>exact q
theorem Inv.quiet {pins:List (Addr × Obj)} {σ:St} {H:Hp} {s:Shared} (I:Inv X pins σ H s):interactive X.env=false:=by simp [interactive,I.ok.kind]
def VX (te:TE):TS:=fun D σ H=>te σ H fun _ H1=>D.nx σ H1
theorem vj (he:PE X e te) (hs:swapsWith e none pos.line X.env=pure false:=by rfl):PS X (.Expr e pos) (VX te):=by
 intro pins s σ H D I h
 exact wpAny_Expr_any (thn (he pins s σ H _ I h) fun v s1 ⟨x,H1,I1,r1,q1⟩=>⟨σ,H1,I1,q1⟩) I.quiet hs
def Rc (te:TE):TS:=fun D σ H=>te σ H D.rt
theorem oZ (he:PE X e te):PS X (.Return (some e) pos) (Rc te):=by
 intro pins s σ H D I h
 exact wpAny_Return_some (thn (he pins s σ H _ I h) fun v s1 ⟨x,H1,I1,r1,q1⟩=>⟨x,σ,H1,I1,r1,q1⟩)
def Rh (c:TT) (t u:TS):TS:=fun D σ H=>c σ H fun b H1=>if b=true then t D σ H1 else u D σ H1
theorem V9 {c:Expr} {a b:List Stmt} {tc:TT} (hc:PT X c tc) (ha:PSs X a t) (hb:PSs X b u):PS X (.If c a b pos) (Rh tc t u):=by
 intro pins s σ H D I h
 refine wpAny_If (thn (hc pins s σ H _ I h) fun d s1 ⟨H1,I1,q1⟩=>?_)
 cases d with
 | true=>exact ha pins s1 σ H1 D I1 q1
 | false=>exact hb pins s1 σ H1 D I1 q1
def Xp:TS:=fun _ _ _=>False
theorem dQ:PS X st Xp:=fun _ _ _ _ _ _ h=>h.elim
end
abbrev TG:=V→St→Hp→(St→Hp→Prop)→Prop
abbrev TGs:=List V→St→Hp→(St→Hp→Prop)→Prop
def PG (X:Cx) (target:Expr) (t:TG):Prop:=
 ∀ (pins:List (Addr × Obj)) (s:Shared) (σ:St) (H:Hp) (v:V) (u:Value) (Q:St→Hp→Prop),Inv X pins σ H s→RelV v u→t v σ H Q→
  wpAny (model X.prog X.w) X.A (assign target X.env u) (fun _ s'=>∃ σ' H',Inv X pins σ' H' s'∧Q σ' H') X.xe s
def PGs (X:Cx) (ts:List Expr) (t:TGs):Prop:=
 ∀ (pins:List (Addr × Obj)) (s:Shared) (σ:St) (H:Hp) (vs:List V) (us:List Value) (Q:St→Hp→Prop),Inv X pins σ H s→Vals vs us→t vs σ H Q→
  wpAny (model X.prog X.w) X.A (assignInOrder ((assignEach ts X.env).map (·.2)) us) (fun _ s'=>∃ σ' H',Inv X pins σ' H' s'∧Q σ' H') X.xe s
abbrev ak:=V→V→V→Hp→(Hp→Prop)→Prop
def VL (X:Cx) (t:ak):Prop:=
 ∀ (pins:List (Addr × Obj)) (s:Shared) (σ:St) (H:Hp) (o i v:V) (ov iv u:Value) (Q:Hp→Prop),Inv X pins σ H s→RelV o ov→RelV i iv→RelV v u→t o i v H Q→
  wpAny (model X.prog X.w) X.A (setItem ov iv u) (fun _ s'=>∃ H',Inv X pins σ H' s'∧Q H') X.xe s
abbrev TIp:=V→V→Hp→VK→Prop
def PIp (X:Cx) (op:Operator) (t:TIp):Prop:=
 ∀ (pins:List (Addr × Obj)) (s:Shared) (σ:St) (H:Hp) (x y:V) (v u:Value) (Q:VK),Inv X pins σ H s→RelV x v→RelV y u→t x y H Q→
  wpAny (model X.prog X.w) X.A (inplaceOp op v u) (EP X pins σ Q) X.xe s
section
variable {X:Cx} {pos:Pos}
def bA (i:Nat):TG:=fun v σ H Q=>Q (σ.set i (some v)) H
theorem yj {i:Nat} {x:Str} (hN:X.N.Nodup) (hi:X.N[i]? = some x) (hx:Loc X.env.scope x) (hf:X.fn x=true∨X.env.scope.names.lookup x=some .local:=by first | exact .inl rfl | exact .inr rfl | assumption):PG X (.Name x pos) (bA i):=by
 intro pins s σ H v u Q I r h
 exact wpAny_assign_Name (rA I hN hi hx r (fun s' I'=>⟨_,H,I',h⟩) hf)
def Qg:TGs:=fun vs σ H Q=>vs=[]∧Q σ H
def UT (t:TG) (u:TGs):TGs:=fun vs σ H Q=>∃ v r,vs=v::r∧t v σ H fun σ' H'=>u r σ' H' Q
theorem o5:PGs X [] Qg:=by
 intro pins s σ H vs us Q I r h
 obtain ⟨e,h⟩:=h
 subst e
 cases r
 exact assignInOrder_nil ⟨σ,H,I,h⟩
theorem xU {e:Expr} {es:List Expr} {t:TG} {u:TGs} (h1:PG X e t) (h2:PGs X es u)
  (hs:(assignEach (e::es) X.env).map (·.2)=assign e X.env::(assignEach es X.env).map (·.2):=by rfl):PGs X (e::es) (UT t u):=by
 intro pins s σ H vs us Q I r h
 obtain ⟨v,vr,e1,h⟩:=h
 subst e1
 cases r with
 | cons r rr=>
  rw [hs]
  refine assignInOrder_cons (thn (h1 pins s σ H _ _ _ I r h) fun _ s1 ⟨σ1,H1,I1,q1⟩=>?_)
  exact h2 pins s1 σ1 H1 _ _ Q I1 rr q1
def Qc (K:PySem.W.Frag) (n:Nat) (t:TGs):TG:=fun v σ H Q=>∃ a xs,v=.ref a∧SqT K H a xs∧xs.length=n∧t xs σ H Q
theorem kA {es:List Expr} {k:Nat} {t:TGs} {n:Nat} (hc:X.calm=true) (h:PGs X es t)
  (hn:(assignEach es X.env).length=n:=by rfl) (hst:(assignEach es X.env).findIdx? (·.1)=none:=by rfl):PG X (.Tuple es k pos) (Qc X.K n t):=by
 intro pins s σ H v u Q I r hw
 obtain ⟨a,xs,e1,hq,hl,hw⟩:=hw
 subst e1
 cases r
 obtain ⟨its,rv,ht,hz⟩:=I.tuple hq
 refine assign_Tuple_tuple (I.ok.hd hc) ht (by simp [hn,← hl,rv.length]) hst fun h' hx=>?_
 have I1:Inv X pins σ H { s with heap:=h' }:=I.kept (t':=s.toks) fun b o e=>hx b o (Nat.ne_of_lt (Heap.lt_size e)) e
 exact h pins _ σ H xs _ Q I1 (by simpa using rv) hw
def Qe (to ti:TE) (t:ak):TG:=fun v σ H Q=>to σ H fun o H1=>ti σ H1 fun i H2=>t o i v H2 fun H3=>Q σ H3
theorem XE {o i:Expr} {to ti:TE} {t:ak} (ho:PE X o to) (hi:PE X i ti) (hs:VL X t)
  (ha:∀ v,assign (.Subscript o i pos) X.env v=(do
   let ov ← holding [v] (eval o X.env)
   let iv ← holding [v,ov] (eval i X.env)
   standAt pos
   holding [v,ov,iv] (setItem ov iv v)
   release [v,ov,iv] []):=by intro _; rfl):PG X (.Subscript o i pos) (Qe to ti t):=by
 intro pins s σ H v u Q I r h
 rw [ha]
 refine wpAny_bind (wpAny_holding (thn (ho pins s σ H _ I h) fun ov s1 ⟨x,H1,I1,r1,q1⟩=>?_))
 refine wpAny_bind (wpAny_holding (thn (hi pins s1 σ H1 _ I1 q1) fun iv s2 ⟨y,H2,I2,r2,q2⟩=>?_))
 refine wpAny_bind (wpAny_standAt (wpAny_bind (wpAny_holding (thn (hs pins s2 σ H2 x y v ov iv u _ I2 r1 r2 r q2) fun _ s3 ⟨H3,I3,q3⟩=>?_))))
 exact wpAny_release ⟨σ,H3,I3,q3⟩
def V1 (te:TE) (g:TG):TS:=fun D σ H=>te σ H fun x H1=>g x σ H1 D.nx
theorem dR {tg e:Expr} {te:TE} {g:TG} (he:PE X e te) (hg:PG X tg g) (hs:swapsWithSole [tg] e pos.line X.env=pure false:=by rfl) (hw:swappedStores [tg] e X.env=pure none:=by rfl)
  (h1:(assignEach [tg] X.env).map (·.2)=[assign tg X.env]:=by rfl):PS X (.Assign [tg] e pos) (V1 te g):=by
 intro pins s σ H D I h
 refine wpAny_Assign_stores (thn (he pins s σ H _ I h) fun v s1 ⟨x,H1,I1,r1,q1⟩=>?_) hs hw
 rw [h1]
 exact thn (hg pins s1 σ H1 x v _ I1 r1 q1) fun _ s2 q=>q
theorem dO {i:Nat} {x:Str} {e:Expr} {te:TE} {pos':Pos} (hN:X.N.Nodup) (hi:X.N[i]? = some x) (hx:Loc X.env.scope x) (he:PE X e te) (hs:swapsWith e (some (.Name x pos')) pos.line X.env=pure false:=by rfl) (hf:X.fn x=true∨X.env.scope.names.lookup x=some .local:=by first | exact .inl rfl | exact .inr rfl | assumption):
  PS X (.Assign [.Name x pos'] e pos) (V1 te (bA i)):=by
 intro pins s σ H D I h
 refine wpAny_Assign_Name (thn (he pins s σ H _ I h) fun v s1 ⟨y,H1,I1,r1,q1⟩=>?_) hs
 exact rA I1 hN hi hx r1 (fun s2 I2=>⟨_,H1,I2,q1⟩) hf
def Rm (i:Nat) (te:TE) (ti:TIp):TS:=fun D σ H=>∃ x,σ[i]? = some (some x)∧te σ H fun y H1=>ti x y H1 fun z H2=>D.nx (σ.set i (some z)) H2
theorem XA {i:Nat} {x:Str} {e:Expr} {te:TE} {op:Operator} {ti:TIp} {pos':Pos} (hN:X.N.Nodup) (hi:X.N[i]? = some x) (hx:Loc X.env.scope x) (he:PE X e te) (ho:PIp X op ti) (hf:X.fn x=true∨X.env.scope.names.lookup x=some .local:=by first | exact .inl rfl | exact .inr rfl | assumption):
  PS X (.AugAssign (.Name x pos') op e pos) (Rm i te ti):=by
 intro pins s σ H D I h
 obtain ⟨v,e1,h⟩:=h
 obtain ⟨m,hn,hl⟩:=I.loc
 have vis:Vis X.env.scope x:=by rcases hx with k | k; exact .inl k; exact .inr (.inl k)
 obtain ⟨u,r,l⟩:=hl i x v hi e1 vis
 refine wpAny_AugAssign_Name ?_
 have go:wpAny (model X.prog X.w) X.A (eval e X.env) (fun w s₂=>wpAny (model X.prog X.w) X.A (inplaceOp op u w) (fun r s₃=>wpAny (model X.prog X.w) X.A (storeName X.env x r) (fun _=>SP X pins D .next) X.xe s₃) X.xe s₂) X.xe s:=by
  refine thn (he pins s σ H _ I h) fun w s1 ⟨y,H1,I1,r1,q1⟩=>?_
  refine thn (ho pins s1 σ H1 v y u w _ I1 r r1 q1) fun z s2 ⟨zv,H2,I2,r2,q2⟩=>?_
  exact rA I2 hN hi hx r2 (fun s3 I3=>⟨_,H2,I3,q2⟩) hf
 rcases l with ⟨hk,hm⟩ | ⟨hk,c,hc,hcell⟩
 ·exact wpAny_loadName_local I.ok.kind hk hn hm go
 ·rcases hk with hk | hk
  ·exact wpAny_loadName_cell I.ok.kind hk hc hcell go
  ·rcases hx with k | k
   ·have:X.env.scope.names.lookup x=some .free:=hk
    rw [k] at this; cases this
   ·have:X.env.scope.names.lookup x=some .free:=hk
    rw [k] at this; cases this
def V0 (to ti te:TE) (tget:V→V→Hp→VK→Prop) (tip:TIp) (tset:ak):TS:=fun D σ H=>to σ H fun o H1=>ti σ H1 fun i H2=>tget o i H2 fun x H3=>te σ H3 fun y H4=>tip x y H4 fun z H5=>tset o i z H5 fun H6=>D.nx σ H6
def S8 (X:Cx) (t:V→V→Hp→VK→Prop):Prop:=
 ∀ (pins:List (Addr × Obj)) (s:Shared) (σ:St) (H:Hp) (o i:V) (ov iv:Value) (Q:VK),Inv X pins σ H s→RelV o ov→RelV i iv→t o i H Q→
  wpAny (model X.prog X.w) X.A (getItem ov iv) (EP X pins σ Q) X.xe s
theorem aQ {o i e:Expr} {to ti te:TE} {tget:V→V→Hp→VK→Prop} {tip:TIp} {tset:ak} {op:Operator} {tpos:Pos} (ho:PE X o to) (hi:PE X i ti) (hg:S8 X tget) (he:PE X e te) (hp:PIp X op tip) (hs:VL X tset)
  (ha:∀ ov iv new,augStore i ov iv new=(do holding [new,ov,iv] (setItem ov iv new); release [new,ov,iv] []; pure .next):=by intros; rfl):PS X (.AugAssign (.Subscript o i tpos) op e pos) (V0 to ti te tget tip tset):=by
 intro pins s σ H D I h
 refine wpAny_AugAssign_SubscriptAny (thn (ho pins s σ H _ I h) fun ov s1 ⟨x1,H1,I1,r1,q1⟩=>?_) ha
 refine thn (hi pins s1 σ H1 _ I1 q1) fun iv s2 ⟨x2,H2,I2,r2,q2⟩=>?_
 refine thn (hg pins s2 σ H2 x1 x2 ov iv _ I2 r1 r2 q2) fun old s3 ⟨x3,H3,I3,r3,q3⟩=>?_
 refine thn (he pins s3 σ H3 _ I3 q3) fun v s4 ⟨x4,H4,I4,r4,q4⟩=>?_
 refine thn (hp pins s4 σ H4 x3 x4 old v _ I4 r3 r4 q4) fun new s5 ⟨x5,H5,I5,r5,q5⟩=>?_
 exact thn (hs pins s5 σ H5 x1 x2 x5 ov iv new _ I5 r1 r2 r5 q5) fun _ s6 ⟨H6,I6,q6⟩=>⟨σ,H6,I6,q6⟩
def ipI (f:Int→Int→Int):TIp:=fun x y H Q=>∃ i j,x=.int i∧y=.int j∧Q (.int (f i j)) H
theorem Ve:PIp X .Add (ipI fun i j=>i+j):=by
 intro pins s σ H x y v u Q I r1 r2 h
 obtain ⟨i,j,e1,e2,q⟩:=h
 subst e1; subst e2
 obtain ⟨t,rfl⟩:=r1
 obtain ⟨t',rfl⟩:=r2
 exact iadd_int ⟨.int _,H,I.tok _,⟨_,rfl⟩,q⟩
theorem Vd:PIp X .Sub (ipI fun i j=>i - j):=by
 intro pins s σ H x y v u Q I r1 r2 h
 obtain ⟨i,j,e1,e2,q⟩:=h
 subst e1; subst e2
 obtain ⟨t,rfl⟩:=r1
 obtain ⟨t',rfl⟩:=r2
 exact isub_int ⟨.int _,H,I.tok _,⟨_,rfl⟩,q⟩
end
section
variable {X:Cx} {pos:Pos}
def Xo (c:TT) (tb:TS):TS:=fun D σ H=>∃ W:Nat→St→Hp→Prop,(∃ m,W m σ H)∧∀ m σ H,W m σ H→
 c σ H fun b H1=>if b=true then ∃ N:St→Hp→Prop,(∀ σ' H',N σ' H'→∃ m',m'<m∧W m' σ' H')∧tb { D with nx:=N,ct:=N,bk:=D.nx } σ H1 else D.nx σ H1
theorem dN {c:Expr} {body:List Stmt} {tc:TT} {tb:TS} (hp:PassesOwn (model X.prog X.w) X.A X.env X.xe) (hc:PT X c tc) (hb:PSs X body tb):PS X (.While c body [] pos) (Xo tc tb):=by
 intro pins s σ H D I h
 obtain ⟨W,⟨m0,w0⟩,turn⟩:=h
 refine wpAny_While (codeAny_whileLoop (fun n s'=>∃ σ' H',Inv X pins σ' H' s'∧W n σ' H') ?_ m0 ⟨σ,H,I,w0⟩)
 rintro n s1 ⟨σ1,H1,I1,w1⟩
 refine wpAny_passesOwn hp (thn (hc pins s1 σ1 H1 _ I1 (turn n σ1 H1 w1)) fun b s2 ⟨H2,I2,q2⟩=>?_)
 cases b with
 | true=>
  obtain ⟨N,hN,q2⟩:=q2
  rw [if_pos rfl]
  refine wpAny_passesOwn hp (thn (hb pins s2 σ1 H2 _ I2 q2) fun f s3 q3=>?_)
  cases f with
  | next=>
   obtain ⟨σ3,H3,I3,n3⟩:=q3
   obtain ⟨m',hm,w3⟩:=hN σ3 H3 n3
   exact ⟨m',hm,σ3,H3,I3,w3⟩
  | cont=>
   obtain ⟨σ3,H3,I3,n3⟩:=q3
   obtain ⟨m',hm,w3⟩:=hN σ3 H3 n3
   exact ⟨m',hm,σ3,H3,I3,w3⟩
  | brk=>exact q3
  | ret v=>exact q3
 | false=>
  rw [if_neg Bool.false_ne_true]
  exact wpAny_execs_nil ⟨σ1,H2,I2,q2⟩
end
structure It where
 go:Nat→Hp→Prop
 yld:Nat→Hp→V→Hp→Prop
 stop:Nat→Hp→Prop
def xQ (X:Cx) (pins:List (Addr × Obj)) (H:Hp) (b:Addr):Prop:=
 H b=none∧b≠X.env.locals∧b∉X.fs∧(b∈X.ex∨X.s₀.heap.objs.size≤b)∧(∀ x c,X.env.cells.lookup x=some c→c≠b)∧∀ p∈X.pn++pins,p.1≠b
theorem Inv.fpOk {X:Cx} {pins:List (Addr × Obj)} {σ:St} {H H':Hp} {s:Shared} {b:Addr} (I:Inv X pins σ H s) (hb:s.heap.objs.size≤b) (hn:H' b=none):xQ X pins H' b:=by
 refine ⟨hn,Nat.ne_of_gt (Nat.lt_of_lt_of_le I.lt hb),I.nofs hb,.inr (Nat.le_trans I.sz hb),fun x c e z=>?_,fun p hp z=>?_⟩
 ·obtain ⟨v,q⟩:=I.cell x c e
  exact absurd (Nat.lt_of_lt_of_le q.lt (by rw [z]; exact hb)) (Nat.lt_irrefl _)
 ·exact absurd (Nat.lt_of_lt_of_le (Heap.lt_size (I.pin p hp).1) (by rw [z]; exact hb)) (Nat.lt_irrefl _)
structure p7 (P:Program) (w:World) (K:PySem.W.Frag) (tg:Expr) (J:It) (fp:List Addr) (it:Addr) (tn:Nat→Heap→Prop):Prop where
 mem:it∈fp
 obj:∀ i h,tn i h→∀ b∈fp,∃ o,h.get? b=some o∧∀ v,o.data≠.cell v
 keep:∀ i h h',tn i h→(∀ b∈fp,∀ o,h.get? b=some o→h'.get? b=some o)→tn i h'
 item:∀ (X:Cx),X.prog=P→X.w=w→X.K=K→X.calm=true→∀ (i:Nat) (pins:List (Addr × Obj)) (s:Shared) (σ:St) (H:Hp) (E:Value→Shared→Prop),Inv X pins σ H s→(∀ b∈fp,xQ X pins H b)→tn i s.heap→J.go i H→
  wpAny (model P w) X.A (pyNext (.ref it)) (fun r s1=>∃ u,r=some u∧
   wpAny (model P w) X.A (letOwnedTupleGo tg (.ref it) u) (fun _ s2=>∃ x H',Inv X pins σ H' s2∧RelV x u∧J.yld i H x H'∧tn (i+1) s2.heap∧∀ b∈fp,H' b=none) E s1) E s
 done:∀ (X:Cx),X.prog=P→X.w=w→X.K=K→X.calm=true→∀ (i:Nat) (pins:List (Addr × Obj)) (s:Shared) (σ:St) (H:Hp) (E:Value→Shared→Prop),Inv X pins σ H s→(∀ b∈fp,xQ X pins H b)→tn i s.heap→J.stop i H→
  wpAny (model P w) X.A (pyNext (.ref it)) (fun r s1=>r=none∧Inv X pins σ H s1) E s
 self:∀ (A:Around) (i:Nat) (s:Shared) (Q:Value→Shared→Prop) (E:Value→Shared→Prop),tn i s.heap→Q (.ref it) s→wpAny (model P w) A (pyIter (.ref it)) Q E s
abbrev TI:=St→Hp→(It→Hp→Prop)→Prop
def PIE (X:Cx) (pins:List (Addr × Obj)) (σ:St) (tg:Expr) (R:It→Hp→Prop) (itv:Value) (s2:Shared):Prop:=
 ∃ (it:Addr) (fp:List Addr) (tn:Nat→Heap→Prop) (J:It) (H':Hp),itv=.ref it∧Inv X pins σ H' s2∧p7 X.prog X.w X.K tg J fp it tn∧tn 0 s2.heap∧(∀ b∈fp,xQ X pins H' b)∧R J H'
def PI (X:Cx) (tg iter:Expr) (wi:TI):Prop:=
 ∀ (pins:List (Addr × Obj)) (s:Shared) (σ:St) (H:Hp) (R:It→Hp→Prop),Inv X pins σ H s→wi σ H R→
  wpAny (model X.prog X.w) X.A (eval iter X.env) (fun v s1=>wpAny (model X.prog X.w) X.A (pyIter v) (PIE X pins σ tg R) X.xe s1) X.xe s
theorem i_ {M:Model} {A:Around} {E:Value→Shared→Prop} {s:Shared} {tg:Expr} {it:Addr} {u:Value} {o:Obj} {n:String} {vs:Array Value} {Q:Unit→Shared→Prop} (ho:s.heap.get? it=some o) (hc:o.cls=.type n) (hd:o.data=.fields vs)
  (hn:["enumerate","zip","dict_itemiterator","dict_reverseitemiterator","odict_iterator","itertools.zip_longest","itertools.pairwise"].contains n=false) (hQ:Q () s):wpAny M A (letOwnedTupleGo tg (.ref it) u) Q E s:=by
 unfold letOwnedTupleGo
 cases tg <;> first
  | exact wpAny_pure hQ
  | (cases u <;> first
    | exact wpAny_pure hQ
    | (refine wpAny_bind (wpAny_load ho ?_)
       rw [hc,hd]
       show wpAny M A (if (["enumerate","zip","dict_itemiterator","dict_reverseitemiterator","odict_iterator","itertools.zip_longest","itertools.pairwise"].contains n && vs[0]? == some (rawInt _))=true then _ else _) Q E s
       rw [if_neg (by intro h; rw [hn,Bool.false_and] at h; cases h)]
       exact wpAny_pure hQ))
def Itl (K:PySem.W.Frag) (a:Addr):It:=
 ⟨fun i H=>∃ xs x,SqL K H a xs∧xs[i]? = some x,fun i H x H'=>H'=H∧∀ xs,SqL K H a xs→xs[i]? = some x,fun i H=>∃ xs,SqL K H a xs∧xs.length≤i⟩
def Itr (lo:Int) (n:Nat):It:=⟨fun i _=>i<n,fun i H x H'=>H'=H∧x=.int (lo+i),fun i _=>n≤i⟩
theorem gB {P:Program} {w:World} {K:PySem.W.Frag} {tg:Expr} (a it:Addr):p7 P w K tg (Itl K a) [it] it (fun i h=>h.IsListIter it a i) where
 mem:=by simp
 obj:=fun i h st b hb=>by
  have e:b=it:=by simpa using hb
  subst e
  obtain ⟨o,e,c,d⟩:=st
  exact ⟨o,e,fun v z=>by rw [d] at z; cases z⟩
 keep:=fun i h h' st k=>st.at fun o e=>k it (by simp) o e
 item:=by
  intro X hP hw hK hc i pins s σ H E I hf st hg
  subst hP hw hK
  obtain ⟨xs,x,hq,hx⟩:=hg
  obtain ⟨its,rv,p,hz⟩:=I.list hq
  obtain ⟨u,hu,ru⟩:=rv.get hx
  obtain ⟨f0,f1,f2,f3,f4,f5⟩:=hf it (by simp)
  refine wpAny_pyNext_list_item st p.isList (x:=u) (by simpa using hu) fun h' st' sb=>?_
  have I1:Inv X pins σ H { s with heap:=h' }:=I.turned (t':=s.toks) (fun b o hb e=>(sb.2 b hb).trans e) f0 f1 f3 f4 f5
  obtain ⟨o,e,c,d⟩:=id st'
  exact ⟨u,rfl,i_ (s:={ s with heap:=h' }) e c d (by decide) ⟨x,H,I1,ru,⟨rfl,fun ys hy=>by rw [I.list_inj hy hq]; exact hx⟩,st',fun b hb=>(hf b hb).1⟩⟩
 done:=by
  intro X hP hw hK hc i pins s σ H E I hf st hg
  subst hP hw hK
  obtain ⟨xs,hq,hx⟩:=hg
  obtain ⟨its,rv,p,hz⟩:=I.list hq
  obtain ⟨f0,f1,f2,f3,f4,f5⟩:=hf it (by simp)
  have hl:=rv.length
  exact wpAny_pyNext_list_end (I.ok.hd hc) st p.isList (by simp; omega) fun h' eb=>⟨rfl,I.turned (t':=s.toks) (fun b o hb e=>eb b o hb e) f0 f1 f3 f4 f5⟩
 self:=fun _ _ _ _ _ st h=>wpAny_pyIter_listiter st h
theorem kd {P:Program} {w:World} {K:PySem.W.Frag} {tg:Expr} (it:Addr) (lo:Int) (n:Nat):p7 P w K tg (Itr lo n) [it] it (fun i h=>IsRangeIter h it (lo+(i:Nat)*1) ((n:Int) - (i:Nat)) 1) where
 mem:=by simp
 obj:=fun i h st b hb=>by
  have e:b=it:=by simpa using hb
  subst e
  exact ⟨_,st,fun v z=>by
   have z':Data.fields _=Data.cell v:=z
   cases z'⟩
 keep:=fun i h h' st k=>k it (by simp) _ st
 item:=by
  intro X hP hw hK hc i pins s σ H E I hf st hg
  subst hP hw hK
  obtain ⟨f0,f1,f2,f3,f4,f5⟩:=hf it (by simp)
  have W:=Walks.range (prog:=X.prog) (w:=X.w) (I.ok.hd hc) it lo 1 n
  refine W.item i s _ _ hg st fun v h' tk hv st' kk=>?_
  obtain ⟨t,rfl⟩:=hv
  have I1:Inv X pins σ H { s with heap:=h',toks:=tk }:=I.turned (fun b o hb e=>kk b o (by simpa using hb) e) f0 f1 f3 f4 f5
  refine ⟨_,rfl,i_ (s:={ s with heap:=h',toks:=tk }) (n:="range_iterator") st' rfl rfl (by decide) ⟨.int (lo+i),H,I1,⟨t,?_⟩,⟨rfl,rfl⟩,st',fun b hb=>(hf b hb).1⟩⟩
  rw [Int.mul_one]
 done:=by
  intro X hP hw hK hc i pins s σ H E I hf st hg
  subst hP hw hK
  obtain ⟨f0,f1,f2,f3,f4,f5⟩:=hf it (by simp)
  exact wpAny_pyNext_range_end (I.ok.hd hc) st (by have:n≤i:=hg; omega) fun h' eb=>⟨rfl,I.turned (t':=s.toks) (fun b o hb e=>eb b o hb e) f0 f1 f3 f4 f5⟩
 self:=fun _ _ _ _ _ st h=>wpAny_pyIter_rangeiter st h
end L2
namespace L2
open PySem PySem.Spec PyProof.Rows
section
variable {X:Cx} {tg:Expr}
def YL (K:PySem.W.Frag) (tl:TE):TI:=fun σ H R=>tl σ H fun x H1=>∃ a,x=.ref a∧(∃ xs,SqL K H1 a xs)∧R (Itl K a) H1
theorem o3 {l:Expr} {tl:TE} (hl:PE X l tl):PI X tg l (YL X.K tl):=by
 intro pins s σ H R I h
 refine thn (hl pins s σ H _ I h) fun v s1 ⟨x,H1,I1,r1,q1⟩=>?_
 obtain ⟨a,e,⟨xs,hq⟩,q⟩:=q1
 subst e
 cases r1
 obtain ⟨its,rv,p,hz⟩:=I1.list hq
 refine wpAny_pyIter_list p.isList ?_
 refine ⟨s1.heap.objs.size,[s1.heap.objs.size],_,_,H1,rfl,I1.kept (t':=s1.toks) fun b o e=>Heap.get?_push_of_some _ e,gB a _,⟨_,Heap.get?_push_size _ rfl,rfl,rfl⟩,fun b hb=>?_,q⟩
 have e:b=s1.heap.objs.size:=by simpa using hb
 subst e
 exact I1.fpOk (Nat.le_refl _) (I1.hok.fresh (Nat.le_refl _))
theorem mH {pins:List (Addr × Obj)} {σ:St} {H:Hp} {s:Shared} {R:It→Hp→Prop} {E:Value→Shared→Prop} {lo hi:Int} {t u v:Tok} {tk:Nat} (I:Inv X pins σ H s) (h1:-(2 ^ 62)≤lo) (h2:lo<2 ^ 62) (h3:-(2 ^ 62)≤hi) (h4:hi<2 ^ 62)
  (q:R (Itr lo (hi - lo).toNat) H):wpAny (model X.prog X.w) X.A (pyIter (.ref s.heap.objs.size)) (PIE X pins σ tg R) E { s with heap:=s.heap.push { cls:=.type "range",data:=.fields #[.int lo t,.int hi u,.int 1 v] },toks:=tk }:=by
 refine wpAny_pyIter_range (IsRange.new ..) (small_one h1 h2 h3 h4) ?_
 have I1:Inv X pins σ H { s with heap:=s.heap.push { cls:=.type "range",data:=.fields #[.int lo t,.int hi u,.int 1 v] },toks:=tk }:=I.kept fun b o e=>Heap.get?_push_of_some _ e
 refine ⟨(s.heap.push { cls:=.type "range",data:=.fields #[.int lo t,.int hi u,.int 1 v] }).objs.size,[(s.heap.push { cls:=.type "range",data:=.fields #[.int lo t,.int hi u,.int 1 v] }).objs.size],_,_,H,rfl,
  I1.kept (t':=tk) fun b o e=>Heap.get?_push_of_some _ e,kd _ lo (hi - lo).toNat,?_,fun b hb=>?_,q⟩
 ·have e1:lo+((0:Nat):Int)*1=lo:=by simp
  have e2:(((hi - lo).toNat:Nat):Int) - ((0:Nat):Int)=Builtin.Range.rangeSize lo hi 1:=by rw [rangeSize_one]; split <;> omega
  show IsRangeIter _ _ (lo+((0:Nat):Int)*1) ((((hi - lo).toNat:Nat):Int) - ((0:Nat):Int)) 1
  rw [e1,e2]
  exact Heap.get?_push_size _ rfl
 ·have e:b=(s.heap.push { cls:=.type "range",data:=.fields #[.int lo t,.int hi u,.int 1 v] }).objs.size:=by simpa using hb
  subst e
  exact I1.fpOk (Nat.le_refl _) (I1.hok.fresh (Nat.le_refl _))
def UP (ta:TA):TI:=fun σ H R=>ta σ H fun vs H1=>∃ j:Int,vs=[.int j]∧-(2 ^ 62)≤j∧j<2 ^ 62∧R (Itr 0 j.toNat) H1
def UO (ta:TA):TI:=fun σ H R=>ta σ H fun vs H1=>∃ i j:Int,vs=[.int i,.int j]∧(-(2 ^ 62)≤i∧i<2 ^ 62∧-(2 ^ 62)≤j∧j<2 ^ 62)∧R (Itr i (j - i).toNat) H1
theorem ol {a:Expr} {ta:TA} {p pos:Pos} (hg:Gl X "range") (hm:X.mg "range"=none) (ha:PA X [a] ta) (hs:starEach [a] X.env=[(false,eval a X.env)]:=by rfl):PI X tg (.Call (.Name "range" p) [a] [] pos) (UP ta):=by
 intro pins s σ H R I h
 refine Call_ (ww I hg hm boot_range (PyProof.Rows.callWith_type1 (thn (ha pos pins s σ H _ I h) fun us s1 ⟨vs,H1,I1,r1,q1⟩=>?_) hs rfl))
 obtain ⟨j,e,q1,q2,q⟩:=q1
 subst e
 cases r1 with
 | cons r rr=>
  cases rr
  obtain ⟨t,rfl⟩:=r
  exact call_range_1 (mH I1 (by omega) (by omega) q1 q2 (by simpa using q))
theorem gT {a b:Expr} {ta:TA} {p pos:Pos} (hg:Gl X "range") (hm:X.mg "range"=none) (ha:PA X [a,b] ta) (hs:starEach [a,b] X.env=[(false,eval a X.env),(false,eval b X.env)]:=by rfl) (hs2:starEach [b] X.env=[(false,eval b X.env)]:=by rfl):
  PI X tg (.Call (.Name "range" p) [a,b] [] pos) (UO ta):=by
 intro pins s σ H R I h
 refine Call_ (ww I hg hm boot_range (PyProof.Rows.callWith_type1 (thn (ha pos pins s σ H _ I h) fun us s1 ⟨vs,H1,I1,r1,q1⟩=>?_) (by rw [hs,hs2]) (by rw [hs2]; rfl)))
 obtain ⟨i,j,e,⟨q1,q2,q3,q4⟩,q⟩:=q1
 subst e
 cases r1 with
 | cons r rr=>
  cases rr with
  | cons r' rr=>
   cases rr
   obtain ⟨t,rfl⟩:=r
   obtain ⟨t',rfl⟩:=r'
   exact call_range_2 (mH I1 q1 q2 q3 q4 q)
def Ri (wi:TI) (g:TG) (tb:TS):TS:=fun D σ H=>wi σ H fun J H1=>∃ W:Nat→Nat→St→Hp→Prop,(∃ m,W 0 m σ H1)∧∀ i m σ H,W i m σ H→
 (J.stop i H∧D.nx σ H)∨(J.go i H∧∃ N:St→Hp→Prop,(∀ σ' H',N σ' H'→∃ m',m'<m∧W (i+1) m' σ' H')∧∀ x H',J.yld i H x H'→g x σ H' fun σ2 H2=>tb { D with nx:=N,ct:=N,bk:=D.nx } σ2 H2)
def yJ (fp:List Addr) (h:Heap):List (Addr × Obj):=fp.filterMap fun b=>(h.get? b).map fun o=>(b,o)
theorem wv {fp:List Addr} {h:Heap} {b:Addr} {o:Obj} (hb:b∈fp) (e:h.get? b=some o):(b,o)∈yJ fp h:=List.mem_filterMap.mpr ⟨b,hb,by rw [e]; rfl⟩
theorem gX {fp:List Addr} {h:Heap} {p:Addr × Obj} (hp:p∈yJ fp h):p.1∈fp∧h.get? p.1=some p.2:=by
 obtain ⟨b,hb,e⟩:=List.mem_filterMap.mp hp
 cases q:h.get? b with
 | none=>rw [q] at e; cases e
 | some o=>
  rw [q] at e
  have e':(b,o)=p:=Option.some.inj e
  subst e'
  exact ⟨hb,q⟩
theorem Inv.pinned {pins:List (Addr × Obj)} {σ:St} {H:Hp} {s:Shared} {fp:List Addr} (I:Inv X pins σ H s) (hf:∀ b∈fp,xQ X pins H b) (ho:∀ b∈fp,∃ o,s.heap.get? b=some o∧∀ v,o.data≠.cell v):Inv X (pins++yJ fp s.heap) σ H s:=
 I.pins_of fun p hp=>(List.mem_append.mp hp).elim (fun z=>I.pin p (List.mem_append_right _ z)) fun z=>by
  obtain ⟨hb,e⟩:=gX z
  obtain ⟨f0,f1,f2,_⟩:=hf p.1 hb
  obtain ⟨o,e',d⟩:=ho p.1 hb
  rw [e] at e'; cases e'
  exact ⟨e,f0,f1,f2,d⟩
theorem Inv.unpinned {pins pl:List (Addr × Obj)} {σ:St} {H:Hp} {s:Shared} (I:Inv X (pins++pl) σ H s):Inv X pins σ H s:=I.pins_of fun p hp=>I.pin p (List.mem_append_right _ (List.mem_append_left _ hp))
theorem uR {iter:Expr} {body:List Stmt} {wi:TI} {g:TG} {tb:TS} {pos:Pos} (hp:PassesOwn (model X.prog X.w) X.A X.env X.xe) (hc:X.calm=true) (hi:PI X tg iter wi) (hg:PG X tg g) (hb:PSs X body tb)
  (hs:∀ x,foldedSetIterable iter X.env x=pure x:=by intro _; rfl):PS X (.For tg iter body [] pos) (Ri wi g tb):=by
 intro pins s σ H D I h
 refine wpAny_For (thn (hi pins s σ H _ I h) fun v s1 h1=>thn h1 fun itv s2 h2=>?_) hs
 obtain ⟨it,fp,tn,J,H2,e,I2,T,st2,f2,W,⟨m0,w0⟩,turn⟩:=h2
 subst e
 have stat:∀ {H':Hp},(∀ b∈fp,H' b=none)→∀ b∈fp,xQ X pins H' b:=fun hn b hb=>⟨hn b hb,(f2 b hb).2⟩
 refine codeAny_forLoop_any (fun n s'=>∃ i σ' H',Inv X pins σ' H' s'∧tn i s'.heap∧(∀ b∈fp,H' b=none)∧W i n σ' H') ?_ m0 ⟨0,σ,H2,I2,st2,fun b hb=>(f2 b hb).1,w0⟩
 rintro n s3 ⟨i,σ3,H3,I3,st3,fr3,w3⟩
 rcases turn i n σ3 H3 w3 with ⟨stop,qn⟩ | ⟨go,N,hN,step⟩
 ·refine wpAny_passesOwn hp (thn (T.done X rfl rfl rfl hc i pins s3 σ3 H3 X.xe I3 (stat fr3) st3 stop) fun r s4 ⟨hr,I4⟩=>?_)
  subst hr
  exact wpAny_execs_nil ⟨σ3,H3,I4,qn⟩
 ·refine wpAny_passesOwn hp (thn (T.item X rfl rfl rfl hc i pins s3 σ3 H3 X.xe I3 (stat fr3) st3 go) fun r s4 ⟨u,hr,h4⟩=>?_)
  subst hr
  refine wpAny_passesOwn hp (thn h4 fun _ s5 ⟨x,H5,I5,r5,y5,st5,fr5⟩=>?_)
  have I5':=I5.pinned (stat fr5) (T.obj _ _ st5)
  refine wpAny_passesOwn hp (thn (hg _ s5 σ3 H5 x u _ I5' r5 (step x H5 y5)) fun _ s6 ⟨σ6,H6,I6,q6⟩=>?_)
  refine wpAny_passesOwn hp (thn (hb _ s6 σ6 H6 _ I6 q6) fun f s7 q7=>?_)
  have again:∀ {σ7:St} {H7:Hp},Inv X (pins++yJ fp s5.heap) σ7 H7 s7→N σ7 H7→∃ m,m<n∧∃ i σ' H',Inv X pins σ' H' s7∧tn i s7.heap∧(∀ b∈fp,H' b=none)∧W i m σ' H':=fun {σ7 H7} I7 n7=>by
   obtain ⟨m',hm,w7⟩:=hN σ7 H7 n7
   refine ⟨m',hm,i+1,σ7,H7,I7.unpinned,T.keep _ _ _ st5 fun b hb o e=>(I7.pin (b,o) (List.mem_append_right _ (List.mem_append_right _ (wv hb e)))).1,fun b hb=>?_,w7⟩
   obtain ⟨o,e,d⟩:=T.obj _ _ st5 b hb
   exact (I7.pin (b,o) (List.mem_append_right _ (List.mem_append_right _ (wv hb e)))).2.1
  cases f with
  | next=>obtain ⟨σ7,H7,I7,n7⟩:=q7; exact again I7 n7
  | cont=>obtain ⟨σ7,H7,I7,n7⟩:=q7; exact again I7 n7
  | brk=>obtain ⟨σ7,H7,I7,q7⟩:=q7; exact ⟨σ7,H7,I7.unpinned,q7⟩
  | ret v=>obtain ⟨x7,σ7,H7,I7,r7,q7⟩:=q7; exact ⟨x7,σ7,H7,I7.unpinned,r7,q7⟩
end
theorem lI {K:PySem.W.Frag} {a:Addr} {xs:List V} {g:TG} {tb:TS} {D:uc} {σ:St} {H:Hp} (Pv:Nat→St→Hp→Prop) (h0:Pv 0 σ H) (hl:∀ i σ H,i≤xs.length→Pv i σ H→SqL K H a xs)
  (hs:∀ i x σ H,xs[i]? = some x→Pv i σ H→g x σ H fun σ2 H2=>tb { D with nx:=Pv (i+1),ct:=Pv (i+1),bk:=D.nx } σ2 H2) (hd:∀ σ H,Pv xs.length σ H→D.nx σ H):
  ∃ W:Nat→Nat→St→Hp→Prop,(∃ m,W 0 m σ H)∧∀ i m σ H,W i m σ H→
   ((Itl K a).stop i H∧D.nx σ H)∨((Itl K a).go i H∧∃ N:St→Hp→Prop,(∀ σ' H',N σ' H'→∃ m',m'<m∧W (i+1) m' σ' H')∧∀ x H',(Itl K a).yld i H x H'→g x σ H' fun σ2 H2=>tb { D with nx:=N,ct:=N,bk:=D.nx } σ2 H2):=by
 refine ⟨fun i m σ H=>m=xs.length - i∧i≤xs.length∧Pv i σ H,⟨xs.length,by simp,Nat.zero_le _,h0⟩,?_⟩
 rintro i m σ H ⟨rfl,hi,p⟩
 have q:=hl i σ H hi p
 by_cases hlt:i<xs.length
 ·refine .inr ⟨⟨xs,xs[i],q,by simp [hlt]⟩,Pv (i+1),fun σ' H' p'=>⟨xs.length - (i+1),by omega,rfl,hlt,p'⟩,fun x H' y=>?_⟩
  obtain ⟨e,y⟩:=y
  subst e
  exact hs i x σ _ (y xs q) p
 ·have e:i=xs.length:=by omega
  subst e
  exact .inl ⟨⟨xs,q,Nat.le_refl _⟩,hd σ H p⟩
theorem oy {lo:Int} {n:Nat} {g:TG} {tb:TS} {D:uc} {σ:St} {H:Hp} (Pv:Nat→St→Hp→Prop) (h0:Pv 0 σ H)
  (hs:∀ i σ H,i<n→Pv i σ H→g (.int (lo+i)) σ H fun σ2 H2=>tb { D with nx:=Pv (i+1),ct:=Pv (i+1),bk:=D.nx } σ2 H2) (hd:∀ σ H,Pv n σ H→D.nx σ H):
  ∃ W:Nat→Nat→St→Hp→Prop,(∃ m,W 0 m σ H)∧∀ i m σ H,W i m σ H→
   ((Itr lo n).stop i H∧D.nx σ H)∨((Itr lo n).go i H∧∃ N:St→Hp→Prop,(∀ σ' H',N σ' H'→∃ m',m'<m∧W (i+1) m' σ' H')∧∀ x H',(Itr lo n).yld i H x H'→g x σ H' fun σ2 H2=>tb { D with nx:=N,ct:=N,bk:=D.nx } σ2 H2):=by
 refine ⟨fun i m σ H=>m=n - i∧i≤n∧Pv i σ H,⟨n,by simp,Nat.zero_le _,h0⟩,?_⟩
 rintro i m σ H ⟨rfl,hi,p⟩
 by_cases hlt:i<n
 ·refine .inr ⟨hlt,Pv (i+1),fun σ' H' p'=>⟨n - (i+1),by omega,rfl,hlt,p'⟩,fun x H' y=>?_⟩
  obtain ⟨e,y⟩:=y
  subst e y
  exact hs i σ _ hlt p
 ·have e:i=n:=by omega
  subst e
  exact .inl ⟨Nat.le_refl _,hd σ H p⟩
end L2
namespace L2
open PySem PySem.Spec PyProof.Rows
abbrev R2:=V→V→Hp→VK→Prop
def OpR (X:Cx) (f:Value→Value→Sem Value) (r:R2):Prop:=
 ∀ (pins:List (Addr × Obj)) (s:Shared) (σ:St) (H:Hp) (x y:V) (v u:Value) (Q:VK),Inv X pins σ H s→RelV x v→RelV y u→r x y H Q→
  wpAny (model X.prog X.w) X.A (f v u) (EP X pins σ Q) X.xe s
def UnR (X:Cx) (f:Value→Sem Value) (r:V→Hp→VK→Prop):Prop:=
 ∀ (pins:List (Addr × Obj)) (s:Shared) (σ:St) (H:Hp) (x:V) (v:Value) (Q:VK),Inv X pins σ H s→RelV x v→r x H Q→
  wpAny (model X.prog X.w) X.A (f v) (EP X pins σ Q) X.xe s
def CallR (X:Cx) (f:Value) (r:List V→Hp→VK→Prop):Prop:=
 ∀ (pins:List (Addr × Obj)) (s:Shared) (σ:St) (H:Hp) (xs:List V) (us:List Value) (Q:VK),Inv X pins σ H s→Vals xs us→r xs H Q→
  wpAny (model X.prog X.w) X.A (call f us) (EP X pins σ Q) X.xe s
def QA (X:Cx) (r:V→Hp→(Bool→Hp→Prop)→Prop):Prop:=
 ∀ (pins:List (Addr × Obj)) (s:Shared) (σ:St) (H:Hp) (x:V) (v:Value) (Q:Bool→Hp→Prop),Inv X pins σ H s→RelV x v→r x H Q→
  wpAny (model X.prog X.w) X.A (truthy v) (TP X pins σ Q) X.xe s
def tOp (r:R2) (ta tb:TE):TE:=fun σ H Q=>ta σ H fun x H1=>tb σ H1 fun y H2=>r x y H2 Q
def tUn (r:V→Hp→VK→Prop) (ta:TE):TE:=fun σ H Q=>ta σ H fun x H1=>r x H1 Q
def rI (C:Int→Int→Prop) (g:Int→Int→V):R2:=fun x y H Q=>∃ i j,x=.int i∧y=.int j∧C i j∧Q (g i j) H
def rI0 (g:Int→Int→V):R2:=fun x y H Q=>∃ i j,x=.int i∧y=.int j∧Q (g i j) H
def rU (g:Int→V):V→Hp→VK→Prop:=fun x H Q=>∃ i,x=.int i∧Q (g i) H
section
variable {X:Cx} {a b c:Expr} {ta tb tc:TE} {pos:Pos}
theorem VH (ha:PE X a ta) (hb:PE X b tb) {pins:List (Addr × Obj)} {s:Shared} {σ:St} {H:Hp} {R:V→V→Hp→Prop} (I:Inv X pins σ H s)
  (h:ta σ H fun x H1=>tb σ H1 fun y H2=>R x y H2) {Q:Value→Shared→Prop} {f:Value→Value→Sem Value}
  (hf:∀ v u s2 x y H2,Inv X pins σ H2 s2→RelV x v→RelV y u→R x y H2→wpAny (model X.prog X.w) X.A (f v u) Q X.xe s2):
  wpAny (model X.prog X.w) X.A (eval a X.env) (fun v s₁=>wpAny (model X.prog X.w) X.A (eval b X.env) (fun u s₂=>wpAny (model X.prog X.w) X.A (f v u) Q X.xe s₂) X.xe s₁) X.xe s:=by
 refine thn (ha pins s σ H _ I h) fun v s1 ⟨x,H1,I1,r1,q1⟩=>?_
 refine thn (hb pins s1 σ H1 _ I1 q1) fun u s2 ⟨y,H2,I2,r2,q2⟩=>?_
 exact hf v u s2 x y H2 I2 r1 r2 q2
theorem YE {op:Operator} {r:R2} (ho:OpR X (binaryOp op) r) (ha:PE X a ta) (hb:PE X b tb):PE X (.BinOp a op b pos) (tOp r ta tb):=by
 intro pins s σ H Q I h
 exact wpAny_BinOp (VH ha hb I h fun v u s2 x y H2 I2 rx ry q=>ho pins s2 σ H2 x y v u Q I2 rx ry q)
theorem V_ {op:UnaryOp} {r:V→Hp→VK→Prop} (ho:UnR X (unaryOp op) r) (ha:PE X a ta):PE X (.UnaryOp op a pos) (tUn r ta):=by
 intro pins s σ H Q I h
 exact UnaryOp_ (thn (ha pins s σ H _ I h) fun v s1 ⟨x,H1,I1,r1,q1⟩=>ho pins s1 σ H1 x v Q I1 r1 q1)
theorem opI {f:Value→Value→Sem Value} {C:Int→Int→Prop} {g:Int→Int→Int}
  (rule:∀ (i j:Int) (t u:Tok) (s:Shared) (Q:Value→Shared→Prop) (E:Value→Shared→Prop),C i j→Q (.int (g i j) s.toks) { s with toks:=s.toks+1 }→wpAny (model X.prog X.w) X.A (f (.int i t) (.int j u)) Q E s):
  OpR X f (rI C fun i j=>.int (g i j)):=by
 intro pins s σ H x y v u Q I rx ry h
 obtain ⟨i,j,rfl,rfl,hc,q⟩:=h
 obtain ⟨t,rfl⟩:=rx
 obtain ⟨t',rfl⟩:=ry
 exact rule i j t t' s _ _ hc ⟨.int (g i j),H,I.tok _,⟨_,rfl⟩,q⟩
theorem Uj {f:Value→Value→Sem Value} {g:Int→Int→Int}
  (rule:∀ (i j:Int) (t u:Tok) (s:Shared) (Q:Value→Shared→Prop) (E:Value→Shared→Prop),Q (.int (g i j) s.toks) { s with toks:=s.toks+1 }→wpAny (model X.prog X.w) X.A (f (.int i t) (.int j u)) Q E s):
  OpR X f (rI0 fun i j=>.int (g i j)):=by
 intro pins s σ H x y v u Q I rx ry h
 obtain ⟨i,j,rfl,rfl,q⟩:=h
 obtain ⟨t,rfl⟩:=rx
 obtain ⟨t',rfl⟩:=ry
 exact rule i j t t' s _ _ ⟨.int (g i j),H,I.tok _,⟨_,rfl⟩,q⟩
theorem Zb {f:Value→Value→Sem Value} {g:Int→Int→Bool}
  (rule:∀ (i j:Int) (t u:Tok) (s:Shared) (Q:Value→Shared→Prop) (E:Value→Shared→Prop),Q (.bool (g i j)) s→wpAny (model X.prog X.w) X.A (f (.int i t) (.int j u)) Q E s):
  OpR X f (rI0 fun i j=>.bl (g i j)):=by
 intro pins s σ H x y v u Q I rx ry h
 obtain ⟨i,j,rfl,rfl,q⟩:=h
 obtain ⟨t,rfl⟩:=rx
 obtain ⟨t',rfl⟩:=ry
 exact rule i j t t' s _ _ ⟨.bl (g i j),H,I,rfl,q⟩
def gA (i j:Int):Prop:=j≠0∧j.natAbs<1073741824
def QD (i j:Int):Prop:=0≤j∧j≤1000000∧i.natAbs<2 ^ 64
def CMul (i j:Int):Prop:=(-(2 ^ 64)<i∧i<2 ^ 64)∨(-(2 ^ 64)<j∧j<2 ^ 64)
theorem CMul.ok {i j:Int} (h:CMul i j):IntMulOk i j:=by
 rcases h with ⟨h1,h2⟩ | ⟨h1,h2⟩
 ·exact .of_left (intBits_le_64 h1 h2)
 ·exact .of_right (intBits_le_64 h1 h2)
theorem XT:OpR X (binaryOp .Add) (rI0 fun i j=>.int (i+j)):=Uj fun _ _ _ _ _ _ _ q=>add_int q
theorem XR:OpR X (binaryOp .Sub) (rI0 fun i j=>.int (i - j)):=Uj fun _ _ _ _ _ _ _ q=>sub_int q
theorem d9:OpR X (binaryOp .FloorDiv) (rI gA fun i j=>.int (i.fdiv j)):=opI fun _ _ _ _ _ _ _ hc q=>floordiv_int hc.1 q (.inl (PyProof.noPylong_small hc.2))
theorem Za:OpR X (binaryOp .Mod) (rI (fun _ j=>j≠0) fun i j=>.int (i.fmod j)):=opI fun _ _ _ _ _ _ _ hc q=>mod_int' hc q
theorem unI {f:Value→Sem Value} {g:Int→Int}
  (rule:∀ (i:Int) (t:Tok) (s:Shared) (Q:Value→Shared→Prop) (E:Value→Shared→Prop),Q (.int (g i) s.toks) { s with toks:=s.toks+1 }→wpAny (model X.prog X.w) X.A (f (.int i t)) Q E s):
  UnR X f (rU fun i=>.int (g i)):=by
 intro pins s σ H x v Q I rx h
 obtain ⟨i,rfl,q⟩:=h
 obtain ⟨t,rfl⟩:=rx
 exact rule i t s _ _ ⟨.int (g i),H,I.tok _,⟨_,rfl⟩,q⟩
theorem Xj:UnR X (unaryOp .USub) (rU fun i=>.int (-i)):=unI fun _ _ _ _ _ q=>neg_int q
end
def Ro:V→V→Bool
 | .non,.non=>true | .non,.int _=>true | .int _,.non=>true | .non,.bl _=>true | .bl _,.non=>true | .non,.str _=>true | .str _,.non=>true
 | .int _,.int _=>true | .bl _,.bl _=>true | .str _,.str _=>true | .byt _,.byt _=>true
 | .int _,.str _=>true | .str _,.int _=>true | .bl _,.str _=>true | .str _,.bl _=>true
 | _,_=>false
def rEq:R2:=fun x y H Q=>Ro x y=true∧Q (.bl (decide (x=y))) H
theorem Yh {i j:Int}:decide (V.int i=V.int j)=(i == j):=by
 rw [Bool.eq_iff_iff]
 simp
theorem Vq {i j:Bool}:decide (V.bl i=V.bl j)=(i == j):=by
 rw [Bool.eq_iff_iff]
 simp
theorem Yg {i j:Str}:decide (V.str i=V.str j)=(i == j):=by
 rw [Bool.eq_iff_iff]
 simp
theorem Yi {i j:Array UInt8}:decide (V.byt i=V.byt j)=(i.toList == j.toList):=by
 rw [Bool.eq_iff_iff]
 cases i
 cases j
 simp
section
variable {X:Cx} {a b c:Expr} {ta tb tc:TE} {pos:Pos}
theorem yA {pins:List (Addr × Obj)} {σ:St} {H:Hp} {s:Shared} {Q:VK} {k k':Bool} (I:Inv X pins σ H s) (q:Q (.bl k) H) (e:k=k'):EP X pins σ Q (.bool k') s:=by
 subst e
 exact ⟨.bl k,H,I,rfl,q⟩
theorem Ui:OpR X (compareOp .Eq) rEq:=by
 intro pins s σ H x y v u Q I rx ry h
 obtain ⟨hs,q⟩:=h
 cases x with
 | non=>
  cases rx
  cases y with
  | non=>cases ry; exact PySem.EqNone.eq_none_none (yA I q (by simp))
  | bl j=>cases ry; exact PySem.EqNone.eq_none_bool (yA I q (by simp))
  | int j=>obtain ⟨t',rfl⟩:=ry; exact PySem.EqNone.eq_none_int (yA I q (by simp))
  | str j=>obtain ⟨t',rfl⟩:=ry; exact PySem.EqNone.eq_none_str (yA I q (by simp))
  | _=>exact absurd (show false=true from hs) Bool.false_ne_true
 | bl i=>
  cases rx
  cases y with
  | non=>cases ry; exact PySem.EqNone.eq_bool_none (yA I q (by simp))
  | bl j=>cases ry; exact eq_bool (yA I q Vq)
  | str j=>obtain ⟨t',rfl⟩:=ry; exact PySem.EqMixed.eq_bool_str (yA I q (by simp))
  | _=>exact absurd (show false=true from hs) Bool.false_ne_true
 | int i=>
  obtain ⟨t,rfl⟩:=rx
  cases y with
  | non=>cases ry; exact PySem.EqNone.eq_int_none (yA I q (by simp))
  | int j=>obtain ⟨t',rfl⟩:=ry; exact eq_int (yA I q Yh)
  | str j=>obtain ⟨t',rfl⟩:=ry; exact PySem.EqMixed.eq_int_str (yA I q (by simp))
  | _=>exact absurd (show false=true from hs) Bool.false_ne_true
 | str i=>
  obtain ⟨t,rfl⟩:=rx
  cases y with
  | non=>cases ry; exact PySem.EqNone.eq_str_none (yA I q (by simp))
  | bl j=>cases ry; exact PySem.EqMixed.eq_str_bool (yA I q (by simp))
  | int j=>obtain ⟨t',rfl⟩:=ry; exact PySem.EqMixed.eq_str_int (yA I q (by simp))
  | str j=>obtain ⟨t',rfl⟩:=ry; exact eq_str (yA I q Yg)
  | _=>exact absurd (show false=true from hs) Bool.false_ne_true
 | byt i=>
  obtain ⟨t,rfl⟩:=rx
  cases y with
  | byt j=>obtain ⟨t',rfl⟩:=ry; exact PySem.W.eq_bytes (yA I q Yi)
  | _=>exact absurd (show false=true from hs) Bool.false_ne_true
 | _=>cases y <;> exact absurd (show false=true from hs) Bool.false_ne_true
theorem Ue:OpR X (compareOp .Lt) (rI0 fun i j=>.bl (decide (i<j))):=Zb fun _ _ _ _ _ _ _ q=>lt_int q
theorem Uf:OpR X (compareOp .LtE) (rI0 fun i j=>.bl (decide (i≤j))):=Zb fun _ _ _ _ _ _ _ q=>le_int q
theorem Ug:OpR X (compareOp .Gt) (rI0 fun i j=>.bl (decide (j<i))):=Zb fun _ _ _ _ _ _ _ q=>gt_int q
theorem Uh:OpR X (compareOp .GtE) (rI0 fun i j=>.bl (decide (j≤i))):=Zb fun _ _ _ _ _ _ _ q=>ge_int q
theorem OpR.or {f:Value→Value→Sem Value} {r r':R2} (h:OpR X f r) (h':OpR X f r'):OpR X f (fun x y H Q=>r x y H Q∨r' x y H Q):=by
 intro pins s σ H x y v u Q I rx ry q
 rcases q with q | q
 ·exact h pins s σ H x y v u Q I rx ry q
 ·exact h' pins s σ H x y v u Q I rx ry q
theorem zp (b:Expr) {op:CmpOp} (h:op≠.In:=by decide) (h2:op≠.NotIn:=by decide):behindInMarks op b=false:=by
 have e1:(op == CmpOp.In)=false:=by cases op <;> first | rfl | exact absurd rfl h
 have e2:(op == CmpOp.NotIn)=false:=by cases op <;> first | rfl | exact absurd rfl h2
 cases b <;> simp [behindInMarks,e1,e2]
theorem aY {op:CmpOp} {r:R2} (ho:OpR X (compareOp op) r) (ha:PE X a ta) (hb:PE X b tb) (hm:behindInMarks op b=false):PE X (.Compare a [op] [b] pos) (tOp r ta tb):=by
 intro pins s σ H Q I h
 exact wpAny_Compare1 (VH ha hb I h fun v u s2 x y H2 I2 rx ry q=>ho pins s2 σ H2 x y v u Q I2 rx ry q) hm
def df (t:TE):TT:=fun σ H Q=>t σ H fun x H'=>∃ k,x=.bl k∧Q k H'
theorem aO {op:CmpOp} {r:R2} (ho:OpR X (compareOp op) r) (ha:PE X a ta) (hb:PE X b tb) (hm:behindInMarks op b=false):PT X (.Compare a [op] [b] pos) (df (tOp r ta tb)):=by
 intro pins s σ H Q I h
 refine wpAny_isTrue_Compare1 (thn (ha pins s σ H _ I h) fun v s1 ⟨x,H1,I1,r1,q1⟩=>thn (hb pins s1 σ H1 _ I1 q1) fun u s2 ⟨y,H2,I2,r2,q2⟩=>
  thn (ho pins s2 σ H2 x y v u _ I2 r1 r2 q2) fun c s3 ⟨z,H3,I3,r3,k,e,q3⟩=>?_) hm
 subst e
 cases r3
 exact wpAny_truthy_bool ⟨H3,I3,q3⟩
def dm (r r':R2) (ta tb tc:TE):TE:=fun σ H Q=>ta σ H fun x H1=>tb σ H1 fun y H2=>r x y H2 fun z H3=>∃ k,z=.bl k∧
 (if k=true then tc σ H3 fun w' H4=>r' y w' H4 Q else Q (.bl false) H3)
theorem dM {op op':CmpOp} {r r':R2} (ho:OpR X (compareOp op) r) (ho':OpR X (compareOp op') r') (ha:PE X a ta) (hb:PE X b tb) (hc:PE X c tc)
  (hm:lastMarks [op,op'] [b,c]=false:=by with_unfolding_all rfl):PT X (.Compare a [op,op'] [b,c] pos) (df (dm r r' ta tb tc)):=by
 intro pins s σ H Q I h
 refine isTrue_chain (thn (ha pins s σ H _ I h) fun v s1 ⟨x,H1,I1,r1,q1⟩=>test_link (thn (hb pins s1 σ H1 _ I1 q1) fun u s2 ⟨y,H2,I2,r2,q2⟩=>
  thn (ho pins s2 σ H2 x y v u _ I2 r1 r2 q2) fun d s3 ⟨z,H3,I3,r3,k,e,q3⟩=>?_)) hm
 subst e
 cases r3
 refine wpAny_truthy_bool ?_
 cases k with
 | false=>
  obtain ⟨k',e',q'⟩:=q3
  cases e'
  exact ite_ff ⟨H3,I3,q'⟩
 | true=>
  refine ite_tt (test_last (thn (hc pins s3 σ H3 _ I3 q3) fun w' s4 ⟨z',H4,I4,r4,q4⟩=>thn (ho' pins s4 σ H4 y z' u w' _ I4 r2 r4 q4) fun d' s5 ⟨z2,H5,I5,r5,k2,e2,q5⟩=>?_))
  subst e2
  cases r5
  exact wpAny_truthy_bool ⟨H5,I5,q5⟩
def S2 (K:PySem.W.Frag) (x:V) (H:Hp) (k:Bool):Prop:=
 match x with
 | .non=>k=false
 | .bl b=>k=b
 | .int i=>k=(i != 0)
 | .str y=>y.length≤sizeLine∧k=((y.length:Int) != 0)
 | .byt y=>y.size≤sizeLine∧k=((y.size:Int) != 0)
 | .ref p=>(∃ xs,SqL K H p xs∧k=!xs.isEmpty)∨(∃ xs,SqT K H p xs∧k=!xs.isEmpty)∨∃ kvs,H p=some (.dK kvs)∧k=!kvs.isEmpty
 | _=>False
theorem jG {κ:Type} {kvs:List (κ × V)} {vs:List (κ × Value)} (r:KV kvs vs):(!vs.isEmpty)=!kvs.isEmpty:=by
 cases r <;> rfl
theorem qp {xs:List V} {its:List Value} (r:Vals xs its):(!its.toArray.isEmpty)=!xs.isEmpty:=by
 cases r <;> simp
theorem vY:(sizeLine:Nat)<2 ^ 63:=by rw [sizeLine_eq]; decide
theorem Xk:QA X (fun x H Q=>∃ k,S2 X.K x H k∧Q k H):=by
 intro pins s σ H x v Q I rx h
 obtain ⟨k,e,q⟩:=h
 have hl:=vY
 have hs:sizeLine=16777216:=sizeLine_eq
 cases x with
 | non=>
  cases rx
  have e':k=false:=e
  subst e'
  exact truthy_none ⟨H,I,q⟩
 | bl b=>
  cases rx
  have e':k=b:=e
  subst e'
  exact wpAny_truthy_bool ⟨H,I,q⟩
 | int i=>
  obtain ⟨t,rfl⟩:=rx
  have e':k=(i != 0):=e
  subst e'
  exact PySem.P.truthy_int ⟨H,I,q⟩
 | str y=>
  obtain ⟨t,rfl⟩:=rx
  obtain ⟨hy,e'⟩:y.length≤sizeLine∧k=((y.length:Int) != 0):=e
  subst e'
  exact PySem.P.truthy_str (by omega) ⟨H,I.tok _,q⟩
 | byt y=>
  obtain ⟨t,rfl⟩:=rx
  obtain ⟨hy,e'⟩:y.size≤sizeLine∧k=((y.size:Int) != 0):=e
  subst e'
  exact PySem.W.truthy_bytes (by omega) ⟨H,I.tok _,q⟩
 | ref p=>
  cases rx
  have e':(∃ xs,SqL X.K H p xs∧k=!xs.isEmpty)∨(∃ xs,SqT X.K H p xs∧k=!xs.isEmpty)∨∃ kvs,H p=some (.dK kvs)∧k=!kvs.isEmpty:=e
  rcases e' with ⟨xs,hx,e'⟩ | ⟨xs,hx,e'⟩ | ⟨kvs,hx,e'⟩
  ·subst e'
   obtain ⟨its,r,pl,hz⟩:=I.list hx
   have hlen:=r.length
   exact wpAny_truthy_list pl.isList (by simp only [List.size_toArray]; omega) ⟨H,I.tok _,by rw [qp r]; exact q⟩
  ·subst e'
   obtain ⟨its,r,pl,hz⟩:=I.tuple hx
   have hlen:=r.length
   exact truthy_tuple pl (by simp only [List.size_toArray]; omega) ⟨H,I.tok _,by rw [qp r]; exact q⟩
  ·subst e'
   obtain ⟨hz,hS,vs,r,m⟩:kvs.length≤sizeLine∧(p == sysModules)=false∧∃ vs,KV kvs vs∧s.heap.DictOf (nN X.prog X.w) p vs:=I.hok p _ hx
   have hlen:kvs.length=vs.length:=Paired.length r
   exact wpAny_truthy_dict hS m (by omega) ⟨H,I.tok _,by rw [jG r]; exact q⟩
 | _=>exact (show False from e).elim
theorem mI (ha:PE X a ta) (he:∀ yS,isTrue a X.env yS=(do let v ← yS; standAt a.pos; holding [v] (truthy v))):
  PT X a (fun σ H Q=>ta σ H fun x H'=>∃ k,S2 X.K x H' k∧Q k H'):=by
 intro pins s σ H Q I h
 exact isTrue_plain (thn (ha pins s σ H _ I h) fun v s1 ⟨x,H1,I1,r1,q1⟩=>Xk pins s1 σ H1 x v Q I1 r1 q1) (he _)
theorem Yz {x:V} {us:List Value} (r:Vals [x] us):∃ u,us=[u]∧RelV x u:=by
 cases r with
 | cons r1 r2=>cases r2; exact ⟨_,rfl,r1⟩
theorem Yy {x y:V} {us:List Value} (r:Vals [x,y] us):∃ u w',us=[u,w']∧RelV x u∧RelV y w':=by
 cases r with
 | cons r1 r2=>
  cases r2 with
  | cons r3 r4=>cases r4; exact ⟨_,_,rfl,r1,r3⟩
theorem eP (hc:X.calm=true):CallR X (.builtin "max") (fun xs H Q=>∃ i j,xs=[.int i,.int j]∧Q (.int (if j>i then j else i)) H):=by
 intro pins s σ H xs us Q I r h
 obtain ⟨i,j,rfl,q⟩:=h
 obtain ⟨u,w',rfl,⟨t,rfl⟩,⟨t',rfl⟩⟩:=Yy r
 refine max_two_ints (I.ok.hd hc) fun h' tk k=>⟨_,H,I.kept k,?_,q⟩
 by_cases hj:j>i
 ·rw [if_pos hj,if_pos hj]; exact ⟨_,rfl⟩
 ·rw [if_neg hj,if_neg hj]; exact ⟨_,rfl⟩
theorem eO (hc:X.calm=true):CallR X (.builtin "min") (fun xs H Q=>∃ i j,xs=[.int i,.int j]∧Q (.int (if j<i then j else i)) H):=by
 intro pins s σ H xs us Q I r h
 obtain ⟨i,j,rfl,q⟩:=h
 obtain ⟨u,w',rfl,⟨t,rfl⟩,⟨t',rfl⟩⟩:=Yy r
 refine min_two_ints (I.ok.hd hc) fun h' tk k=>⟨_,H,I.kept k,?_,q⟩
 by_cases hj:j<i
 ·rw [if_pos hj,if_pos hj]; exact ⟨_,rfl⟩
 ·rw [if_neg hj,if_neg hj]; exact ⟨_,rfl⟩
end
end L2
namespace L2
open PySem PySem.Spec PyProof.Rows
structure ObjM (h:Heap) (x dx C:Addr) (mA:Str→Option Value):Prop where
 obj:h.get? x=some (PySem.W.instObj C dx)
 ns:h.Ns1 dx mA
 ne:dx≠x
theorem fV {h:Heap} {dx:Addr} {mA:Str→Option Value} (n:h.Ns1 dx mA):∃ od,h.get? dx=some od∧∀ name,PySem.W.lookIn name od=some (mA name):=by
 obtain ⟨o,es,ep,ho,hd,hk,_,hm⟩:=n
 refine ⟨o,ho,fun name=>?_⟩
 have e:=hm name
 unfold nsFind findBy at e
 rw [← Array.find?_toList] at e
 unfold PySem.W.lookIn
 rw [hd]
 dsimp only
 split
 ·rename_i y q
  rw [q] at e
  exact congrArg some e
 ·rename_i q
  rw [q] at e
  have a:es.toList.any (·.refKey)=false:=by
   rw [List.any_eq_false]
   intro y hy
   obtain ⟨z,t,hkey⟩:=hk y (Array.mem_toList_iff.mp hy)
   simp [DictEntry.refKey,hkey]
  have a':¬ es.toList.any (·.refKey)=true:=by rw [a]; exact Bool.false_ne_true
  rw [if_neg a']
  exact congrArg some e
theorem ObjM.look {h:Heap} {x dx C:Addr} {mA:Str→Option Value} (I:ObjM h x dx C mA):∃ od,PySem.W.InstAt h x (PySem.W.instObj C dx) C (some od)∧∀ name,PySem.W.lookIn name od=some (mA name):=
 let ⟨od,ho,hl⟩:=fV I.ns
 ⟨od,⟨I.obj,rfl,rfl,ho⟩,hl⟩
section
variable {prog:Program} {w:World} {A:Around} {E:Value→Shared→Prop} {s:Shared} {K:PySem.W.Frag} {x dx C f:Addr} {mA:Str→Option Value} {name:Str} {v:Value}
theorem Z2 {expr:Bool} {Q:Value→Shared→Prop} (X:K.In s.heap) (I:ObjM s.heap x dx C mA) (hg:PySem.W.plainGet K C name=true) (hh:PySem.W.hasDictIn K C=true)
  (ha:PySem.W.findIn K (.ref C) name=some none) (hv:mA name=some v) (hv':PySem.W.handedIn v=true) (h:Q v { s with toks:=s.toks+1 }):
  wpAny (model prog w) A (getAttr (.ref x) name expr) Q E s:=by
 obtain ⟨od,J,hl⟩:=I.look
 exact PySem.W.get_value X J (PySem.W.plainGet_of hg).1 (PySem.W.findObj_own hh ha rfl (by rw [hl,hv])) hv' h
theorem bw {pl:Sem Bool} {Q:Value × List Value→Shared→Prop} (X:K.In s.heap) (I:ObjM s.heap x dx C mA) (hg:PySem.W.plainGet K C name=true)
  (hf:PySem.W.findIn K (.ref C) name=some (some (.ref f))) (ht:PySem.W.isFn K (.ref f)=true) (hv:mA name=none) (h:Q (.ref f,[.ref x]) s):
  wpAny (model prog w) A (getMethod (.ref x) name pl) Q E s:=by
 obtain ⟨od,J,hl⟩:=I.look
 exact PySem.W.method_fn X J (PySem.W.plainGet_of hg).1 (PySem.W.plainGet_of hg).2 hf (beq_iff_eq.mp ht) (by show (PySem.W.lookIn name od).map (·.isSome)=some false; rw [hl,hv]; rfl) h
theorem aG {ns:List Str} {Q:Unit→Shared→Prop} (X:K.In s.heap) (I:ObjM s.heap x dx C mA)
  (hs:PySem.W.findIn K (.ref C) "__setattr__"=some (some (.builtin "object.__setattr__"))) (hp:PySem.W.plainOver K C=true) (ht:PySem.W.takerIn K C name=some none) (hh:PySem.W.hasDictIn K C=true)
  (hw:PySem.Within mA ns) (hsz:ns.length≤sizeLine)
  (h:∀ h',ObjM h' x dx C (fun y=>if y=name then some v else mA y)→Heap.SameBut dx s.heap h'→Q () { s with heap:=h',toks:=s.toks+2 }):
  wpAny (model prog w) A (setAttr (.ref x) name v) Q E s:=by
 obtain ⟨od,J,hl⟩:=I.look
 refine PySem.W.set_plain X J hs (PySem.W.osa_open (s:={ s with toks:=s.toks+1 }) (r:=none) X J hp ht fun b=>?_)
 obtain ⟨cd,hc,hd'⟩:=PySem.W.any_some hh
 have hx:s.heap.get? x=some ⟨.ref C,some dx,.plain,#[]⟩:=I.obj
 refine wpAny_bind (wpAny_pure (wpAny_bind (wpAny_bind (wpAny_loadPart hx (wpAny_bind (PySem.W.Looks.here (s:={ s with toks:=s.toks+1 }) (PySem.W.looks_clsIn X hc) ?_))))))
 rw [hd']
 refine wpAny_pure (a:=some dx) (wpAny_bind (wpAny_pure (wpAny_bind ?_)))
 refine wpAny_nsSet1 (s:={ s with toks:=s.toks+1 }) I.ns fun h' hn2 hs2=>?_
 obtain ⟨oD,esD,epD,hoD,hdD,hcD⟩:=hn2.count (PySem.Within.cons name v hw)
 refine wpAny_bind (wpAny_lookBehind hoD (by rw [hdD]; exact pastItsLine_dict (Nat.le_trans hcD (by rw [List.length_cons]; omega))) ?_)
 exact wpAny_pure (h _ ⟨(hs2.2 _ (Ne.symm I.ne)).trans I.obj,hn2,I.ne⟩ hs2)
theorem bh {R:Result→Shared→Prop} {vs:List Value} {kw:List (Str × Value)} (X:K.In s.heap) (hm:PySem.W.makesIn K C=true)
  (hi:PySem.W.findIn K (.ref C) "__init__"=some (some (.ref f))) (hf:PySem.W.typeIn K (.ref f)=some (.type "function"))
  (h:codeAny (model prog w) (A.under (.builtin "type.__call__" ⟨.ref C::vs,kw⟩)) (.call (.ref f) ⟨.ref (s.heap.objs.size+1)::vs,kw⟩) (PySem.W.InitBack (s.heap.objs.size+1) R)
   { s with heap:=(s.heap.push PySem.W.emptyDict).push (PySem.W.instObj C s.heap.objs.size) }):
  codeAny (model prog w) A (.call (.ref C) ⟨vs,kw⟩) R s:=by
 obtain ⟨hh,g,d,t,os⟩:=s
 exact PySem.W.make_core (PySem.W.makes_of X hm) (PySem.W.looks_findIn X hi) (fun self=>PySem.W.bind_fn X self hf) (.inl rfl) h
end
def vG (f:Str) (v:V):List (Str × V)→List (Str × V)
 | []=>[(f,v)]
 | (g,x)::r=>if g=f then (g,v)::r else (g,x)::vG f v r
theorem tX (f g:Str) (v:V):∀ fs:List (Str × V),(vG f v fs).lookup g=if g=f then some v else fs.lookup g
 | []=>by
  show List.lookup g [(f,v)]=_
  by_cases h:g=f
  ·have hb:(g == f)=true:=beq_iff_eq.mpr h
   simp only [List.lookup,hb,if_pos h]
  ·have hb:(g == f)=false:=beq_eq_false_iff_ne.mpr h
   simp only [List.lookup,hb,if_neg h]
 | (k,x)::r=>by
  have ih:=tX f g v r
  rw [show vG f v ((k,x)::r)=(if k=f then (k,v)::r else (k,x)::vG f v r) from rfl]
  by_cases hk:k=f
  ·rw [if_pos hk]
   by_cases h:g=k
   ·have hb:(g == k)=true:=beq_iff_eq.mpr h
    simp only [List.lookup,hb,if_pos (h.trans hk)]
   ·have hb:(g == k)=false:=beq_eq_false_iff_ne.mpr h
    simp only [List.lookup,hb,if_neg (fun e:g=f=>h (e.trans hk.symm))]
  ·rw [if_neg hk]
   by_cases h:g=k
   ·have hb:(g == k)=true:=beq_iff_eq.mpr h
    simp only [List.lookup,hb,if_neg (fun e:g=f=>hk (h.symm.trans e))]
   ·have hb:(g == k)=false:=beq_eq_false_iff_ne.mpr h
    simp only [List.lookup,hb]
    exact ih
theorem tI (f:Str) (v:V):∀ fs:List (Str × V),f∈(vG f v fs).map (·.1)∧∀ g,g∈fs.map (·.1)→g∈(vG f v fs).map (·.1)
 | []=>⟨by simp [vG],fun g h=>by simp at h⟩
 | (k,x)::r=>by
  obtain ⟨i1,i2⟩:=tI f v r
  rw [show vG f v ((k,x)::r)=(if k=f then (k,v)::r else (k,x)::vG f v r) from rfl]
  by_cases hk:k=f
  ·rw [if_pos hk]
   subst hk
   exact ⟨by simp,fun g h=>by simpa using h⟩
  ·rw [if_neg hk]
   refine ⟨?_,fun g h=>?_⟩
   ·rw [List.map_cons]
    exact List.mem_cons_of_mem _ i1
   ·rw [List.map_cons] at h ⊢
    rcases List.mem_cons.mp h with e | e
    ·exact List.mem_cons.mpr (.inl e)
    ·exact List.mem_cons_of_mem _ (i2 g e)
theorem tY (f:Str) (v:V):∀ fs:List (Str × V),(vG f v fs).length≤fs.length+1
 | []=>by simp [vG]
 | (k,x)::r=>by
  have ih:=tY f v r
  rw [show vG f v ((k,x)::r)=(if k=f then (k,v)::r else (k,x)::vG f v r) from rfl]
  by_cases hk:k=f
  ·rw [if_pos hk,List.length_cons,List.length_cons]; omega
  ·rw [if_neg hk,List.length_cons,List.length_cons]; omega
theorem RelO.some_of {v:V} {o:Option Value} (r:RelO (some v) o):∃ u,o=some u∧RelV v u:=by
 cases o with
 | none=>exact (show False from r).elim
 | some u=>exact ⟨u,rfl,r⟩
theorem RelO.none_of {o:Option Value} (r:RelO none o):o=none:=by
 cases o with
 | none=>rfl
 | some u=>exact (show False from r).elim
theorem eD {v:V} {u:Value} (r:RelV v u):PySem.W.handedIn u=true:=by
 cases v with
 | non=>cases (show u=Value.none from r); rfl
 | bl b=>cases (show u=Value.bool b from r); rfl
 | int i=>obtain ⟨t,e⟩:=(show ∃ t,u=Value.int i t from r); cases e; rfl
 | str x=>obtain ⟨t,e⟩:=(show ∃ t,u=Value.str x t from r); cases e; rfl
 | byt b=>obtain ⟨t,e⟩:=(show ∃ t,u=Value.bytes b t from r); cases e; rfl
 | flt b=>obtain ⟨t,e⟩:=(show ∃ t,u=Value.float b t from r); cases e; rfl
 | ref a=>cases (show u=Value.ref a from r); rfl
 | ty n=>cases (show u=Value.type n from r); rfl
section
variable {P:Program} {w:World} {H H':Hp} {h h':Heap} {a C dx:Addr} {fs fs':List (Str × V)}
theorem s9 (hok:HOk P w H h) (e:H a=some (.ins C dx fs)):∃ mA,ObjM h a dx C mA∧(∀ f,RelO (fs.lookup f) (mA f))∧PySem.Within mA (fs.map (·.1))∧fs.length≤1000∧H dx=some (.own a):=by
 obtain ⟨d,z,ne,ob,mA,n,r,q⟩:=(show ObjOk P w H h a (.ins C dx fs) from hok a _ e)
 exact ⟨mA,⟨ob,n,ne⟩,r,q,z,d⟩
end
structure Cls (K:PySem.W.Frag) (C:Addr):Prop where
 pg:PySem.W.plainGet K C Str.empty=true
 hd:PySem.W.hasDictIn K C=true
 po:PySem.W.plainOver K C=true
 sa:PySem.W.findIn K (.ref C) "__setattr__"=some (some (.builtin "object.__setattr__"))
theorem Cls.get {K:PySem.W.Frag} {C:Addr} (c:Cls K C) (f:Str):PySem.W.plainGet K C f=true:=c.pg
def NoAttr (K:PySem.W.Frag) (C:Addr) (f:Str):Prop:=PySem.W.findIn K (.ref C) f=some none
theorem NoAttr.taker {K:PySem.W.Frag} {C:Addr} {f:Str} (n:NoAttr K C f):PySem.W.takerIn K C f=some none:=by
 unfold PySem.W.takerIn
 rw [show PySem.W.findIn K (.ref C) f=some none from n]
 rfl
structure Yu (K:PySem.W.Frag) (C:Addr) (m:Str) (f:Addr):Prop where
 at_:PySem.W.findIn K (.ref C) m=some (some (.ref f))
 fn:PySem.W.isFn K (.ref f)=true
 kp:PySem.W.keepIn K (.ref f)=true
section
variable {X:Cx} {pins:List (Addr × Obj)} {σ:St} {H:Hp} {s:Shared} {a C dx:Addr} {fs:List (Str × V)} {f:Str} {v:V} {A:Around} {E:Value→Shared→Prop}
theorem j4 {b:Bool} {Q:Value→Shared→Prop} (I:Inv X pins σ H s) (e:H a=some (.ins C dx fs)) (c:Cls X.K C) (n:NoAttr X.K C f) (l:fs.lookup f=some v)
  (h:∀ u s',Inv X pins σ H s'→RelV v u→Q u s'):wpAny (model X.prog X.w) A (getAttr (.ref a) f b) Q E s:=by
 obtain ⟨mA,O,r,_,_,_⟩:=s9 I.hok e
 obtain ⟨u,hu,ru⟩:=RelO.some_of (v:=v) (o:=mA f) (by rw [← l]; exact r f)
 exact Z2 I.kIn O (c.get f) c.hd n hu (eD ru) (h u _ (I.tok _) ru)
theorem qs {m:Str} {g:Addr} {pl:Sem Bool} {Q:Value × List Value→Shared→Prop} (I:Inv X pins σ H s) (e:H a=some (.ins C dx fs)) (c:Cls X.K C) (k:Yu X.K C m g) (l:fs.lookup m=none)
  (h:Q (.ref g,[.ref a]) s):wpAny (model X.prog X.w) A (getMethod (.ref a) m pl) Q E s:=by
 obtain ⟨mA,O,r,_,_,_⟩:=s9 I.hok e
 have hn:mA m=none:=RelO.none_of (by rw [← l]; exact r m)
 exact bw I.kIn O (c.get m) k.at_ k.fn hn h
theorem ki {y:V} {u:Value} {Q:Unit→Shared→Prop} (I:Inv X pins σ H s) (e:H a=some (.ins C dx fs)) (c:Cls X.K C) (n:NoAttr X.K C f) (hl:fs.length<1000) (ry:RelV y u)
  (h:∀ s',Inv X pins σ (upd H a (.ins C dx (vG f y fs))) s'→Q () s'):wpAny (model X.prog X.w) A (setAttr (.ref a) f u) Q E s:=by
 obtain ⟨mA,O,r,wi,_,ho⟩:=s9 I.hok e
 have hz:(fs.map (·.1)).length≤sizeLine:=by rw [List.length_map,sizeLine_eq]; omega
 refine aG I.kIn O c.sa c.po n.taker c.hd wi hz fun h' O' sb=>h _ ?_
 have hd:∃ o,h'.get? dx=some o:=let ⟨o,_,_,e',_⟩:=O'.ns; ⟨o,e'⟩
 refine I.write (x:=a) (e:=dx) (by rw [e]; exact True.intro) (.inr ho) (fun b q hb z=>(sb.2 b hb).trans z) hd ?_
 refine ⟨by rw [zy O.ne]; exact ho,?_,O.ne,O'.obj,_,O'.ns,fun g=>?_,fun g hg=>?_⟩
 ·have:=tY f y fs; omega
 ·show RelO ((vG f y fs).lookup g) (if g=f then some u else mA g)
  rw [tX]
  by_cases q:g=f
  ·rw [if_pos q,if_pos q]; exact ry
  ·rw [if_neg q,if_neg q]; exact r g
 ·by_cases q:g=f
  ·rw [q]; exact (tI f y fs).1
  ·refine (tI f y fs).2 g (wi g fun z=>hg ?_)
   show (if g=f then some u else mA g)=none
   rw [if_neg q]; exact z
theorem Inv.made (I:Inv X pins σ H s):Inv X pins σ (upd (upd H s.heap.objs.size (.own (s.heap.objs.size+1))) (s.heap.objs.size+1) (.ins C s.heap.objs.size []))
  { s with heap:=(s.heap.push PySem.W.emptyDict).push (PySem.W.instObj C s.heap.objs.size) }:=by
 have e1:(s.heap.push PySem.W.emptyDict).get? s.heap.objs.size=some PySem.W.emptyDict:=Heap.get?_push_size s.heap rfl
 have e2:((s.heap.push PySem.W.emptyDict).push (PySem.W.instObj C s.heap.objs.size)).get? (s.heap.objs.size+1)=some (PySem.W.instObj C s.heap.objs.size):=by
  have:=Heap.get?_push_size (s.heap.push PySem.W.emptyDict) (o:=PySem.W.instObj C s.heap.objs.size) rfl
  rwa [Heap.size_push] at this
 have e3:(s.heap.push PySem.W.emptyDict).Ns s.heap.objs.size (fun _=>none):=⟨PySem.W.emptyDict,#[],_,e1,rfl,(fun e he=>absurd he (by simp)),fun _=>rfl⟩
 have I1:=I.laid (a:=s.heap.objs.size) (o:=.own (s.heap.objs.size+1)) (h':=s.heap.push PySem.W.emptyDict) (t':=s.toks) (fun b u q=>Heap.get?_push_of_some _ q) (Nat.le_refl _) ⟨_,e1⟩
 refine I1.laid (a:=s.heap.objs.size+1) (o:=.ins C s.heap.objs.size []) (t':=s.toks) (fun b u q=>Heap.get?_push_of_some _ q) (Nat.le_of_eq (Heap.size_push _ _)) ?_
 have ne:s.heap.objs.size≠s.heap.objs.size+1:=Nat.ne_of_lt (Nat.lt_succ_self _)
 refine ⟨by rw [zy ne,zx],Nat.zero_le _,ne,e2,fun _=>none,(Heap.Ns1.of_empty e3).at fun o q=>Heap.get?_push_of_some _ q,fun _=>True.intro,fun y hy=>absurd rfl hy⟩
theorem Yp {prog:Program} {w:World} {env:Env} {e:Expr} {f:Str} {pos:Pos} {s:Shared} {Q:Value→Shared→Prop} (hb:attributeBase e f env (eval e env)=eval e env)
  (h:wpAny (model prog w) A (eval e env) (fun o s₁=>wpAny (model prog w) A (getAttr o f true) Q E s₁) E s):wpAny (model prog w) A (eval (.Attribute e f pos) env) Q E s:=
 Attribute_any_ h (by rw [arm_eval_Attribute,hb])
end
def Rj (K:PySem.W.Frag) (ta:TE) (f:Str):TE:=fun σ H Q=>ta σ H fun x H1=>∃ a C dx fs v,x=.ref a∧H1 a=some (.ins C dx fs)∧Cls K C∧NoAttr K C f∧fs.lookup f=some v∧Q v H1
def V3 (K:PySem.W.Frag) (ta tv:TE) (f:Str):TS:=fun D σ H=>tv σ H fun y H1=>ta σ H1 fun x H2=>∃ a C dx fs,x=.ref a∧H2 a=some (.ins C dx fs)∧Cls K C∧NoAttr K C f∧fs.length<1000∧
 D.nx σ (upd H2 a (.ins C dx (vG f y fs)))
section
variable {X:Cx} {o e value:Expr} {f:Str} {pos pos' tpos:Pos} {ta tv:TE}
theorem XJ (he:PE X e ta) (hb:attributeBase e f X.env (eval e X.env)=eval e X.env):PE X (.Attribute e f pos) (Rj X.K ta f):=by
 intro pins s σ H Q I h
 refine Yp hb (thn (he pins s σ H _ I h) fun u s1 ⟨x,H1,I1,rx,a,C,dx,fs,v,ex,ea,c,n,l,q⟩=>?_)
 subst ex
 obtain rfl:u=Value.ref a:=rx
 exact j4 I1 ea c n l fun u' s2 I2 ru=>⟨v,H1,I2,ru,q⟩
theorem uS (ha:PE X o ta) (hv:PE X value tv) (hs:swapsWith value (some (.Attribute o f pos')) pos.line X.env=pure false):PS X (.Assign [.Attribute o f pos'] value pos) (V3 X.K ta tv f):=by
 intro pins s σ H D I h
 refine plainObj_wpAny_Assign_Attribute (thn (hv pins s σ H _ I h) fun u s1 ⟨y,H1,I1,ry,q⟩=>thn (ha pins s1 σ H1 _ I1 q) fun ov s2 ⟨x,H2,I2,rx,a,C,dx,fs,ex,ea,c,n,l,q2⟩=>?_) hs
 subst ex
 obtain rfl:ov=Value.ref a:=rx
 exact ki I2 ea c n l ry fun s3 I3=>⟨σ,_,I3,q2⟩
end
section
variable {X:Cx} {pins:List (Addr × Obj)} {σ:St} {H:Hp} {s:Shared} {A:Around} {E:Value→Shared→Prop} {Q:Value→Shared→Prop} {c:Value} {b:Bool}
inductive ua (K:PySem.W.Frag) (H:Hp):V→Value→Prop where
 | non:ua K H .non (.type "NoneType")
 | bl (x:Bool):ua K H (.bl x) (.type "bool")
 | int (i:Int):ua K H (.int i) (.type "int")
 | str (x:Str):ua K H (.str x) (.type "str")
 | flt (x:UInt64):ua K H (.flt x) (.type "float")
 | lst {a:Addr} {xs:List V} (e:H a=some (.lst xs)):ua K H (.ref a) (.type "list")
 | frz {a:Addr} {o:Obj} {xs:List V} (e:H a=some (.frz o (.lst xs))):ua K H (.ref a) (.type "list")
 | tup {a:Addr} {xs:List V} (e:H a=some (.tup xs)):ua K H (.ref a) (.type "tuple")
 | dK {a:Addr} {kvs:List (Key × V)} (e:H a=some (.dK kvs)):ua K H (.ref a) (.type "dict")
 | dT {a:Addr} {kvs:List (List Key × V)} (e:H a=some (.dT kvs)):ua K H (.ref a) (.type "dict")
 | ins {a C dx:Addr} {fs:List (Str × V)} (e:H a=some (.ins C dx fs)) (cl:Cls K C) (ha:PySem.W.findIn K (.ref C) "__class__"=some (some (.builtin "object.__class__")))
   (hn:PySem.W.specialIn K (.builtin "object.__class__") "__get__"=some (some (.builtin "getset_descriptor.__get__"))) (htk:PySem.W.takesIn K (.builtin "object.__class__")=some true)
   (hm:PySem.W.mroIn K C (.type "object")=some true):ua K H (.ref a) (.ref C)
theorem ox {x:V} {u t:Value} (I:Inv X pins σ H s) (rx:RelV x u) (ty:ua X.K H x t) (e:PySem.W.kitOne X.K t c=some b) (h:∀ tk,Q (.bool b) { s with toks:=tk }):
  wpAny (model X.prog X.w) A (call (.builtin "isinstance") [u,c]) Q E s:=by
 cases ty with
 | non=>cases (show u=Value.none from rx); exact PySem.W.kia_one PySem.W.kitx_none I.kIn True.intro e (fun z=>nomatch z) h
 | bl y=>cases (show u=Value.bool y from rx); exact PySem.W.kia_one PySem.W.kitx_bool I.kIn True.intro e (fun z=>nomatch z) h
 | int i=>obtain ⟨t,q⟩:=(show ∃ t,u=Value.int i t from rx); cases q; exact PySem.W.kia_one PySem.W.kitx_int I.kIn True.intro e (fun z=>nomatch z) h
 | str y=>obtain ⟨t,q⟩:=(show ∃ t,u=Value.str y t from rx); cases q; exact PySem.W.kia_one PySem.W.kitx_str I.kIn True.intro e (fun z=>nomatch z) h
 | flt y=>obtain ⟨t,q⟩:=(show ∃ t,u=Value.float y t from rx); cases q; exact PySem.W.kia_one PySem.W.kitx_float I.kIn True.intro e (fun z=>nomatch z) h
 | @lst a xs ea=>
  cases (show u=Value.ref a from rx)
  obtain ⟨_,_,n,_,h1⟩:=(show ObjOk X.prog X.w H s.heap a (.lst xs) from I.hok a _ ea)
  exact PySem.W.kia_one PySem.W.kitx_list I.kIn ⟨_,h1,rfl⟩ e (fun z=>nomatch z) h
 | @frz a ob xs ea=>
  cases (show u=Value.ref a from rx)
  obtain ⟨_,_,_,n,_,h1⟩:=(show ObjOk X.prog X.w H s.heap a (.frz ob (.lst xs)) from I.hok a _ ea)
  exact PySem.W.kia_one PySem.W.kitx_list I.kIn ⟨_,h1,rfl⟩ e (fun z=>nomatch z) h
 | @tup a xs ea=>
  cases (show u=Value.ref a from rx)
  obtain ⟨_,_,_,p⟩:=(show ObjOk X.prog X.w H s.heap a (.tup xs) from I.hok a _ ea)
  obtain ⟨o,h1,h2,_⟩:=p
  exact PySem.W.kia_one PySem.W.kitx_tuple I.kIn ⟨o,h1,h2⟩ e (fun z=>nomatch z) h
 | @dK a kvs ea=>
  cases (show u=Value.ref a from rx)
  obtain ⟨_,_,vs,_,p⟩:=(show ObjOk X.prog X.w H s.heap a (.dK kvs) from I.hok a _ ea)
  obtain ⟨o,es,ep,h1,h2,_⟩:=p
  exact PySem.W.kia_one PySem.W.kitx_dict I.kIn ⟨o,h1,h2.1⟩ e (fun z=>nomatch z) h
 | @dT a kvs ea=>
  cases (show u=Value.ref a from rx)
  obtain ⟨_,_,xs,_,o,es,ep,h1,h2,_⟩:=(show ObjOk X.prog X.w H s.heap a (.dT kvs) from I.hok a _ ea)
  exact PySem.W.kia_one PySem.W.kitx_dict I.kIn ⟨o,h1,h2.1⟩ e (fun z=>nomatch z) h
 | @ins a C dx fs ea cl ha hn htk hm=>
  cases (show u=Value.ref a from rx)
  obtain ⟨mA,O,_⟩:=s9 I.hok ea
  obtain ⟨od,J,_⟩:=O.look
  exact PySem.W.kia_one (PySem.W.kitx_own (cl.get _) cl.hd ha hn htk hm) I.kIn J e (fun z=>nomatch z) h
end
end L2
namespace L2
open PySem PySem.Spec PyProof.Rows
structure Room (k:Nat) (A:Around):Prop where
 hd:A.handled=none
 dp:A.depth+3*k+5<recursionLimit
 un:A.units+16*k+200<cLine
theorem Room.mono {j k:Nat} {A:Around} (r:Room k A) (h:j≤k):Room j A:=⟨r.hd,by have:=r.dp; omega,by have:=r.un; omega⟩
theorem Room.deeper {k:Nat} {A:Around} (r:Room (k+1) A) (env:Env):Room k (A.deeper env):=
 ⟨r.hd,by have:=r.dp; show A.depth+1+3*k+5<_; omega,by have:=r.un; show A.units+3+16*k+200<_; omega⟩
theorem Room.in1 {k:Nat} {A:Around} (r:Room (k+1) A):Room k A.in1:=
 ⟨r.hd,by have:=r.dp; show A.depth+3*k+5<_; omega,by have:=r.un; show A.units+1+16*k+200<_; omega⟩
theorem jE {A:Around} {C:Addr} {us:List Value} {kw:List (Str × Value)}:(A.under (.builtin "type.__call__" ⟨.ref C::us,kw⟩)).depth=A.depth+1:=by
 first | rfl | simp [Around.under,Code.weight,Code.isCreation,Code.isGuard,Code.isCaller,Code.frames,Code.isFrame,guardIds]
theorem jD {A:Around} {C:Addr} {us:List Value} {kw:List (Str × Value)}:(A.under (.builtin "type.__call__" ⟨.ref C::us,kw⟩)).units=A.units+1:=by
 first | rfl | simp [Around.under,Code.cUnits,Code.frames,Code.isFrame]
theorem Room.make {k:Nat} {A:Around} (r:Room (k+1) A) (C:Addr) (us:List Value) (kw:List (Str × Value)):Room k (A.under (.builtin "type.__call__" ⟨.ref C::us,kw⟩)):=
 ⟨r.hd,by have:=r.dp; rw [jE]; omega,by have:=r.un; rw [jD]; omega⟩
theorem Room.depth {k:Nat} {A:Around} (r:Room k A):A.depth<recursionLimit:=by have:=r.dp; omega
theorem Room.units {k:Nat} {A:Around} (r:Room k A):A.units+64<cLine:=by have:=r.un; omega
def VS:TA:=fun _ H Q=>Q [] H
def VY (ta:TE) (tr:TA):TA:=fun σ H Q=>ta σ H fun x H1=>tr σ H1 fun xs H2=>Q (x::xs) H2
section
variable {X:Cx} {e:Expr} {es:List Expr} {te:TE} {t:TA} {pos:Pos}
theorem yp:PA X [] VS:=fun _ _ _ _ H Q I h=>Calls.spliced_nil ⟨[],H,I,.nil,h⟩
theorem zR (ha:PE X e te) (hr:PA X es t) (hs:starEach (e::es) X.env=(false,eval e X.env)::starEach es X.env:=by rfl):PA X (e::es) (VY te t):=by
 intro pos pins s σ H Q I h
 rw [hs]
 show wpAny _ _ (spliced ((false,eval e X.env)::backTo pos (starEach es X.env))) _ _ s
 refine Calls.spliced_cons (thn (ha pins s σ H _ I h) fun u s1 ⟨x,H1,I1,r1,q1⟩=>?_)
 exact thn (hr pos pins s1 σ H1 _ I1 q1) fun us s2 ⟨xs,H2,I2,r2,q2⟩=>⟨x::xs,H2,I2,.cons r1 r2,q2⟩
def Ra (t:TA):TE:=fun σ H Q=>t σ H fun xs H1=>xs.length≤sizeLine∧∀ p,H1 p=none→Q (.ref p) (upd H1 p (.tup xs))
def Rg (t:TA):TE:=fun σ H Q=>t σ H fun xs H1=>xs.length≤sizeLine∧∀ p,H1 p=none→Q (.ref p) (upd H1 p (.lst xs))
theorem dW {x1} (h:PA X es t):PE X (.Tuple es x1 pos) (Ra t):=by
 intro pins s σ H Q I hq
 refine wpAny_Tuple_spliced (thn (h pos pins s σ H _ I hq) fun us s1 ⟨xs,H1,I1,r,z,q⟩=>⟨by rw [← r.length]; exact z,?_⟩)
 have hf:H1 s1.heap.objs.size=none:=I1.hok.fresh (Nat.le_refl _)
 refine ⟨.ref s1.heap.objs.size,upd H1 s1.heap.objs.size (.tup xs),I1.laid (t':=s1.toks) (fun b u e=>Heap.get?_push_of_some _ e) (Nat.le_refl _) ?_,rfl,q _ hf⟩
 exact ⟨z,us,r,⟨_,Heap.get?_push_size _ rfl,rfl,_,rfl⟩⟩
theorem dZ (h:PA X es t):PE X (.List es pos) (Rg t):=by
 intro pins s σ H Q I hq
 refine wpAny_List_spliced (thn (h pos pins s σ H _ I hq) fun us s1 ⟨xs,H1,I1,r,z,q⟩=>⟨by rw [← r.length]; exact z,?_⟩)
 have hf:H1 s1.heap.objs.size=none:=I1.hok.fresh (Nat.le_refl _)
 refine ⟨.ref s1.heap.objs.size,upd H1 s1.heap.objs.size (.lst xs),I1.laid (t':=s1.toks) (fun b u e=>Heap.get?_push_of_some _ e) (Nat.le_refl _) ?_,rfl,q _ hf⟩
 exact ⟨z,us,0,r,Heap.get?_push_size _ rfl⟩
end
abbrev Sp:=List V→Hp→VK→XK→Prop
abbrev CXT:=List Env→Hp→Shared→XK→Value→Shared→Prop
structure Env0 (P:Program) (w:World) (K:PySem.W.Frag) (mg:Str→Option Value) (base:Heap) (A:Around) (outer:List Env) (s:Shared) (H:Hp):Prop where
 frames:A.frames=some outer
 mod:Mod K mg base
 bs:∀ b o,base.get? b=some o→s.heap.get? b=some o∧H b=none
 bsz:base.objs.size≤s.heap.objs.size
 funs:s.heap.FunFrames base outer
 frf:∀ b∈frs outer,H b=none
 hok:HOk P w H s.heap
 bare:AllBare s.gens
def CE (outer:List Env) (P:Program) (w:World) (H:Hp) (s:Shared) (Q:VK) (u:Value) (s':Shared):Prop:=
 ∃ v H',s'.os=s.os∧AllBare s'.gens∧Un (frs outer) [] H H' s.heap s'.heap∧HOk P w H' s'.heap∧RelV v u∧Q v H'
def CR (CX:CXT) (outer:List Env) (P:Program) (w:World) (H:Hp) (s:Shared) (Q:VK) (E:XK) (r:Result) (s':Shared):Prop:=
 match r with
 | .ok (.ret u)=>CE outer P w H s Q u s'
 | .ok _=>False
 | .error e=>CX outer H s E e s'
structure FnOk (P:Program) (w:World) (K:PySem.W.Frag) (mg:Str→Option Value) (base:Heap) (CX:CXT) (k:Nat) (f:Addr) (fd:FuncData) (ps:List Str) (sp:Sp):Prop where
 len:∀ vs H Q E,sp vs H Q E→vs.length=ps.length
 run:∀ (A:Around) (outer:List Env) (s:Shared) (H:Hp) (args:Args) (us:List Value) (vs:List V) (Q:VK) (E:XK),Room k A→Env0 P w K mg base A outer s H→BindsTo s fd args (ps.zip us)→Vals vs us→sp vs H Q E→
  codeAny (model P w) A (.call (.ref f) args) (CR CX outer P w H s Q E) s
theorem FnOk.mono {P:Program} {w:World} {K:PySem.W.Frag} {mg:Str→Option Value} {base:Heap} {CX:CXT} {j k:Nat} {f:Addr} {fd:FuncData} {ps:List Str} {sp:Sp} (F:FnOk P w K mg base CX j f fd ps sp) (h:j≤k):
  FnOk P w K mg base CX k f fd ps sp:=⟨F.len,fun A outer s H args us vs Q E hr=>F.run A outer s H args us vs Q E (hr.mono h)⟩
theorem FnOk.imp {P:Program} {w:World} {K:PySem.W.Frag} {mg:Str→Option Value} {base:Heap} {CX:CXT} {k:Nat} {f:Addr} {fd:FuncData} {ps:List Str} {sp sp':Sp} (F:FnOk P w K mg base CX k f fd ps sp)
  (h:∀ vs H Q E,sp' vs H Q E→sp vs H Q E):FnOk P w K mg base CX k f fd ps sp':=
 ⟨fun vs H Q E q=>F.len vs H Q E (h _ _ _ _ q),fun A outer s H args us vs Q E hr he hb hv hs=>F.run A outer s H args us vs Q E hr he hb hv (h _ _ _ _ hs)⟩
theorem Env0.make {P:Program} {w:World} {K:PySem.W.Frag} {mg:Str→Option Value} {base:Heap} {A:Around} {outer:List Env} {s:Shared} {H:Hp} (e:Env0 P w K mg base A outer s H) (C:Addr) (us:List Value) (kw:List (Str × Value)):
  Env0 P w K mg base (A.under (.builtin "type.__call__" ⟨.ref C::us,kw⟩)) outer s H:=⟨by first | exact e.frames | (simpa [Around.under,Code.envs,Code.isFrame,pushEnvs] using e.frames),e.mod,e.bs,e.bsz,e.funs,e.frf,e.hok,e.bare⟩
theorem Env0.in1 {P:Program} {w:World} {K:PySem.W.Frag} {mg:Str→Option Value} {base:Heap} {A:Around} {outer:List Env} {s:Shared} {H:Hp} (e:Env0 P w K mg base A outer s H):
  Env0 P w K mg base A.in1 outer s H:=⟨e.frames,e.mod,e.bs,e.bsz,e.funs,e.frf,e.hok,e.bare⟩
section
variable {X:Cx} {pins:List (Addr × Obj)} {σ:St} {H:Hp} {s s':Shared}
theorem Inv.env0 (I:Inv X pins σ H s):Env0 X.prog X.w X.K X.mg X.base X.A X.stack s H:=
 ⟨I.ok.frames,I.ok.mod,I.bs,Nat.le_trans I.ok.bsz I.sz,I.stack,I.stkFree,I.hok,I.bare⟩
theorem Inv.after {Q:VK} {u:Value} (I:Inv X pins σ H s) (h:CE X.stack X.prog X.w H s Q u s'):EP X pins σ Q u s':=by
 obtain ⟨v,H',os,bare,un,hok,r,q⟩:=h
 obtain ⟨hh,g,d,t,os'⟩:=s'
 obtain rfl:os'=s.os:=os
 exact ⟨v,H',I.call (h':=hh) (g':=g) (d':=d) (t':=t) (ch:=[]) un hok bare (fun b z=>absurd z (by simp)),r,q⟩
end
def VZ (sp:Sp) (dvs:List V) (E:XK) (t:TA):TE:=fun σ H Q=>t σ H fun vs H1=>sp (vs++dvs) H1 Q E
def VU (C:Addr) (sp:Sp) (dvs:List V) (E:XK) (t:TA):TE:=fun σ H Q=>t σ H fun vs H1=>∀ x dx,H1 x=none→H1 dx=none→dx≠x→
 sp (.ref x::(vs++dvs)) (upd (upd H1 dx (.own x)) x (.ins C dx [])) (fun v H2=>v=.non∧Q (.ref x) H2) E
def Binds (K:PySem.W.Frag) (fd:FuncData) (ps:List Str) (ds:List Value):Prop:=
 ∀ (s:Shared) (us:List Value),K.In s.heap→(us++ds).length=ps.length→BindsTo s fd ⟨us,[]⟩ (ps.zip (us++ds))
theorem Binds.all {K:PySem.W.Frag} {fd:FuncData} {ps:List Str} (h:∀ us:List Value,us.length=ps.length→bindArgs fd ⟨us,[]⟩=pure (ps.zip us)):Binds K fd ps []:=fun s us _ hl=>by
 rw [List.append_nil] at hl ⊢
 exact .of_eq (h us hl)
def tV (CX:CXT) (X:Cx) (E:XK):Prop:=∀ (pins:List (Addr × Obj)) (σ:St) (H:Hp) (s:Shared) (e:Value) (s':Shared),Inv X pins σ H s→CX X.stack H s E e s'→X.xe e s'
section
variable {X:Cx} {CX:CXT} {k:Nat} {f C:Addr} {fd:FuncData} {ps:List Str} {sp:Sp} {dvs:List V} {ds:List Value} {E:XK} {x m:Str} {p pos apos:Pos} {e o:Expr} {es:List Expr} {ta:TE} {t:TA}
theorem kx {pins:List (Addr × Obj)} {σ:St} {H:Hp} {s:Shared} {Q:VK} {us:List Value} {vs:List V} (F:FnOk X.prog X.w X.K X.mg X.base CX k f fd ps sp) (hr:Room k X.A) (hb:Binds X.K fd ps ds) (hd:Vals dvs ds) (hx:tV CX X E)
  (I:Inv X pins σ H s) (r:Vals vs us) (h:sp (vs++dvs) H Q E):wpAny (model X.prog X.w) X.A (call (.ref f) us) (EP X pins σ Q) X.xe s:=by
 have r2:Vals (vs++dvs) (us++ds):=r.append hd
 have hl:(us++ds).length=ps.length:=by rw [← r2.length]; exact F.len _ _ _ _ h
 refine wpAny_call (codeAny_mono (F.run X.A X.stack s H ⟨us,[]⟩ (us++ds) (vs++dvs) Q E hr I.env0 (hb s us I.kIn hl) r2 h) fun r s' hq=>?_)
 cases r with
 | error e=>exact hx pins σ H s e s' I hq
 | ok fl=>
  cases fl with
  | ret u=>exact I.after hq
  | next=>exact False.elim hq
  | brk=>exact False.elim hq
  | cont=>exact False.elim hq
theorem vk (F:FnOk X.prog X.w X.K X.mg X.base CX k f fd ps sp) (hr:Room k X.A) (hg:Gl X x) (hm:X.mg x=some (.ref f)) (hk:PySem.W.keepIn X.K (.ref f)=true) (hb:Binds X.K fd ps ds) (hd:Vals dvs ds) (hx:tV CX X E)
  (ha:PA X (e::es) t) (hdb:(x == ("__debug__":Str))=false:=by decide) (he:starEach (e::es) X.env=(false,eval e X.env)::starEach es X.env:=by rfl) (hpl:(backTo pos (starEach es X.env)).any (·.1)=false:=by rfl):
  PE X (.Call (.Name x p) (e::es) [] pos) (VZ sp dvs E t):=by
 intro pins s σ H Q I h
 refine wpAny_Call_Name_kw (s8 I hg hm ?_ hdb)
 refine PySem.W.callWith_K (h₀:=X.base) I.ok.mod.kin hk (thn (ha pos pins s σ H _ I h) fun us s1 ⟨vs,H1,I1,r,q⟩=>⟨I1.kIn,?_⟩) he hpl
 exact kx F hr hb hd hx I1 r q
structure Mk (K:PySem.W.Frag) (C f:Addr):Prop where
 makes:PySem.W.makesIn K C=true
 init:PySem.W.findIn K (.ref C) "__init__"=some (some (.ref f))
 fn:PySem.W.isFn K (.ref f)=true
 kp:PySem.W.keepIn K (.ref C)=true
theorem dB {pins:List (Addr × Obj)} {σ:St} {H:Hp} {s:Shared} {Q:VK} {us:List Value} {vs:List V} (M:Mk X.K C f) (F:FnOk X.prog X.w X.K X.mg X.base CX k f fd ps sp) (hr:Room (k+1) X.A) (hb:Binds X.K fd ps ds) (hd:Vals dvs ds)
  (hx:tV CX X E) (I:Inv X pins σ H s) (r:Vals vs us)
  (h:∀ x dx,H x=none→H dx=none→dx≠x→sp (.ref x::(vs++dvs)) (upd (upd H dx (.own x)) x (.ins C dx [])) (fun v H2=>v=.non∧Q (.ref x) H2) E):
  wpAny (model X.prog X.w) X.A (call (.ref C) us) (EP X pins σ Q) X.xe s:=by
 have hq:=h (s.heap.objs.size+1) s.heap.objs.size (I.hok.fresh (Nat.le_succ _)) (I.hok.fresh (Nat.le_refl _)) (Nat.ne_of_lt (Nat.lt_succ_self _))
 have I2:=Inv.made (C:=C) I
 have r2:Vals (V.ref (s.heap.objs.size+1)::(vs++dvs)) (Value.ref (s.heap.objs.size+1)::(us++ds)):=.cons rfl (r.append hd)
 have hl:(Value.ref (s.heap.objs.size+1)::us++ds).length=ps.length:=by
  have e:=r2.length
  rw [F.len _ _ _ _ hq] at e
  exact e.symm
 refine wpAny_call (bh (f:=f) I.kIn M.makes M.init (beq_iff_eq.mp M.fn) (codeAny_mono (F.run _ X.stack _ _ ⟨Value.ref (s.heap.objs.size+1)::us,[]⟩ (Value.ref (s.heap.objs.size+1)::(us++ds)) _ _ E (hr.make C us [])
  (I2.env0.make C us []) (hb _ (Value.ref (s.heap.objs.size+1)::us) I2.kIn hl) r2 hq) fun r s' hq'=>?_))
 cases r with
 | error e=>exact hx pins σ _ _ e s' I2 hq'
 | ok fl=>
  cases fl with
  | ret u=>
   obtain ⟨v,H',I3,rv,ev,q3⟩:=I2.after hq'
   subst ev
   exact ⟨rv,⟨V.ref (s.heap.objs.size+1),H',I3,rfl,q3⟩⟩
  | next=>exact False.elim hq'
  | brk=>exact False.elim hq'
  | cont=>exact False.elim hq'
theorem aV (M:Mk X.K C f) (F:FnOk X.prog X.w X.K X.mg X.base CX k f fd ps sp) (hr:Room (k+1) X.A) (hg:Gl X x) (hm:X.mg x=some (.ref C)) (hb:Binds X.K fd ps ds) (hd:Vals dvs ds) (hx:tV CX X E)
  (ha:PA X (e::es) t) (hdb:(x == ("__debug__":Str))=false:=by decide) (he:starEach (e::es) X.env=(false,eval e X.env)::starEach es X.env:=by rfl) (hpl:(backTo pos (starEach es X.env)).any (·.1)=false:=by rfl):
  PE X (.Call (.Name x p) (e::es) [] pos) (VU C sp dvs E t):=by
 intro pins s σ H Q I h
 refine wpAny_Call_Name_kw (s8 I hg hm ?_ hdb)
 refine PySem.W.callWith_K (h₀:=X.base) I.ok.mod.kin M.kp (thn (ha pos pins s σ H _ I h) fun us s1 ⟨vs,H1,I1,r,q⟩=>⟨I1.kIn,?_⟩) he hpl
 exact dB M F hr hb hd hx I1 r q
end
section
variable {X:Cx} {CX:CXT} {k:Nat} {f C:Addr} {fd:FuncData} {ps ks:List Str} {sp:Sp} {E:XK} {x m:Str} {p pos apos kpos:Pos} {e o:Expr} {es:List Expr} {kws:List Keyword} {te ta:TE} {t tk:TA} {nm:Option Str}
variable {g:List Value→List Value→List Value} {gV:List V→List V→List V}
end
structure zi (N P:List Str) (sc:Scope):Prop where
 kind:sc.kind=.function
 co:sc.isCoroutine=false
 gen:sc.isGenerator=false
 nd:N.Nodup
 pre:N.take P.length=P
 par:∀ x∈P,sc.names.lookup x=some .local∨sc.names.lookup x=some .cell
 nofree:∀ y∈sc.names,y.2≠.free
theorem oE {kindOf:Str→Option NameKind} {x:Str}:∀ {binds:List (Str × Value)} {m:Str→Option Value},(∀ v,(x,v)∉binds)→bindL kindOf binds m x=m x
 | [],_,_=>rfl
 | (n,v)::r,m,h=>by
  unfold bindL
  rw [oE fun w hw=>h w (List.mem_cons_of_mem _ hw)]
  split
  ·have:x≠n:=by rintro rfl; exact h v List.mem_cons_self
   simp [this]
  ·rfl
theorem oG {kindOf:Str→Option NameKind} {x:Str}:∀ {binds:List (Str × Value)} {m:Str→Option Value},(∀ v,(x,v)∉binds)→bindC kindOf binds m x=m x
 | [],_,_=>rfl
 | (n,v)::r,m,h=>by
  unfold bindC
  rw [oG fun w hw=>h w (List.mem_cons_of_mem _ hw)]
  split
  ·rfl
  ·have:x≠n:=by rintro rfl; exact h v List.mem_cons_self
   simp [this]
theorem oF {kindOf:Str→Option NameKind} {x:Str} {v:Value}:∀ {P:List Str} {vs:List Value} {i:Nat} {m:Str→Option Value},P.Nodup→P[i]? = some x→vs[i]? = some v→kindOf x=some .local→
  bindL kindOf (P.zip vs) m x=some v
 | [],_,_,_,_,h,_,_=>by simp at h
 | _::_,[],_,_,_,_,h,_=>by simp at h
 | p::P,w::vs,0,m,nd,h1,h2,hk=>by
  simp at h1 h2; subst h1; subst h2
  show bindL kindOf ((p,w)::P.zip vs) m p=_
  unfold bindL
  rw [oE fun v hv=>(List.nodup_cons.mp nd).1 (List.of_mem_zip hv).1,if_pos hk]
  simp
 | p::P,w::vs,i+1,m,nd,h1,h2,hk=>by
  show bindL kindOf ((p,w)::P.zip vs) m x=_
  unfold bindL
  exact oF (i:=i) (List.nodup_cons.mp nd).2 (by simpa using h1) (by simpa using h2) hk
theorem oH {kindOf:Str→Option NameKind} {x:Str} {v:Value}:∀ {P:List Str} {vs:List Value} {i:Nat} {m:Str→Option Value},P.Nodup→P[i]? = some x→vs[i]? = some v→kindOf x≠some .local→
  bindC kindOf (P.zip vs) m x=some v
 | [],_,_,_,_,h,_,_=>by simp at h
 | _::_,[],_,_,_,_,h,_=>by simp at h
 | p::P,w::vs,0,m,nd,h1,h2,hk=>by
  simp at h1 h2; subst h1; subst h2
  show bindC kindOf ((p,w)::P.zip vs) m p=_
  unfold bindC
  rw [oG fun v hv=>(List.nodup_cons.mp nd).1 (List.of_mem_zip hv).1,if_neg hk]
  simp
 | p::P,w::vs,i+1,m,nd,h1,h2,hk=>by
  show bindC kindOf ((p,w)::P.zip vs) m x=_
  unfold bindC
  exact oH (i:=i) (List.nodup_cons.mp nd).2 (by simpa using h1) (by simpa using h2) hk
def start (N:List Str) (vs:List V):St:=vs.map some++List.replicate (N.length - vs.length) none
def yF (CX:CXT) (P:Program) (w:World) (K:PySem.W.Frag) (mg:Str→Option Value) (base:Heap) (N:List Str) (qual:Str) (scope:Scope) (f:Addr) (cd:Value) (A:Around) (outer:List Env) (s:Shared) (H:Hp) (E:XK):Cx where
 prog:=P
 w:=w
 K:=K
 mg:=mg
 base:=base
 A:=A.deeper (envOfC qual scope s.heap.objs.size f cd)
 N:=N
 s₀:=s
 H₀:=H
 env:=envOfC qual scope s.heap.objs.size f cd
 outer:=outer
 stack:=envOfC qual scope s.heap.objs.size f cd::outer
 ex:=[]
 calm:=true
 fn:=fun _=>true
 pn:=[]
 xe:=fun e s'=>wpAny (model P w) (A.deeper (envOfC qual scope s.heap.objs.size f cd)) (leaving (envOfC qual scope s.heap.objs.size f cd) e) (fun _ s''=>CX outer H s E e s'') (fun e' s''=>CX outer H s E e' s'') s'
theorem uy {sc:Scope} {n:Nat} {x:Str} (h:sc.names.lookup x=some .cell):∃ c,(cellsFrom n sc.names []).lookup x=some c:=by
 have q:=PySem.W.cellsFrom_some sc.names n [] (.inl h)
 exact Option.isSome_iff_exists.mp q
theorem fZ {CX:CXT} {P:Program} {w:World} {K:PySem.W.Frag} {mg:Str→Option Value} {base:Heap} {N ps:List Str} {qual:Str} {scope:Scope} {f:Addr} {cd:Value} {A:Around} {outer:List Env} {s s1:Shared} {H:Hp} {E:XK} {us:List Value} {vs:List V}
  (S:zi N ps scope) (hd:A.handled=none) (e0:Env0 P w K mg base A outer s H) (hl:vs.length=ps.length) (r:Vals vs us)
  (x:InCallC s s.heap.objs.size (bindL (envOfC qual scope s.heap.objs.size f cd).kindOf (ps.zip us) fun _=>none) (cellsFrom (s.heap.objs.size+1) scope.names []) (bindC (envOfC qual scope s.heap.objs.size f cd).kindOf (ps.zip us) fun _=>none) s1):
  Inv (yF CX P w K mg base N qual scope f cd A outer s H E) [] (start N vs) H s1:=by
 have hpl:ps.length≤N.length:=by have:=congrArg List.length S.pre; rw [List.length_take] at this; omega
 obtain ⟨h1,tk,rfl,hk⟩:=x.done
 have noA:∀ b:Addr,b∉(yF CX P w K mg base N qual scope f cd A outer s H E).ex:=fun b z=>absurd (show b∈([]:List Addr) from z) (by simp)
 refine ⟨⟨e0.mod,S.kind,rfl,rfl,Nat.le_refl _,fun y z c h1 h2=>?_,fun y hy=>?_,fun y c _ h=>?_,fun _=>hd,Around.frames_deeper e0.frames,.inr ⟨rfl,rfl⟩,fun b z=>absurd z (noA b),e0.bs,e0.bsz,fun b _ _=>noA b,fun b z=>absurd z (noA b),e0.funs,e0.frf⟩,
  rfl,e0.bare,Un.kept hk,⟨_,x.toInCall.ns,fun i y v h1 h2 h3=>?_⟩,fun y c h=>⟨_,x.cell y c h⟩,e0.hok.fresh (Nat.le_refl _),fun y c h=>?_,fun p hp=>absurd (show p∈([]:List (Addr × Obj)) from hp) (by simp),e0.hok.kept hk,?_⟩
 ·exact name_of_addr x.apart (PySem.mem_of_lookup h1) (PySem.mem_of_lookup h2)
 ·have hy:scope.names.lookup y=some .cell∨scope.names.lookup y=some .free:=hy
  rcases hy with hy | hy
  ·exact uy hy
  ·exact absurd rfl (S.nofree _ (PySem.mem_of_lookup hy))
 ·exact Nat.le_of_lt (x.above y c (PySem.mem_of_lookup h))
 ·have hi:i<vs.length:=by
   unfold start at h2
   by_cases hi:i<vs.length
   ·exact hi
   ·rw [List.getElem?_append_right (by simpa using hi)] at h2
    rw [List.getElem?_replicate] at h2
    split at h2 <;> cases h2
  have ha:vs[i]? = some v:=by
   unfold start at h2
   rw [List.getElem?_append_left (by simpa using hi),List.getElem?_map] at h2
   cases e:vs[i]? with
   | none=>rw [e] at h2; cases h2
   | some a=>rw [e] at h2; cases h2; rfl
  obtain ⟨u,hu,rv⟩:=r.get ha
  have hp:ps[i]? = some y:=by
   rw [← S.pre,List.getElem?_take_of_lt (by omega)]; exact h1
  have ndP:ps.Nodup:=by rw [← S.pre]; exact S.nd.sublist (List.take_sublist _ _)
  refine ⟨u,rv,?_⟩
  rcases S.par y (List.mem_of_getElem? hp) with k | k
  ·exact .inl ⟨k,oF ndP hp hu k⟩
  ·obtain ⟨c,e⟩:=uy (n:=s.heap.objs.size+1) k
   refine .inr ⟨.inl k,c,e,?_⟩
   have q:=x.cell y c e
   rw [oH ndP hp hu (by show scope.names.lookup y≠_; rw [k]; decide)] at q
   exact q
 ·exact e0.hok.fresh (Nat.le_of_lt (x.above y c (PySem.mem_of_lookup h)))
 ·unfold start
  show _=N.length
  rw [List.length_append,List.length_map,List.length_replicate]
  omega
theorem YO {CX:CXT} {P:Program} {w:World} {K:PySem.W.Frag} {mg:Str→Option Value} {base:Heap} {k:Nat} {f:Addr} {name qual:Str} {params:Arguments} {body:List Stmt} {scope:Scope} {dV kV doc pm cdv ct oc:Value} {an od:Option Addr}
  {osl:Array (Option Value)} {N ps:List Str} {sp:Sp} (lk:K.lookup f=some ⟨oc,od,.func (PySem.W.fnOf name qual params body scope dV kV doc pm an cdv ct),osl⟩) (hcd:PySem.W.codeIn K cdv qual=true) (S:zi N ps scope)
  (len:∀ vs H Q E,sp vs H Q E→vs.length=ps.length)
  (hbody:∀ (A:Around) (outer:List Env) (s:Shared) (H:Hp) (vs:List V) (Q:VK) (E:XK),Room k (A.deeper (envOfC qual scope s.heap.objs.size f cdv))→sp vs H Q E→
   ∃ t,PSs (yF CX P w K mg base N qual scope f cdv A outer s H E) body t∧t { nx:=fun _ H'=>Q .non H',rt:=Q } (start N vs) H):
  FnOk P w K mg base CX (k+1) f (PySem.W.fnOf name qual params body scope dV kV doc pm an cdv ct) ps sp:=by
 refine ⟨len,fun A outer s H args us vs Q E hr e0 hb r hsp=>?_⟩
 have hl:=len _ _ _ _ hsp
 have KX:K.In s.heap:=e0.mod.kin.keeps fun b o e=>(e0.bs b o e).1
 have lim:s.heap.NoLimit:=e0.mod.nolimit.keeps fun b o e=>(e0.bs b o e).1
 have hkind:∀ y∈ps.zip us,scope.names.lookup y.1=some .local∨(scope.names.lookup y.1=some .cell∧((cellsFrom (s.heap.objs.size+1) scope.names []).lookup y.1).isSome=true):=fun ⟨n,v⟩ hy=>by
  rcases S.par n (List.of_mem_zip hy).1 with q | q
  ·exact .inl q
  ·exact .inr ⟨q,PySem.W.cellsFrom_some _ _ _ (.inl q)⟩
 refine codeAny_call_function hr.depth (KX _ _ lk) rfl S.co S.gen rfl (PySem.W.codeRec_of KX hcd) (hb _ _ _ _ ?_)
 refine wpAny_newFunctionEnv_cells S.kind hkind fun env he s1 x=>?_
 subst he
 refine ⟨lim.keeps x.toInCall.keep,codeAny_func ?_⟩
 obtain ⟨t,ht,hq⟩:=hbody A outer s H vs Q E (hr.deeper _) hsp
 have I:Inv (yF CX P w K mg base N qual scope f cdv A outer s H E) [] (start N vs) H s1:=fZ S hr.hd e0 hl r x
 refine wpAny_mono (ht [] s1 (start N vs) H _ I hq) (fun fl s' hs=>?_) fun e s' hs=>hs
 have fin:∀ {σ':St} {H':Hp} {v:V} {u:Value},Inv (yF CX P w K mg base N qual scope f cdv A outer s H E) [] σ' H' s'→RelV v u→Q v H'→CE outer P w H s Q u s':=
  fun {σ' H' v u} J rv q=>⟨v,H',J.os,J.bare,J.base,J.hok,rv,q⟩
 cases fl with
 | ret u=>
  obtain ⟨v,σ',H',J,rv,q⟩:=hs
  exact fin J rv q
 | next=>
  obtain ⟨σ',H',J,q⟩:=hs
  exact fin (v:=V.non) (u:=Value.none) J rfl q
 | brk=>
  obtain ⟨_,_,_,q⟩:=hs
  exact False.elim q
 | cont=>
  obtain ⟨_,_,_,q⟩:=hs
  exact False.elim q
end L2
namespace L2
open PySem PySem.Spec PyProof.Rows
section
variable {X:Cx} {x:Str} {p pos:Pos} {e:Expr} {es:List Expr} {t:TA} {id T:String} {r:List V→Hp→VK→Prop}
def tCB (r:List V→Hp→VK→Prop) (t:TA):TE:=fun σ H Q=>t σ H fun vs H1=>r vs H1 Q
theorem xt (hc:CallR X (.builtin id) r) (hg:Gl X x) (hm:X.mg x=none) (hv:bootBuiltins x=some (.builtin id)) (ha:PA X (e::es) t) (hn:x≠"__name__":=by decide) (hdb:(x == ("__debug__":Str))=false:=by decide)
  (he:starEach (e::es) X.env=(false,eval e X.env)::starEach es X.env:=by rfl) (hpl:(backTo pos (starEach es X.env)).any (·.1)=false:=by rfl):PE X (.Call (.Name x p) (e::es) [] pos) (tCB r t):=by
 intro pins s σ H Q I h
 refine wpAny_Call_Name_kw (ww I hg hm hv ?_ hn hdb)
 exact PyProof.Rows.callWith_builtin1 (thn (ha pos pins s σ H _ I h) fun us s1 ⟨vs,H1,I1,r1,q1⟩=>hc pins s1 σ H1 vs us Q I1 r1 q1) he hpl
theorem om (hc:CallR X (.type T) r) (hg:Gl X x) (hm:X.mg x=none) (hv:bootBuiltins x=some (.type T)) (ha:PA X (e::es) t) (hn:x≠"__name__":=by decide) (hdb:(x == ("__debug__":Str))=false:=by decide)
  (he:starEach (e::es) X.env=(false,eval e X.env)::starEach es X.env:=by rfl) (hpl:(backTo pos (starEach es X.env)).any (·.1)=false:=by rfl):PE X (.Call (.Name x p) (e::es) [] pos) (tCB r t):=by
 intro pins s σ H Q I h
 refine wpAny_Call_Name_kw (ww I hg hm hv ?_ hn hdb)
 exact PyProof.Rows.callWith_type1 (thn (ha pos pins s σ H _ I h) fun us s1 ⟨vs,H1,I1,r1,q1⟩=>hc pins s1 σ H1 vs us Q I1 r1 q1) he hpl
end
end L2
namespace HT
open PySem PyProof.Rows
section
open PySem.SeqAt
open PySem.AutoSeq1 (wpAny_loadPart')
open PySem.MeetsSeq PySem.MeetsSeq2 PySem.MeetsSeq3
end
section
variable {prog:Program} {w:World} {A:Around} {E:Value→Shared→Prop} {s:Shared}
def sIx (n d:Nat):Option Int→Nat
 | none=>d
 | some v=>if v<0 then (v+(n:Int)).toNat else min v.toNat n
theorem sIx_nat (n d k:Nat):sIx n d (some (k:Int))=min k n:=by
 show (if (k:Int)<0 then ((k:Int)+(n:Int)).toNat else min (k:Int).toNat n)=min k n
 rw [if_neg (by omega),Int.toNat_natCast]
end
end HT
namespace L2
open PySem PySem.Spec PyProof.Rows
abbrev TO:=St→Hp→(Option Int→Hp→Prop)→Prop
def PO (X:Cx) (e:Option Expr) (t:TO):Prop:=
 ∀ (pins:List (Addr × Obj)) (s:Shared) (σ:St) (H:Hp) (Q:Option Int→Hp→Prop),Inv X pins σ H s→t σ H Q→
  wpAny (model X.prog X.w) X.A (evalPart e X.env) (fun u s'=>∃ o H',Inv X pins σ H' s'∧IsPart u o∧Q o H') X.xe s
def VQ (t:TE):TO:=fun σ H Q=>t σ H fun x H1=>∃ i,x=.int i∧Q (some i) H1
section
variable {X:Cx} {e:Expr} {te:TE} {lo hi:Option Expr} {tl th:TO} {pos p2:Pos}
theorem aR (h:PE X e te):PO X (some e) (VQ te):=by
 intro pins s σ H Q I hw
 rw [evalPart_some]
 refine thn (h pins s σ H _ I hw) fun u s1 ⟨x,H1,I1,r1,q1⟩=>?_
 obtain ⟨i,rfl,q⟩:=q1
 obtain ⟨t,rfl⟩:=r1
 exact ⟨some i,H1,I1,.int i t,q⟩
def SlR (X:Cx) (r:V→Option Int→Option Int→Hp→VK→Prop):Prop:=
 ∀ (pins:List (Addr × Obj)) (s:Shared) (σ:St) (H:Hp) (x:V) (v vl vu:Value) (lo hi:Option Int) (sl:Addr) (Q:VK),Inv X pins σ H s→RelV x v→s.heap.IsSliceOf sl vl vu .none→IsPart vl lo→IsPart vu hi→r x lo hi H Q→
  ∃ T id,typeLookup (.type T) "__getitem__"=pure (some (.builtin id))∧s.TypeIs v T∧wpAny (model X.prog X.w) X.A (getItem v (.ref sl)) (EP X pins σ Q) X.xe s
theorem SlR.or {r r':V→Option Int→Option Int→Hp→VK→Prop} (h:SlR X r) (h':SlR X r'):SlR X (fun x lo hi H Q=>r x lo hi H Q∨r' x lo hi H Q):=by
 intro pins s σ H x v vl vu lo hi sl Q I rx hs pl pu q
 rcases q with q | q
 ·exact h pins s σ H x v vl vu lo hi sl Q I rx hs pl pu q
 ·exact h' pins s σ H x v vl vu lo hi sl Q I rx hs pl pu q
def tSl (r:V→Option Int→Option Int→Hp→VK→Prop) (te:TE) (tl th:TO):TE:=fun σ H Q=>te σ H fun x H1=>tl σ H1 fun l H2=>th σ H2 fun u H3=>r x l u H3 Q
theorem dX {r:V→Option Int→Option Int→Hp→VK→Prop} (hr:SlR X r) (he:PE X e te) (hl:PO X lo tl) (hu:PO X hi th):PE X (.Subscript e (.Slice lo hi none p2) pos) (tSl r te tl th):=by
 intro pins s σ H Q I h
 refine Subscript_ (thn (he pins s σ H _ I h) fun v s1 ⟨x,H1,I1,r1,q1⟩=>?_)
 refine wpAny_Slice (thn (hl pins s1 σ H1 _ I1 q1) fun vl s2 ⟨l,H2,I2,pl,q2⟩=>thn (hu pins s2 σ H2 _ I2 q2) fun vu s3 ⟨u,H3,I3,pu,q3⟩=>?_)
 rw [evalPart_none]
 refine wpAny_pure ?_
 have I4:Inv X pins σ H3 { s3 with heap:=s3.heap.push { cls:=.type "slice",data:=.fields #[vl,vu,.none] } }:=I3.kept (t':=s3.toks) fun b ob q=>Heap.get?_push_of_some _ q
 obtain ⟨T,id,hT,ht,hg⟩:=hr pins { s3 with heap:=s3.heap.push { cls:=.type "slice",data:=.fields #[vl,vu,.none] } } σ H3 x v vl vu l u s3.heap.objs.size Q I4 r1 (Heap.IsSliceOf.new ..) pl pu q3
 show wpAny (model X.prog X.w) X.A (subscriptTail e (.Slice lo hi none p2) v (.ref s3.heap.objs.size)) (EP X pins σ Q) X.xe { s3 with heap:=s3.heap.push { cls:=.type "slice",data:=.fields #[vl,vu,.none] } }
 exact tail_any (ops:=[.ref s3.heap.objs.size,v]) ht hT hg (by with_unfolding_all rfl)
def ip (xs:List V) (lo hi:Option Int):List V:=(xs.drop (HT.sIx xs.length 0 lo)).take (HT.sIx xs.length xs.length hi - HT.sIx xs.length 0 lo)
theorem lS (xs:List V) (lo hi:Option Int):(ip xs lo hi).length≤xs.length:=by
 unfold ip
 rw [List.length_take,List.length_drop]
 omega
end
end L2
namespace L2
open PySem PySem.Spec PyProof.Rows
def ixN (n:Nat) (i:Int):Option Nat:=if 0≤i then (if i<n then some i.toNat else none) else if -(n:Int)≤i then some (i+n).toNat else none
def atI {α:Type} (xs:List α) (i:Int):Option α:=(ixN xs.length i).bind fun j=>xs[j]?
theorem iY {n:Nat} {i:Int} {j:Nat} (h:ixN n i=some j):seqIndex? i n=some j∧j<n∧-(n:Int)≤i∧i<n:=by
 unfold ixN at h
 by_cases h0:0≤i
 ·rw [if_pos h0] at h
  by_cases h1:i<n
  ·rw [if_pos h1] at h
   have e:i.toNat=j:=Option.some.inj h
   exact ⟨by rw [seqIndex_of h0 h1,e],by omega,by omega,h1⟩
  ·rw [if_neg h1] at h; cases h
 ·rw [if_neg h0] at h
  by_cases h1:-(n:Int)≤i
  ·rw [if_pos h1] at h
   have e:(i+n).toNat=j:=Option.some.inj h
   exact ⟨by rw [seqIndex_neg (by omega) h1,e],by omega,h1,by omega⟩
  ·rw [if_neg h1] at h; cases h
theorem n0 {α:Type} {xs:List α} {i:Int} {v:α} (h:atI xs i=some v):∃ j,seqIndex? i xs.length=some j∧xs[j]? = some v∧j<xs.length∧-(xs.length:Int)≤i∧i<xs.length:=by
 unfold atI at h
 cases e:ixN xs.length i with
 | none=>rw [e] at h; cases h
 | some j=>
  rw [e] at h
  obtain ⟨h1,h2,h3,h4⟩:=iY e
  exact ⟨j,h1,h,h2,h3,h4⟩
theorem wE {α:Type} {xs:List α} {j:Nat} {v:α} (h:xs[j]? = some v):atI xs (j:Int)=some v:=by
 have hj:j<xs.length:=(List.getElem?_eq_some_iff.mp h).1
 have e:ixN xs.length (j:Int)=some j:=by
  unfold ixN
  rw [if_pos (by omega),if_pos (by omega)]; simp
 unfold atI; rw [e]; exact h
theorem vg {α:Type} (xs:List α) (v:α):atI (xs++[v]) (-1)=some v:=by
 have hl:(xs++[v]).length=xs.length+1:=by simp
 have e:ixN (xs++[v]).length (-1)=some xs.length:=by
  unfold ixN
  rw [hl,if_neg (by decide),if_pos (by omega)]
  congr 1
  omega
 unfold atI
 rw [e]
 show (xs++[v])[xs.length]? = some v
 simp
def rg (b:Expr):Prop:=∀ o i,subscripted b false o i=operate [o,i] (getItem o i)
def IxR (X:Cx) (r:R2):Prop:=
 ∀ (value slice:Expr) (pins:List (Addr × Obj)) (s:Shared) (σ:St) (H:Hp) (x y:V) (v u:Value) (Q:VK),Inv X pins σ H s→RelV x v→RelV y u→r x y H Q→
  subscripted slice false v u=operate [v,u] (getItem v u)→wpAny (model X.prog X.w) X.A (subscriptTail value slice v u) (EP X pins σ Q) X.xe s
def MtR (X:Cx) (id:String) (r:V→List V→Hp→VK→Prop):Prop:=
 ∀ (pins:List (Addr × Obj)) (s:Shared) (σ:St) (H:Hp) (x:V) (xs:List V) (v:Value) (us:List Value) (Q:VK),Inv X pins σ H s→RelV x v→Vals xs us→r x xs H Q→
  wpAny (model X.prog X.w) X.A (call (.builtin id) (v::us)) (EP X pins σ Q) X.xe s
section
variable {X:Cx} {a b:Expr} {ta tb:TE} {pos:Pos}
theorem IxR.or {r r':R2} (h:IxR X r) (h':IxR X r'):IxR X (fun x y H Q=>r x y H Q∨r' x y H Q):=by
 intro value slice pins s σ H x y v u Q I rx ry q hs
 rcases q with q | q
 ·exact h value slice pins s σ H x y v u Q I rx ry q hs
 ·exact h' value slice pins s σ H x y v u Q I rx ry q hs
theorem MtR.or {id:String} {r r':V→List V→Hp→VK→Prop} (h:MtR X id r) (h':MtR X id r'):MtR X id (fun x xs H Q=>r x xs H Q∨r' x xs H Q):=by
 intro pins s σ H x xs v us Q I rx rs q
 rcases q with q | q
 ·exact h pins s σ H x xs v us Q I rx rs q
 ·exact h' pins s σ H x xs v us Q I rx rs q
theorem d3 {r:R2} (hr:IxR X r) (ha:PE X a ta) (hb:PE X b tb) (hs:rg b):PE X (.Subscript a b pos) (tOp r ta tb):=by
 intro pins s σ H Q I h
 exact Subscript_ (VH ha hb I h fun v u s2 x y H2 I2 rx ry q=>hr a b pins s2 σ H2 x y v u Q I2 rx ry q (hs _ _))
def V7 (K:PySem.W.Frag):R2:=fun x y H Q=>∃ p xs i v,x=.ref p∧y=.int i∧SqL K H p xs∧atI xs i=some v∧Q v H
def V5 (K:PySem.W.Frag):R2:=fun x y H Q=>∃ p xs i v,x=.ref p∧y=.int i∧SqT K H p xs∧atI xs i=some v∧Q v H
def V6:R2:=fun x y H Q=>∃ z i c,x=.str z∧y=.int i∧z.length≤sizeLine∧atI z.cps.toList i=some c∧Q (.str ⟨#[c]⟩) H
theorem ix_list:IxR X (V7 X.K):=by
 intro value slice pins s σ H x y v u Q I rx ry h hs
 obtain ⟨p,xs,i,z,rfl,rfl,hq,he,q⟩:=h
 cases rx
 obtain ⟨t,rfl⟩:=ry
 obtain ⟨its,r,pl,hz⟩:=I.list hq
 obtain ⟨j,h1,h2,h3,h4,h5⟩:=n0 he
 obtain ⟨w,ew,rw'⟩:=r.get h2
 have hl:=r.length
 have hn:=vY
 have fin:EP X pins σ Q w s:=⟨z,H,I,rw',q⟩
 by_cases h0:0≤i
 ·have hj:i.toNat=j:=by
   rw [seqIndex_of h0 h5] at h1
   exact Option.some.inj h1
  exact item_listR pl.isList h0 (by omega) (by rw [hj]; simpa using ew) fin hs
 ·have hj:(i+(its.toArray.size:Int)).toNat=j:=by
   rw [seqIndex_neg (by omega) h4] at h1
   rw [List.size_toArray,← hl]
   exact Option.some.inj h1
  exact subscriptTail_builtinR (x:=w) pl.isList.typeIs slot_list_getitem.lookup
   (wpAny_getItem_list_neg (Q:=fun r s'=>r=w∧EP X pins σ Q r s') pl.isList (by omega) (by rw [List.size_toArray] <;> omega) (by omega) (by rw [hj]; simpa using ew) ⟨rfl,fin⟩) hs
theorem ix_tup:IxR X (V5 X.K):=by
 intro value slice pins s σ H x y v u Q I rx ry h hs
 obtain ⟨p,xs,i,z,rfl,rfl,hq,he,q⟩:=h
 cases rx
 obtain ⟨t,rfl⟩:=ry
 obtain ⟨its,r,pl,hz⟩:=I.tuple hq
 obtain ⟨j,h1,h2,h3,h4,h5⟩:=n0 he
 obtain ⟨w,ew,rw'⟩:=r.get h2
 have hl:=r.length
 have hn:=vY
 have fin:EP X pins σ Q w s:=⟨z,H,I,rw',q⟩
 exact subscriptTail_builtinR (x:=w) pl.typeIs slot_tuple_getitem.lookup
  (getItem_tuple (j:=j) (Q:=fun r s'=>r=w∧EP X pins σ Q r s') pl (by omega) (by omega) (by rw [List.size_toArray,← hl]; exact h1) (by simpa using ew) ⟨rfl,fin⟩) hs
theorem Va:IxR X V6:=by
 intro value slice pins s σ H x y v u Q I rx ry h hs
 obtain ⟨z,i,c,rfl,rfl,hz,he,q⟩:=h
 obtain ⟨t,rfl⟩:=rx
 obtain ⟨t',rfl⟩:=ry
 obtain ⟨j,h1,h2,h3,h4,h5⟩:=n0 he
 have hl:z.cps.toList.length=z.length:=by simp [Str.length]
 rw [hl] at h1 h4 h5
 have hn:=vY
 exact tail_any (typeIs_str s z t) slot_str_getitem.lookup (getItem_str (c:=c) (by
  have e1:decide (i < -(2 ^ 63:Int))=false:=decide_eq_false (by omega)
  have e2:decide (i ≥ 2 ^ 63)=false:=decide_eq_false (by omega)
  rw [e1,e2,Bool.or_false]) (by rw [h1]; simpa using h2) ⟨.str ⟨#[c]⟩,H,I.tok _,⟨_,rfl⟩,q⟩) hs
def rIx (K:PySem.W.Frag):R2:=fun x y H Q=>V7 K x y H Q∨V5 K x y H Q∨V6 x y H Q
theorem bq:IxR X (rIx X.K):=ix_list.or (ix_tup.or Va)
theorem jC (its:List Value) (n j:Nat) (u:Value):Obj.mapSeq (·.setIfInBounds j u) { cls:=.type "list",data:=.seq its.toArray n }={ cls:=.type "list",data:=.seq (its.set j u).toArray n }:=by
 simp [Obj.mapSeq]
theorem Inv.lst {pins:List (Addr × Obj)} {σ:St} {H:Hp} {s:Shared} {p:Addr} {xs:List V} (I:Inv X pins σ H s) (h:H p=some (.lst xs)):
  ∃ (its:List Value) (n:Nat),Vals xs its∧s.heap.get? p=some { cls:=.type "list",data:=.seq its.toArray n }∧xs.length≤sizeLine:=by
 obtain ⟨z,its,n,r,e⟩:=I.hok p _ h
 exact ⟨its,n,r,e,z⟩
theorem Inv.lstUpd {pins:List (Addr × Obj)} {σ:St} {H:Hp} {s:Shared} {p:Addr} {xs ys:List V} {its its':List Value} {n n':Nat} {f:Obj→Obj} (I:Inv X pins σ H s) (h:H p=some (.lst xs))
  (ho:s.heap.get? p=some { cls:=.type "list",data:=.seq its.toArray n }) (hf:f { cls:=.type "list",data:=.seq its.toArray n }={ cls:=.type "list",data:=.seq its'.toArray n' }) (r:Vals ys its') (hz:ys.length≤sizeLine) (t:Nat):
  Inv X pins σ (upd H p (.lst ys)) { s with heap:=s.heap.update p f,toks:=t }:=by
 have e:(s.heap.update p f).get? p=some { cls:=.type "list",data:=.seq its'.toArray n' }:=by
  rw [Heap.get?_update_self f ho (by rw [hf] <;> rfl),hf]
 refine I.write (x:=p) (e:=p) (by rw [h]; trivial) (.inl rfl) (fun b u hb q=>(Heap.get?_update_other _ _ (Ne.symm hb)).trans q) ⟨_,e⟩ ?_
 exact ⟨hz,its',n',r,e⟩
def V4:V→V→V→Hp→(Hp→Prop)→Prop:=fun o i v H Q=>∃ p xs k j,o=.ref p∧i=.int k∧H p=some (.lst xs)∧ixN xs.length k=some j∧Q (upd H p (.lst (xs.set j v)))
theorem mv:VL X V4:=by
 intro pins s σ H o i v ov iv u Q I ro ri rv h
 obtain ⟨p,xs,k,j,rfl,rfl,hp,hj,q⟩:=h
 cases ro
 obtain ⟨t,rfl⟩:=ri
 obtain ⟨its,n,r,ho,hz⟩:=I.lst hp
 obtain ⟨h1,h2,h3,h4⟩:=iY hj
 have hl:=r.length
 have hn:=vY
 have I':Inv X pins σ (upd H p (.lst (xs.set j v))) { s with heap:=s.heap.update p (Obj.mapSeq (·.setIfInBounds j u)) }:=
  I.lstUpd hp ho (jC its n j u) (r.set rv j) (by rw [List.length_set]; exact hz) s.toks
 by_cases h0:0≤k
 ·have hk:k.toNat=j:=by
   rw [seqIndex_of h0 h4] at h1
   exact Option.some.inj h1
  exact PySem.W.ki_setAt ho h0 (by omega) (by rw [List.size_toArray,← hl]; exact h4) (by rw [hk]; exact ⟨_,I',q⟩)
 ·have hk:(k+(its.toArray.size:Int)).toNat=j:=by
   rw [seqIndex_neg (by omega) h3] at h1
   rw [List.size_toArray,← hl]
   exact Option.some.inj h1
  exact PySem.W.ki_setBack ho (by omega) (by rw [List.size_toArray,← hl]; exact h3) (by omega) (by rw [hk]; exact ⟨_,I',q⟩)
theorem oP (lo hi:Option Int) (n:Nat):(sliceBounds lo hi none n).1=((HT.sIx n 0 lo:Nat):Int)∧(sliceBounds lo hi none n).2.1=((HT.sIx n n hi:Nat):Int)∧(sliceBounds lo hi none n).2.2=1:=by
 refine ⟨?_,?_,rfl⟩
 ·cases lo with
  | none=>simp [sliceBounds,HT.sIx]
  | some i=>
   simp only [sliceBounds,HT.sIx,Option.getD_none,show (1:Int)>0 by decide,if_true]
   by_cases h:i<0
   ·simp only [h,if_true] <;> omega
   ·simp only [h,if_false] <;> omega
 ·cases hi with
  | none=>simp [sliceBounds,HT.sIx]
  | some i=>
   simp only [sliceBounds,HT.sIx,Option.getD_none,show (1:Int)>0 by decide,if_true]
   by_cases h:i<0
   ·simp only [h,if_true] <;> omega
   ·simp only [h,if_false] <;> omega
theorem qG (its:List Value) (lo hi:Option Int):slicePick its.toArray lo hi none=((its.drop (HT.sIx its.length 0 lo)).take (HT.sIx its.length its.length hi - HT.sIx its.length 0 lo)).toArray:=by
 obtain ⟨h1,h2,h3⟩:=oP lo hi its.toArray.size
 unfold slicePick
 rw [h1,h2,h3]
 simp only [sliceRange_one,pick_run,List.size_toArray] <;> rfl
def Rq (K:PySem.W.Frag):V→Option Int→Option Int→Hp→VK→Prop:=fun x lo hi H Q=>∃ a xs,x=.ref a∧SqL K H a xs∧∀ p,H p=none→Q (.ref p) (upd H p (.lst (ip xs lo hi)))
theorem aF:SlR X (Rq X.K):=by
 intro pins s σ H x v vl vu lo hi sl Q I rx hs pl pu h
 obtain ⟨a,xs,rfl,hx,q⟩:=h
 cases rx
 obtain ⟨its,r,ht,hz⟩:=I.list hx
 have hlen:=r.length
 refine ⟨"list",_,slot_list_getitem.lookup,ht.isList.typeIs,?_⟩
 refine wpAny_getItem_list_slice ht.isList hs pl pu .none (by simp) ?_ (by rw [List.size_toArray] <;> omega)
 rw [qG,← hlen]
 refine ⟨.ref s.heap.objs.size,_,I.laid (t':=s.toks) (o:=.lst (ip xs lo hi)) (fun b ob q=>Heap.get?_push_of_some _ q) (Nat.le_refl _) ?_,rfl,q _ (I.hok.fresh (Nat.le_refl _))⟩
 exact ⟨Nat.le_trans (lS xs lo hi) hz,_,0,(r.drop (HT.sIx xs.length 0 lo)).take (HT.sIx xs.length xs.length hi - HT.sIx xs.length 0 lo),Heap.get?_push_size _ rfl⟩
def hG:V→Bool
 | .non=>true
 | .bl _=>true
 | .int _=>true
 | .str _=>true
 | _=>false
def eqV:V→V→Bool
 | .non,.non=>true
 | .bl a,.bl b=>a == b
 | .bl a,.int b=>(if a then 1 else 0) == b
 | .int a,.bl b=>a == (if b then 1 else 0)
 | .int a,.int b=>a == b
 | .str a,.str b=>a == b
 | _,_=>false
theorem bI {A:Around} {s:Shared} {y x:V} {u v:Value} (ry:RelV y u) (rx:RelV x v) (fy:hG y=true) (fx:hG x=true):SeqAt.EqAt A s u v (eqV y x):=by
 cases y with
 | non=>
  cases ry
  cases x with
  | non=>cases rx; exact SeqAt.EqAt.same _
  | bl b=>cases rx; exact SeqAt.EqAt.none_bool b
  | int b=>obtain ⟨t,rfl⟩:=rx; exact SeqAt.EqAt.none_int b t
  | str b=>obtain ⟨t,rfl⟩:=rx; exact SeqAt.EqAt.none_str b t
  | _=>exact absurd (show false=true from fx) Bool.false_ne_true
 | bl a=>
  cases ry
  cases x with
  | non=>cases rx; exact SeqAt.EqAt.bool_none a
  | bl b=>cases rx; exact SeqAt.EqAt.bool_bool a b
  | int b=>obtain ⟨t,rfl⟩:=rx; exact SeqAt.EqAt.bool_int a b t
  | str b=>obtain ⟨t,rfl⟩:=rx; exact SeqAt.EqAt.bool_str a b t
  | _=>exact absurd (show false=true from fx) Bool.false_ne_true
 | int a=>
  obtain ⟨t',rfl⟩:=ry
  cases x with
  | non=>cases rx; exact SeqAt.EqAt.int_none a t'
  | bl b=>cases rx; exact SeqAt.EqAt.int_bool a t' b
  | int b=>obtain ⟨t,rfl⟩:=rx; exact SeqAt.EqAt.int_int a t' b t
  | str b=>obtain ⟨t,rfl⟩:=rx; exact SeqAt.EqAt.int_str a t' b t
  | _=>exact absurd (show false=true from fx) Bool.false_ne_true
 | str a=>
  obtain ⟨t',rfl⟩:=ry
  cases x with
  | non=>cases rx; exact SeqAt.EqAt.str_none a t'
  | bl b=>cases rx; exact SeqAt.EqAt.str_bool a t' b
  | int b=>obtain ⟨t,rfl⟩:=rx; exact SeqAt.EqAt.str_int a t' b t
  | str b=>obtain ⟨t,rfl⟩:=rx; exact SeqAt.EqAt.str_str a t' b t
  | _=>exact absurd (show false=true from fx) Bool.false_ne_true
 | _=>exact absurd (show false=true from fy) Bool.false_ne_true
theorem wD:CallR X (.builtin "len") (fun xs H Q=>∃ p ys,xs=[.ref p]∧(SqL X.K H p ys∨SqT X.K H p ys)∧Q (.int ys.length) H):=by
 intro pins s σ H xs us Q I r h
 obtain ⟨p,ys,rfl,hq,q⟩:=h
 obtain ⟨u,rfl,rx⟩:=Yz r
 cases rx
 have hn:=vY
 rcases hq with hq | hq
 ·obtain ⟨its,r',pl,hz⟩:=I.list hq
  have hlen:=r'.length
  exact Calls.call_len_list pl.isList (by simp only [List.size_toArray] <;> omega) ⟨.int ys.length,H,I.tok _,⟨s.toks + 1,by rw [List.size_toArray,hlen]⟩,q⟩
 ·obtain ⟨its,r',pl,hz⟩:=I.tuple hq
  have hlen:=r'.length
  exact len_tuple pl (by simp only [List.size_toArray] <;> omega) ⟨.int ys.length,H,I.tok _,⟨s.toks + 1,by rw [List.size_toArray,hlen]⟩,q⟩
theorem CallR.or {f:Value} {r r':List V→Hp→VK→Prop} (h:CallR X f r) (h':CallR X f r'):CallR X f (fun xs H Q=>r xs H Q∨r' xs H Q):=by
 intro pins s σ H xs us Q I rs q
 rcases q with q | q
 ·exact h pins s σ H xs us Q I rs q
 ·exact h' pins s σ H xs us Q I rs q
theorem uz:CallR X (.type "list") (fun xs H Q=>∃ p ys,xs=[.ref p]∧(SqL X.K H p ys∨SqT X.K H p ys)∧∀ l,H l=none→Q (.ref l) (upd H l (.lst ys))):=by
 intro pins s σ H xs us Q I r h
 obtain ⟨p,ys,rfl,hq,q⟩:=h
 obtain ⟨u,rfl,rx⟩:=Yz r
 cases rx
 have fin:∀ (its:List Value),Vals ys its→ys.length≤sizeLine→∀ (h':Heap) (c':Nat),(∀ b o',s.heap.get? b=some o'→h'.get? b=some o')→
   h'.get? s.heap.objs.size=some { cls:=.type "list",dict:=none,data:=.seq its.toArray c',slots:=#[] }→EP X pins σ Q (.ref s.heap.objs.size) { s with heap:=h' }:=fun its r' hz h' c' kp e=>
  ⟨.ref s.heap.objs.size,_,I.laid (t':=s.toks) kp (Nat.le_refl _) (show ObjOk X.prog X.w _ h' _ (.lst ys) from ⟨hz,its,c',r',e⟩),rfl,q _ (I.hok.fresh (Nat.le_refl _))⟩
 rcases hq with hq | hq
 ·obtain ⟨its,r',pl,hz⟩:=I.list hq
  have hlen:=r'.length
  obtain ⟨o,ho,hc,n,hd⟩:=pl.isList
  exact call_list_seq p (.inl rfl) ho hc hd (fun h' c' kp e=>fin its r' hz h' c' kp e) (by simp only [List.size_toArray] <;> omega)
 ·obtain ⟨its,r',pl,hz⟩:=I.tuple hq
  have hlen:=r'.length
  obtain ⟨o,ho,hc,n,hd⟩:=pl
  exact call_list_seq p (.inr rfl) ho hc hd (fun h' c' kp e=>fin its r' hz h' c' kp e) (by simp only [List.size_toArray] <;> omega)
def tyV (K:PySem.W.Frag) (T:String) (x:V) (H:Hp):Prop:=match x with
 | .str _=>T="str"
 | .int _=>T="int"
 | .ref p=>(T="list"∧∃ xs,SqL K H p xs)∨(T="tuple"∧∃ o,K.lookup p=some o∧o.cls=.type "tuple"∧o.dict=none)∨
   (T="dict"∧((∃ kvs,H p=some (.dK kvs))∨∃ kvs,H p=some (.dT kvs)))∨(T="set"∧∃ S n,H p=some (.set S n))
 | _=>False
theorem e8 {pins:List (Addr × Obj)} {σ:St} {H:Hp} {s:Shared} {T:String} {x:V} {v:Value} (I:Inv X pins σ H s) (r:RelV x v) (ty:tyV X.K T x H):
  s.TypeIs v T∧∀ a,v=.ref a→∃ ob,s.heap.get? a=some ob∧ob.dict=none:=by
 cases x with
 | str z=>
  obtain ⟨t,rfl⟩:=r
  cases (show T="str" from ty)
  exact ⟨typeIs_str s z t,fun _ e=>nomatch e⟩
 | int i=>
  obtain ⟨t,rfl⟩:=r
  cases (show T="int" from ty)
  exact ⟨typeIs_int s i t,fun _ e=>nomatch e⟩
 | ref p=>
  cases r
  rcases ty with ⟨rfl,xs,hq⟩ | ⟨rfl,o,hk,hc,hd⟩ | ⟨rfl,hk⟩ | ⟨rfl,S,n,hk⟩
  ·obtain ⟨its,_,pl,_⟩:=I.list hq
   refine ⟨pl.isList.typeIs,fun a e=>?_⟩
   cases e
   obtain ⟨o,n,e,c,hd,_⟩:=pl
   exact ⟨o,e,hd⟩
  ·refine ⟨⟨o,I.kIn p o hk,hc⟩,fun a e=>?_⟩
   cases e
   exact ⟨o,I.kIn _ o hk,hd⟩
  ·have z:∃ o,s.heap.get? p=some o∧o.ExactDict:=by
    rcases hk with ⟨kvs,hk⟩ | ⟨kvs,hk⟩
    ·obtain ⟨_,_,_,_,o,_,_,e,ex,_⟩:=I.hok p _ hk
     exact ⟨o,e,ex⟩
    ·obtain ⟨_,_,_,_,o,_,_,e,ex,_⟩:=I.hok p _ hk
     exact ⟨o,e,ex⟩
   obtain ⟨o,e,ex⟩:=z
   refine ⟨⟨o,e,ex.1⟩,fun a e2=>?_⟩
   cases e2
   exact ⟨o,e,ex.2.1⟩
  ·obtain ⟨o,_,_,_,e,ex,_⟩:=I.hok p _ hk
   refine ⟨⟨o,e,ex.1⟩,fun a e2=>?_⟩
   cases e2
   exact ⟨o,e,ex.2.1⟩
 | _=>exact False.elim ty
def Rk (K:PySem.W.Frag) (T:String) (r:V→List V→Hp→VK→Prop) (to:TE):TE:=fun σ H Q=>to σ H fun x H1=>tyV K T x H1∧r x [] H1 Q
def tBM (K:PySem.W.Frag) (T:String) (r:V→List V→Hp→VK→Prop) (to:TE) (t:TA):TE:=fun σ H Q=>to σ H fun x H1=>tyV K T x H1∧t σ H1 fun xs H2=>r x xs H2 Q
variable {o e:Expr} {es:List Expr} {to:TE} {t:TA} {name:Str} {apos cpos:Pos} {T id:String} {r:V→List V→Hp→VK→Prop}
theorem XM (pa:PlainAttrs T) (slot:Slot T name id) (hty:typeOf (.builtin id)=pure (.type "method_descriptor")) (hm:MtR X id r) (ho:PE X o to)
  (hbase:attributeBase o name X.env (eval o X.env)=eval o X.env:=by rfl) (hline:(apos.endLine == cpos.line)=true:=by rfl):PE X (.Call (.Attribute o name apos) [] [] cpos) (Rk X.K T r to):=by
 intro pins s σ H Q I h
 refine wpAny_Call_method0_late hbase hline (thn (ho pins s σ H _ I h) fun v s1 ⟨x,H1,I1,r1,ty,q1⟩=>?_)
 obtain ⟨h1,h2⟩:=e8 I1 r1 ty
 exact ⟨T,id,pa,slot,hty,h1,h2,Calls.callWith_builtin rfl (PySem.evalArgs_none (hm pins s1 σ H1 x [] v [] Q I1 r1 .nil q1))⟩
theorem d8 (pa:PlainAttrs T) (slot:Slot T name id) (hty:typeOf (.builtin id)=pure (.type "method_descriptor")) (hm:MtR X id r) (ho:PE X o to) (ha:PA X (e::es) t)
  (hbase:attributeBase o name X.env (eval o X.env)=eval o X.env:=by rfl)
  (hfew:((backTo cpos (starEach (e::es) X.env)).all (fun x=>!x.1) && (backToKw cpos (keywordEach [] X.env)).all (fun x=>x.1.isSome)
   && decide ((e::es).length+([]:List Keyword).length+(if ([]:List Keyword).isEmpty then 0 else 1)<30))=true:=by rfl)
  (hline:(apos.endLine == cpos.line)=true:=by rfl) (hs:starEach (e::es) X.env=(false,eval e X.env)::starEach es X.env:=by rfl) (hplain:(backTo cpos (starEach es X.env)).any (·.1)=false:=by rfl):
  PE X (.Call (.Attribute o name apos) (e::es) [] cpos) (tBM X.K T r to t):=by
 intro pins s σ H Q I h
 refine wpAny_Call_method_late hbase hfew hline rfl (thn (ho pins s σ H _ I h) fun v s1 ⟨x,H1,I1,r1,ty,q1⟩=>?_)
 obtain ⟨h1,h2⟩:=e8 I1 r1 ty
 refine ⟨T,id,pa,slot,hty,h1,h2,?_⟩
 have hA:=ha cpos pins s1 σ H1 _ I1 q1
 rw [hs] at hA ⊢
 refine Calls.callWith_builtin (by show (false || (backTo cpos (starEach es X.env)).any (·.1))=false; rw [hplain] <;> rfl) (Calls.evalArgs_plain ?_)
 exact thn hA fun us s2 ⟨vs,H2,I2,r2,q2⟩=>hm pins s2 σ H2 x vs v us Q I2 r1 r2 q2
end
end L2
namespace L2
open PySem PySem.Spec PyProof.Rows
def MtM (X:Cx) (id:String) (r:V→List V→Hp→VK→Prop):Prop:=
 ∀ (pins:List (Addr × Obj)) (s:Shared) (σ:St) (H:Hp) (x:V) (xs:List V) (v:Value) (us:List Value) (Q:VK),Inv X pins σ H s→RelV x v→Vals xs us→r x xs H Q→
  wpAny (model X.prog X.w) X.A (call (.builtin id) (v::us)) (EP X pins σ Q) X.xe s
theorem Vals.one:∀ {x:V} {us:List Value},Vals [x] us→∃ u,us=[u]∧RelV x u
 | _,_,.cons r .nil=>⟨_,rfl,r⟩
theorem Vals.two:∀ {x y:V} {us:List Value},Vals [x,y] us→∃ u v,us=[u,v]∧RelV x u∧RelV y v
 | _,_,_,.cons r (.cons q .nil)=>⟨_,_,rfl,r,q⟩
theorem Vals.zero:∀ {us:List Value},Vals [] us→us=[]
 | _,.nil=>rfl
theorem Vals.dropLast {xs:List V} {us:List Value} (h:Vals xs us):Vals xs.dropLast us.dropLast:=by
 induction h with
 | nil=>exact .nil
 | cons r t ih=>
  cases t with
  | nil=>exact .nil
  | cons q t'=>exact .cons r ih
theorem Vals.eraseIdx:∀ {xs:List V} {us:List Value} (i:Nat),Vals xs us→Vals (xs.eraseIdx i) (us.eraseIdx i)
 | _,_,_,.nil=>.nil
 | _,_,0,.cons _ t=>t
 | _,_,i+1,.cons r t=>.cons r (Vals.eraseIdx i t)
theorem Vals.reverse {xs:List V} {us:List Value} (h:Vals xs us):Vals xs.reverse us.reverse:=by
 induction h with
 | nil=>exact .nil
 | cons r t ih=>rw [List.reverse_cons,List.reverse_cons]; exact Vals.append ih (.cons r .nil)
theorem Vals.rep {xs:List V} {us:List Value} (h:Vals xs us):∀ k:Nat,Vals (List.replicate k xs).flatten (List.replicate k us).flatten
 | 0=>.nil
 | k+1=>by
  rw [List.replicate_succ,List.replicate_succ,List.flatten_cons,List.flatten_cons]
  exact Vals.append h (Vals.rep h k)
theorem j8 {α:Type} (l:List α):l.eraseIdx (l.length - 1)=l.dropLast:=by
 induction l with
 | nil=>rfl
 | cons a r ih=>
  cases r with
  | nil=>rfl
  | cons b r=>
   have e:(a::b::r).length - 1=((b::r).length - 1)+1:=by
    have h1:(a::b::r).length=r.length+2:=rfl
    have h2:(b::r).length=r.length+1:=rfl
    omega
   rw [e,List.eraseIdx_cons_succ,ih]
   all_goals rfl
theorem oz (its:List Value):∀ (k:Nat) (acc:List Value),
  List.foldl (fun x1 x2=>x1++x2) acc.toArray (List.replicate k its.toArray)=(acc++(List.replicate k its).flatten).toArray
 | 0,acc=>by simp
 | k+1,acc=>by
  have e:acc.toArray++its.toArray=(acc++its).toArray:=by simp
  have e2:(acc++its)++(List.replicate k its).flatten=acc++(List.replicate (k+1) its).flatten:=by
   rw [List.replicate_succ,List.flatten_cons,List.append_assoc]
  rw [← e2,← oz its k (acc++its),← e,List.replicate_succ,List.foldl_cons]
section
variable {X:Cx} {pins:List (Addr × Obj)} {σ:St} {H:Hp} {s:Shared} {l b:Addr} {xs ys zs:List V}
theorem Inv.lset {its its':List Value} {n:Nat} {f:Array Value→Array Value} {t':Nat} (I:Inv X pins σ H s) (hH:H l=some (.lst xs))
  (e:s.heap.get? l=some { cls:=.type "list",data:=.seq its.toArray n }) (hf:f its.toArray=its'.toArray) (hv:Vals ys its') (hz:ys.length≤sizeLine):
  Inv X pins σ (upd H l (.lst ys)) { s with heap:=s.heap.update l (Obj.mapSeq f),toks:=t' }:=by
 have q:=PySem.IsL.update e f
 rw [hf] at q
 refine I.write (x:=l) (e:=l) (by rw [hH]; exact trivial) (.inl rfl) (fun b' u hb hu=>(Heap.get?_update_other s.heap (Obj.mapSeq f) (Ne.symm hb)).trans hu) ⟨_,q⟩ ?_
 exact ⟨hz,its',_,hv,q⟩
theorem Inv.lnew {its:List Value} {t':Nat} (I:Inv X pins σ H s) (hv:Vals ys its) (hz:ys.length≤sizeLine):
  Inv X pins σ (upd H s.heap.objs.size (.lst ys)) { s with heap:=s.heap.push { cls:=.type "list",data:=.seq its.toArray },toks:=t' }:=
 I.laid (fun _ _ q=>Heap.get?_push_of_some _ q) (Nat.le_refl _) ⟨hz,its,0,hv,Heap.get?_push_size _ rfl⟩
theorem Inv.fresh (I:Inv X pins σ H s):H s.heap.objs.size=none:=I.hok.fresh (Nat.le_refl _)
theorem Inv.lstM (I:Inv X pins σ H s) (hH:H l=some (.lst xs)):xs.length≤sizeLine∧∃ (its:List Value) (n:Nat),Vals xs its∧xs.length=its.length∧s.heap.get? l=some { cls:=.type "list",data:=.seq its.toArray n }:=by
 obtain ⟨z,its,n,r,e⟩:=I.hok l _ hH
 exact ⟨z,its,n,r,r.length,e⟩
theorem ly {n:Nat} (h:n≤sizeLine):Builtin.List.listTooLong n=false:=by
 unfold Builtin.List.listTooLong
 exact decide_eq_false (by omega)
end
section
variable {X:Cx}
def aL:V→List V→Hp→VK→Prop:=fun x vs H Q=>∃ l xs y,x=.ref l∧vs=[y]∧H l=some (.lst xs)∧xs.length<sizeLine∧Q .non (upd H l (.lst (xs++[y])))
theorem vm:MtM X "list.append" aL:=by
 intro pins s σ H x vs v us Q I rx rv h
 obtain ⟨l,xs,y,rfl,rfl,hH,hz,q⟩:=h
 cases rx
 obtain ⟨u,rfl,ru⟩:=rv.one
 obtain ⟨z,its,n,r,hl,e⟩:=I.lstM hH
 refine call_meets F.slot_list_append ⟨_,e,rfl⟩ F.entry_list_append (F.args_list_append_2 _ _) (PySem.list_append l its.toArray n u (by rw [List.size_toArray]; omega)) ⟨e,?_⟩
 refine ⟨.non,_,I.lset (its':=its++[u]) hH e (by simp) (r.append (.cons ru .nil)) ?_,rfl,q⟩
 rw [List.length_append,List.length_singleton]
 omega
def aK:V→List V→Hp→VK→Prop:=fun x vs H Q=>∃ l b xs zs,x=.ref l∧vs=[.ref b]∧H l=some (.lst xs)∧H b=some (.lst zs)∧xs.length+zs.length≤sizeLine∧Q .non (upd H l (.lst (xs++zs)))
theorem fU:MtM X "list.extend" aK:=by
 intro pins s σ H x vs v us Q I rx rv h
 obtain ⟨l,b,xs,zs,rfl,rfl,hH,hB,hz,q⟩:=h
 cases rx
 obtain ⟨u,rfl,ru⟩:=rv.one
 cases ru
 obtain ⟨z,its,n,r,hl,e⟩:=I.lstM hH
 obtain ⟨z2,its2,n2,r2,hl2,e2⟩:=I.lstM hB
 have hsz:its.toArray.size+its2.toArray.size≤sizeLine:=by rw [List.size_toArray,List.size_toArray]; omega
 have hlong:¬ (!its.toArray.isEmpty && Builtin.List.listTooLong (its.toArray.size+its2.toArray.size))=true:=by
  rw [ly hsz,Bool.and_false]
  exact Bool.false_ne_true
 refine call_meets F.slot_list_extend ⟨_,e,rfl⟩ F.entry_list_extend (F.args_list_extend_2 _ _)
  (AutoSeq1.list_extend_list_list_0 l its.toArray n b its2.toArray n2 hlong (by rw [List.size_toArray]; omega) (by omega)) ⟨e,e2,?_⟩
 refine ⟨.non,_,I.lset (its':=its++its2) hH e (by simp) (r.append r2) ?_,rfl,q⟩
 rw [List.length_append]
 omega
def Rs:V→List V→Hp→VK→Prop:=fun x vs H Q=>∃ l xs y,x=.ref l∧vs=[]∧H l=some (.lst xs)∧xs[xs.length - 1]? = some y∧Q y (upd H l (.lst xs.dropLast))
theorem WZ:MtM X "list.pop" Rs:=by
 intro pins s σ H x vs v us Q I rx rv h
 obtain ⟨l,xs,y,rfl,rfl,hH,hy,q⟩:=h
 cases rx
 have hus:=rv.zero
 subst hus
 obtain ⟨z,its,n,r,hl,e⟩:=I.lstM hH
 obtain ⟨u,hu,ru⟩:=r.get hy
 have hy':its.toArray[its.toArray.size - 1]? = some u:=by
  show its.toArray[its.length - 1]? = some u
  rw [← Array.getElem?_toList,← hl]
  exact hu
 refine call_meets F.slot_list_pop ⟨_,e,rfl⟩ F.entry_list_pop (F.args_list_pop_1 _) (MeetsSeq.list_pop_last l its.toArray n u hy' (by rw [List.size_toArray]; omega)) ⟨e,?_⟩
 refine ⟨y,_,I.lset (its':=its.dropLast) hH e ?_ r.dropLast ?_,ru,q⟩
 ·show its.toArray.eraseIdxIfInBounds (its.toArray.size - 1)=its.dropLast.toArray
  rw [List.size_toArray,List.eraseIdxIfInBounds_toArray,j8]
 ·rw [List.length_dropLast]
  omega
def Rr:R2:=fun x y H Q=>∃ l k xs,x=.ref l∧y=.int k∧H l=some (.lst xs)∧-(2 ^ 63)≤k∧k<2 ^ 63∧xs.length*k.toNat≤sizeLine∧
 ∀ p,H p=none→Q (.ref p) (upd H p (.lst (List.replicate k.toNat xs).flatten))
theorem ZY {α:Type} (xs:List α) (k:Nat):(List.replicate k xs).flatten.length=k*xs.length:=by
 induction k with
 | zero=>simp
 | succ k ih=>rw [List.replicate_succ,List.flatten_cons,List.length_append,ih,Nat.succ_mul,Nat.add_comm]
theorem XS:OpR X (binaryOp .Mult) Rr:=by
 intro pins s σ H x y v u Q I rx ry h
 obtain ⟨l,k,xs,rfl,rfl,hH,h1,h2,hz,q⟩:=h
 cases rx
 obtain ⟨t,rfl⟩:=ry
 obtain ⟨z,its,n,r,hl,e⟩:=I.lstM hH
 have hlen:its.toArray.size*k.toNat≤sizeLine:=by rw [List.size_toArray,← hl]; exact hz
 have hcap:¬ its.toArray.size*k.toNat>(2 ^ 63 - 1) / 8:=by
  have:(sizeLine:Nat)≤(2 ^ 63 - 1) / 8:=by decide
  omega
 have hfit:¬ (!Builtin.List.listFitsIndex k)=true:=by
  rw [fitsIndex_both h1 h2]
  exact Bool.false_ne_true
 have hlong:¬ Builtin.List.listTooLong (its.toArray.size*k.toNat)=true:=by
  rw [ly hlen]
  exact Bool.false_ne_true
 have hnew:List.foldl (fun x1 x2=>x1++x2) #[] (List.replicate (if its.toArray.isEmpty=true then 0 else k.toNat) its.toArray)=(List.replicate k.toNat its).flatten.toArray:=by
  have f0:∀ m:Nat,List.foldl (fun x1 x2=>x1++x2) #[] (List.replicate m its.toArray)=(List.replicate m its).flatten.toArray:=fun m=>by
   have:=oz its m []
   rw [List.nil_append] at this
   exact this
  rw [f0]
  cases its with
  | nil=>simp
  | cons a r'=>rw [if_neg (by simp)]
 refine wpAny_binaryOp_repeat_ref (T:="list") (U:="int") (by decide) ⟨_,e,rfl⟩ (fun s'=>typeIs_int s' k t) noFill_list_mul F.fills_int_mul F.slot_int_rmul repeat_list F.slot_int_index.lookup
  (call_meets F.slot_int_rmul (typeIs_int s k t) F.entry_int_rmul (F.args_int_rmul_2 _ _) (int___rmul___int_list k t l its.toArray n)
   ⟨e,rfl,⟨_,e,rfl⟩,call_meets F.slot_list_mul ⟨_,e,rfl⟩ F.entry_list_mul (F.args_list_mul_2 _ _) (AutoListH.list___mul___list_int_3 l its.toArray n k t hfit hcap hlong) ⟨e,?_⟩⟩)
 rw [hnew]
 exact ⟨.ref _,_,I.lnew (t':=s.toks) (r.rep k.toNat) (by rw [ZY,Nat.mul_comm]; exact hz),rfl,q _ I.fresh⟩
end
section
variable {prog:Program} {w:World} {A:Around} {E:Value→Shared→Prop} {s:Shared}
set_option maxRecDepth 100000 in
end
section
variable {X:Cx}
end
end L2
namespace Att
open PySem PySem.W PySem.Calls PyProof.Rows
theorem sV {P:Params} {h:Heap}:∀ (ns:List Int) (vs:List Value),WellAll P h vs (ns.map WData.int)→IntsAre vs ns:=by
 intro ns
 induction ns with
 | nil=>
  intro vs w
  rw [List.map_nil] at w
  cases w
  exact .nil
 | cons n ns ih=>
  intro vs w
  rw [List.map_cons] at w
  cases w with
  | cons a b=>
   cases a
   exact .cons _ _ (ih _ b)
theorem gN {l:OpenLaw} {n:Nat} (hn:l.most=some n) {P:Params} {h:Heap} {args:List WData} {vals:List Value}
  (hpre:l.row.toRowW.claim.pre args=true) (hwl:WellAll P h vals args):
  ∃ a vs ns,vals=[Value.ref a]∧args=[WData.list (ns.map WData.int)]∧h.get? a=some { cls:=.type "list",data:=.seq vs.toArray }∧IntsAre vs ns∧ns.length≤n:=by
 have hsh:WShape.hasAll [] args [.list .int]=true:=(pre_splitW hpre).1
 have hc:l.pre.holds [] { args:=args }=true:=(pre_splitW hpre).2
 obtain ⟨d,r,rfl,h1,h2⟩:=hasAllW_cons hsh
 obtain rfl:=hasAllW_nil h2
 obtain ⟨xs,rfl,h3⟩:=hasW_list h1
 obtain ⟨ns,rfl⟩:=items_int h3
 have hlen:ns.length≤n:=by
  unfold OpenLaw.pre at hc
  have h4:(WTm.not (.lt (.lit (.int (n:Int))) (.len (.arg 0)))).holds [] { args:=[.list (ns.map .int)] }=true:=by
   have h4:=(holds_andW hc).1
   rw [hn] at h4
   exact h4
  have h5:=condW_of h4 (w_not (w_lt w_lit (w_len_list (w_arg rfl))))
  rw [List.length_map] at h5
  refine Nat.le_of_not_lt fun q=>?_
  have q':(n:Int)<((ns.length:Nat):Int):=by omega
  first
   | (rw [decide_eq_true q'] at h5; exact absurd h5 (by decide))
   | (simp at h5; omega)
 cases hwl with
 | cons w1 w2=>
  cases w2
  cases w1 with
  | list ho hall=>exact ⟨_,_,ns,rfl,rfl,ho,sV ns _ hall,hlen⟩
theorem gQ (l:OpenLaw) (args:List WData):l.row.toRowW.claim.post args (.bool true) args=true:=
 postW_of (r:=l.row.toRowW) (X:=(true == true))
  (show WShape.has [] (.bool true) .bool=true by first | rfl | decide | simp [WShape.has,WShape.arms,WShape.armsAll])
  (show (WTm.eq .res (.lit (.bool true))).value [] { args:=args,res:=some (.bool true),after:=args }=some (.bool (true == true)) from w_eq_bool (w_res rfl) w_lit) rfl
theorem attach_call {l:OpenLaw} {n:Nat} {q:Program} {loose:List Str} {XP:(Str→Option Value)→Heap→Prop} {YP:World→Heap→Prop} {d:DefRec}
  (hn:l.most=some n) (hdf:d.params.defaults=[])
  (call:∀ (w:World) (s₀ s₁:Shared) (mg mb:Str→Option Value) (fa:Addr) (o:Obj) (pm cd doc:Value) (a:Addr) (vs:List Value) (ns:List Int),
   Ground q loose [] XP w s₀ mg mb s₁.heap→YP w s₁.heap→
   s₁.heap.get? fa=some o→o.data=.func (docDef d.name d.params d.body d.scope pm cd doc)→s₁.heap.CodeRec cd d.name→mg d.name=some (.ref fa)→
   s₁.heap.get? a=some { cls:=.type "list",data:=.seq vs.toArray }→IntsAre vs ns→ns.length≤n→s₁.gens=#[]→
   codeAny (model l.prog w) callerA (.call (.ref fa) ⟨[.ref a],[]⟩) (fun r s'=>r=.ok (.ret (.bool true))∧OldK s₁.heap s'.heap∧s'.os=s₁.os∧AllBare s'.gens) s₁):
  WalkO q loose XP YP l.row.toRowW d [] (fun f vs=>PySem.call f vs):=by
 intro w s₀ s₁ mg mb G Y fa o pm cd doc dV kV ho hd hcd hD hmg hg args vals as hpre hlay hrd hwl hlo
 obtain rfl:dV=.none:=Dflts.none hD hdf
 obtain rfl:kV=.none:=Dflts.noKw hD
 obtain ⟨a,vs,ns,rfl,rfl,hobj,hints,hlen⟩:=gN hn hpre hwl
 refine enter_call (codeAny_mono (call w s₀ s₁ mg mb fa o pm cd doc a vs ns G Y ho (fd_plain hd) hcd hmg hobj hints hlen hg) fun r s' hq=>?_)
 obtain ⟨rfl,h2,h3,h4⟩:=hq
 exact ⟨.inl ⟨.bool true,.bool true,[],rfl,fun _=>rfl,.bool true,gQ l _,fun _=>⟨List.Pairwise.nil,fun _ hm=>(nomatch hm)⟩⟩,h2,h3,h4⟩
section
variable {prog:Program} {w:World} {A:Around} {E:Value→Shared→Prop} {s:Shared} {K:Frag}
def R7 (h:Heap) (L d:Addr):List (Addr × Obj):=(List.range h.objs.size).filterMap fun a=>if a=L∨a=d then none else (h.get? a).map fun o=>(a,o)
end
end Att
namespace L2
open PySem PySem.Spec PyProof.Rows
theorem oe:∀ {vs:List Value} {ns:List Int},IntsAre vs ns→Vals (ns.map V.int) vs
 | _,_,.nil=>.nil
 | _,_,.cons n t h=>.cons ⟨t,rfl⟩ (oe h)
def VM (H:Hp):Prop:=∀ b,H b=none∨∃ o xs,H b=some (.frz o (.lst xs))
theorem bp {P:Program} {w:World} {K:PySem.W.Frag} {mg mb:Str→Option Value} {CX:CXT} {k:Nat} {fa a:Addr} {fd:FuncData} {x:Str} {sp:Sp} {s₁:Shared} {vs:List Value} {ns:List Int}
  (KX:K.In s₁.heap) (hns:s₁.heap.Ns mainGlobals mg) (hb:s₁.heap.Ns builtinsNs mb) (hbb:∀ x:Str,x≠"__name__"→mb x=bootBuiltins x) (hlim:s₁.heap.NoLimit) (hg:s₁.gens=#[])
  (ha:s₁.heap.get? a=some { cls:=.type "list",data:=.seq vs.toArray }) (hi:IntsAre vs ns) (hl:ns.length≤sizeLine) (hr:Room k callerA)
  (F:∀ base:Heap,K.In base→base.Ns mainGlobals mg→FnOk P w K mg base CX k fa fd [x] sp) (hbind:∀ (s:Shared) (u:Value),BindsTo s fd ⟨[u],[]⟩ [(x,u)])
  (hsp:∀ H:Hp,VM H→SqL K H a (ns.map V.int)→sp [.ref a] H (fun v _=>v=.bl true) fun _ _ _=>False)
  (hCX:∀ H e s',CX [] H s₁ (fun _ _ _=>False) e s'→False):
  codeAny (model P w) callerA (.call (.ref fa) ⟨[.ref a],[]⟩) (fun r s'=>r=.ok (.ret (.bool true))∧OldK s₁.heap s'.heap∧s'.os=s₁.os∧AllBare s'.gens) s₁:=by
 have rv:=oe hi
 have lenV:=hi.length
 have core:∀ H:Hp,VM H→SqL K H a (ns.map V.int)→HOk P w H s₁.heap→(∀ b,H b≠none→b=a)→(H a≠none→K.lookup a=none)→
   codeAny (model P w) callerA (.call (.ref fa) ⟨[.ref a],[]⟩) (fun r s'=>r=.ok (.ret (.bool true))∧OldK s₁.heap s'.heap∧s'.os=s₁.os∧AllBare s'.gens) s₁:=by
  intro H hO hS hok hA hK
  have base_of:∀ {b:Addr} {o:Obj},s₁.heap.get? b=some o→H b=none→(nR s₁.heap H).get? b=some o:=fun e n=>bv e n
  have noA:∀ {b:Addr} {o:Obj} {es:Array DictEntry} {ep:Nat},s₁.heap.get? b=some o→o.data=.dict es ep→H b=none:=fun {b o es ep} e d=>by
   cases q:H b with
   | none=>rfl
   | some u=>
    have e':b=a:=hA b (by rw [q]; simp)
    subst e'
    rw [ha] at e; cases e
    have d':Data.seq vs.toArray _=Data.dict es ep:=d
    cases d'
  have nsK:∀ {b:Addr} {m:Str→Option Value},s₁.heap.Ns b m→(nR s₁.heap H).Ns b m:=fun {b m} ⟨o,es,ep,e,d,r⟩=>⟨o,es,ep,base_of e (noA e d),d,r⟩
  have hKb:K.In (nR s₁.heap H):=fun b o e=>base_of (KX b o e) (by
   cases q:H b with
   | none=>rfl
   | some u=>
    have e':b=a:=hA b (by rw [q]; simp)
    subst e'
    rw [hK (by rw [q]; simp)] at e; cases e)
  have hM:Mod K mg (nR s₁.heap H):=⟨hKb,nsK hns,⟨mb,nsK hb,hbb⟩,let ⟨mc,h1,h2⟩:=hlim; ⟨mc,nsK h1,h2⟩⟩
  have e0:Env0 P w K mg (nR s₁.heap H) callerA [] s₁ H:=⟨rfl,hM,fun b o e=>Zc e,Nat.le_of_eq (eA _ _),trivial,fun b hb=>absurd (show b∈([]:List Addr) from hb) (by simp),hok,.of_eq hg⟩
  refine codeAny_mono ((F _ hKb (nsK hns)).run callerA [] s₁ H ⟨[.ref a],[]⟩ [.ref a] [.ref a] _ _ hr e0 (hbind s₁ (.ref a)) (.cons rfl .nil) (hsp H hO hS)) fun r s' h=>?_
  cases r with
  | error e=>exact (hCX H e s' h).elim
  | ok fl=>
   cases fl with
   | next=>exact False.elim h
   | brk=>exact False.elim h
   | cont=>exact False.elim h
   | ret u=>
    obtain ⟨v,H',os,bare,un,hok',r',q⟩:=h
    have q':v=.bl true:=q
    subst q'
    obtain rfl:u=Value.bool true:=r'
    refine ⟨rfl,OldK.of_keep fun b o e=>?_,os,bare⟩
    cases q:H b with
    | none=>exact un.keep b o e q (by intro z; exact absurd (show b∈([]:List Addr) from z) (by simp)) (by simp)
    | some u=>
     rcases hO b with z | ⟨ob,xs,z⟩
     ·rw [q] at z; cases z
     ·have z2:=un.frzs b ob _ z
      obtain ⟨e1,_⟩:=hok b _ z
      obtain ⟨e2,_⟩:=hok' b _ z2
      rw [e] at e1; cases e1
      exact e2
 cases hk:K.lookup a with
 | some o=>
  have e:=KX a o hk
  rw [ha] at e
  cases e
  refine core (fun _=>none) (fun _=>.inl rfl) (.inr ⟨_,vs.toArray,_,hk,rfl,rfl,rfl,by rw [List.size_toArray,lenV]; exact hl,by simpa using rv⟩) (fun b u z=>by have z':(none:Option HO)=some u:=z; cases z') (fun b z=>absurd rfl z) fun z=>absurd rfl z
 | none=>
  refine core (fun b=>if b=a then some (.frz { cls:=.type "list",data:=.seq vs.toArray } (.lst (ns.map V.int))) else none) (fun b=>?_) (.inl (.inr ⟨{ cls:=.type "list",data:=.seq vs.toArray },if_pos rfl⟩)) (fun b u z=>?_) (fun b z=>?_) fun _=>hk
  ·by_cases hb:b=a
   ·exact .inr ⟨_,_,if_pos hb⟩
   ·exact .inl (if_neg hb)
  ·by_cases hb:b=a
   ·have z':=(if_pos hb).symm.trans z
    cases z'
    subst hb
    exact ⟨ha,by rw [List.length_map]; exact hl,vs,_,rv,ha⟩
   ·have z':=(if_neg hb).symm.trans z
    cases z'
  ·by_cases hb:b=a
   ·exact hb
   ·exact absurd (if_neg hb) z
end L2
namespace L2
open PySem PySem.Spec PyProof.Rows
abbrev KOf {K:PySem.W.Frag} {h:Heap} (_:K.In h):PySem.W.Frag:=K
theorem walk_of {l:PySem.W.OpenLaw} {n k:Nat} {q:Program} {loose:List Str} {XP:(Str→Option Value)→Heap→Prop} {YP:World→Heap→Prop} {d:DefRec} {K:Params→PySem.W.Frag} {CX:World→CXT} {sp:World→Sp} {x:Str}
  (hn:l.most=some n) (hn2:n≤sizeLine) (hdf:d.params.defaults=[]) (hr:Room k callerA)
  (hY:∀ (w:World) (h:Heap),YP w h→(K w.params).In h)
  (F:∀ (w:World) (mg:Str→Option Value) (fa:Addr) (h:Heap),(K w.params).In h→h.Ns mainGlobals mg→mg d.name=some (.ref fa)→
   ∃ fd:FuncData,(∀ (s:Shared) (u:Value),BindsTo s fd ⟨[u],[]⟩ [(x,u)])∧
    ∀ base:Heap,(K w.params).In base→base.Ns mainGlobals mg→FnOk l.prog w (K w.params) mg base (CX w) k fa fd [x] (sp w))
  (hsp:∀ (w:World) (H:Hp) (a:Addr) (ns:List Int),ns.length≤n→VM H→SqL (K w.params) H a (ns.map V.int)→sp w [.ref a] H (fun v _=>v=.bl true) fun _ _ _=>False)
  (hCX:∀ (w:World) (H:Hp) (s:Shared) (e:Value) (s':Shared),CX w [] H s (fun _ _ _=>False) e s'→False):
  PySem.W.WalkO q loose XP YP l.row.toRowW d [] (fun f vs=>PySem.call f vs):=by
 refine Att.attach_call hn hdf fun w s₀ s₁ mg mb fa o pm cd doc a vs ns G Y ho hd hcd hmg hobj hints hlen hg=>?_
 have KX:=hY w _ Y
 obtain ⟨fd,hb,hF⟩:=F w mg fa _ KX G.T.g hmg
 exact bp KX G.T.g G.T.b G.T.builtins G.T.nolimit hg hobj hints (Nat.le_trans hlen hn2) hr hF hb (fun H hO hS=>hsp w H a ns hlen hO hS) fun H e s'=>hCX w H s₁ e s'
end L2
namespace L2
open PySem PySem.Spec PyProof.Rows
def inClass (s:Stmt) (j:Nat):Stmt:=match s with
 | .ClassDef _ _ _ body _ _ _ _ _ _ _=>body.getD j (.Pass ⟨0,0,0,0⟩)
 | _=>.Pass ⟨0,0,0,0⟩
def defArgs (s:Stmt):Arguments:=match s with
 | .FunctionDef _ a _ _ _ _ _ _ _ _=>a
 | _=>{ posonlyargs:=[],args:=[],vararg:=none,kwonlyargs:=[],kw_defaults:=[],kwarg:=none,defaults:=[] }
def defBody (s:Stmt):List Stmt:=match s with
 | .FunctionDef _ _ b _ _ _ _ _ _ _=>b
 | _=>[]
def defScope (s:Stmt):Scope:=match s with
 | .FunctionDef _ _ _ _ _ _ sc _ _ _=>sc
 | _=>{ kind:=.function,names:=[],isGenerator:=false,isCoroutine:=false }
abbrev CX0:CXT:=fun _ _ _ _ _ _=>False
abbrev E0:XK:=fun _ _ _=>False
theorem oo {X:Cx}:tV CX0 X E0:=fun _ _ _ _ _ _ _ h=>h.elim
structure Fun (K:PySem.W.Frag) (x qual:Str) (st:Stmt) (f:Addr) (fd:FuncData):Prop where
 ex:∃ (oc:Value) (od:Option Addr) (kV doc pm:Value) (an:Option Addr) (cdv ct:Value) (osl:Array (Option Value)),
  fd=PySem.W.fnOf x qual (defArgs st) (defBody st) (defScope st) .none kV doc pm an cdv ct∧K.lookup f=some ⟨oc,od,.func fd,osl⟩∧PySem.W.codeIn K cdv qual=true
 kp:PySem.W.keepIn K (.ref f)=true
section
variable {P:Program} {w:World} {K:PySem.W.Frag} {mg:Str→Option Value} {base:Heap}
theorem Fun.ok {x qual:Str} {st:Stmt} {f:Addr} {fd:FuncData} {N ps:List Str} {k:Nat} {sp:Sp} (F:Fun K x qual st f fd) (S:zi N ps (defScope st)) (len:∀ vs H Q E,sp vs H Q E→vs.length=ps.length)
  (hbody:∀ (cdv:Value) (A:Around) (outer:List Env) (s:Shared) (H:Hp) (vs:List V) (Q:VK) (E:XK),Room k (A.deeper (envOfC qual (defScope st) s.heap.objs.size f cdv))→sp vs H Q E→
   ∃ t,PSs (yF CX0 P w K mg base N qual (defScope st) f cdv A outer s H E).nox (defBody st) t∧t { nx:=fun _ H'=>Q .non H',rt:=Q } (start N vs) H):FnOk P w K mg base CX0 (k+1) f fd ps sp:=by
 obtain ⟨oc,od,kV,doc,pm,an,cdv,ct,osl,rfl,lk,hcd⟩:=F.ex
 refine YO lk hcd S len fun A outer s H vs Q E hr hsp=>?_
 obtain ⟨t,h,q⟩:=hbody cdv A outer s H vs Q E hr hsp
 exact ⟨t,h.nox,q⟩
theorem Fun.binds {x qual:Str} {st:Stmt} {f:Addr} {fd:FuncData} {ps:List Str} (F:Fun K x qual st f fd)
  (h:∀ (kV doc pm:Value) (an:Option Addr) (cdv ct:Value) (us:List Value),us.length=ps.length→bindArgs (PySem.W.fnOf x qual (defArgs st) (defBody st) (defScope st) .none kV doc pm an cdv ct) ⟨us,[]⟩=pure (ps.zip us)):Binds K fd ps []:=by
 obtain ⟨oc,od,kV,doc,pm,an,cdv,ct,osl,rfl,lk,hcd⟩:=F.ex
 exact .all (h kV doc pm an cdv ct)
theorem j5 {x qual:Str} {st:Stmt} {f:Addr} {oc:Value} {od an:Option Addr} {osl:Array (Option Value)} {kV doc pm cdv ct:Value} (l:K.lookup f=some ⟨oc,od,.func (PySem.W.fnOf x qual (defArgs st) (defBody st) (defScope st) .none kV doc pm an cdv ct),osl⟩)
  (c:PySem.W.codeIn K cdv qual=true) (k:PySem.W.keepIn K (.ref f)=true):Fun K x qual st f (PySem.W.fnOf x qual (defArgs st) (defBody st) (defScope st) .none kV doc pm an cdv ct):=⟨⟨oc,od,kV,doc,pm,an,cdv,ct,osl,rfl,l,c⟩,k⟩
end
section
variable {X:Cx}
theorem pv (i:Nat) {x:Str} {pos:Pos} (hN:X.N[i]? = some x:=by rfl) (hv:Vis X.env.scope x:=by first | exact Or.inl rfl | exact Or.inr (Or.inl rfl) | exact Or.inr (Or.inr rfl)) (hd:(x == ("__debug__":Str))=false:=by decide)
  (hcd:(x == ("__classdict__":Str))=false:=by decide):PE X (.Name x pos) (aE i):=yo hN hv hd hcd
end
theorem Qa {A B:Prop} (h:B):if false=true then A else B:=by
 rw [if_neg Bool.false_ne_true]
 exact h
theorem R_ {A B:Prop} (h:A):if true=true then A else B:=by
 rw [if_pos rfl]
 exact h
theorem UM {c A B:Prop} [Decidable c] (h1:c→A) (h2:¬ c→B):if c then A else B:=by
 by_cases h:c
 ·rw [if_pos h]
  exact h1 h
 ·rw [if_neg h]
  exact h2 h
def Same (H H':Hp):Prop:=∀ b o,H b=some o→H' b=some o
theorem Same.refl (H:Hp):Same H H:=fun _ _ h=>h
theorem Same.trans {H H1 H2:Hp} (a:Same H H1) (b:Same H1 H2):Same H H2:=fun c o h=>b c o (a c o h)
theorem Same.free {H H':Hp} (e:Same H H') {l:Addr} (h:H' l=Option.none):H l=Option.none:=by
 cases q:H l with
 | none=>rfl
 | some o=>
  rw [e l o q] at h
  cases h
theorem Same.seq {K:PySem.W.Frag} {H H':Hp} {a:Addr} {xs:List V} (e:Same H H') (h:SqL K H a xs):SqL K H' a xs:=by
 rcases h with (h | ⟨o,h⟩) | h
 ·exact .inl (.inl (e _ _ h))
 ·exact .inl (.inr ⟨o,e _ _ h⟩)
 ·exact .inr h
end L2
set_option maxRecDepth 1000000
set_option maxHeartbeats 0
open PySem in
def My.top (i:Nat):Stmt:=PySem.Challenge.pw_oddbases_k33_products.main.body.getD i (.Pass ⟨0,0,0,0⟩)
noncomputable section
open PySem My
namespace My
abbrev v_:Option Value:=some (.ref 6)
abbrev g_:Array GenState:=⟨[]⟩
abbrev d_:=@Drawn.mk 0 0 0 0
abbrev P_:=@Pos.mk
abbrev N_ (o:Params→Obj) (a b:Params→W.BT) (x:Params):W.BT:=.node (o x) (a x) (b x)
abbrev Z_ (_:Params):W.BT:=.nil
abbrev L_ (o:Params→Obj):=N_ o Z_ Z_
theorem sg_ {tb p w n₀ ann b} {n:Nat} {s s':W.SharedT} {t:Thread} {f:Flow} {c:Code} {q:Pos} (h:W.segRunT tb p w n₀ ann b n s t=some (f,s',c,q)):W.segRun tb p w n₀ ann b n s.abs t=some (f,s'.abs,c,q):=W.segRun_of h
abbrev p_ (a:String) (b:Nat):Value:=.str (.ofString a) b
abbrev j_ (a:Int) (b:Nat):Value:=.int a b
abbrev r_ (a:Nat):Value:=.ref a
abbrev e_ (x:Params) (a:String) (b:Nat) (v:Value):DictEntry:=⟨PyData.keyHash x (.ofString a),.str (.ofString a) b,v⟩
abbrev t0 (a1:String) (a3:Nat) (a7:String) (a8 a9:Nat) (x:Params):Obj:=(@Obj.mk (.type "function") none (@Data.func (@FuncData.mk (.ofString a1) (.ofString a1) (L2.defArgs (My.top a3)) (@FuncBody.stmts (L2.defBody (My.top a3))) (L2.defScope (My.top a3)) 3 (@List.nil (@Prod @Str @Nat)) .none .none .none (p_ a7 a8) none (r_ a9) .none 0)) #[])
abbrev t1 (a1:String) (a2:Nat) (a3:String) (a4 a6:Nat) (a7 a9:Int) (a17 a20 a21 a22 a23:Nat) (a24:Int) (a29:Nat) (x:Params):Obj:=(@Obj.mk (.type "code") none (@Data.fields (List.toArray [(p_ a1 a2),(p_ a3 a4),(p_ "/claim/cut.py" a6),(j_ a7 0),(j_ a9 0),(j_ 0 0),(j_ 0 0),(j_ 3 0),(r_ a17),(.bool @Bool.true),(j_ 181 0),(r_ a20),.none,(r_ a21),(r_ a22),(r_ a23),(j_ a24 0),(j_ a7 0),(p_ "/claim/cut.py" a29)])) #[])
abbrev t2 (a0:String) (a2:Nat) (x:Params):Obj:=(@Obj.mk .none none (@Data.func (@FuncData.mk (.ofString a0) (.ofString a0) (L2.defArgs (My.top a2)) (@FuncBody.stmts (L2.defBody (My.top a2))) (L2.defScope (My.top a2)) 0 (@List.nil (@Prod @Str @Nat)) .none .none .none .none none .none .none 0)) #[])
abbrev t3 (x:Params):Obj:=(@Obj.mk (.type "tuple") none (@Data.seq #[] 0) #[])
abbrev t4 (x:Params):Obj:=(@Obj.mk .none none (@Data.fields #[]) #[])
abbrev t5 (a1:String) (a2:Nat) (a3:String) (a4:Nat) (a5:String) (a6:Nat) (x:Params):Obj:=(@Obj.mk (.type "tuple") none (@Data.seq (List.toArray [(p_ a1 a2),(p_ a3 a4),(p_ a5 a6)]) 0) #[])
abbrev t6 (a1:String) (a2 a4 a6:Nat) (a7 a9:Int) (a17 a20 a21:Nat) (a22:Int) (a27:Nat) (x:Params):Obj:=(@Obj.mk (.type "code") none (@Data.fields (List.toArray [(p_ a1 a2),(p_ a1 a4),(p_ "/claim/cut.py" a6),(j_ a7 0),(j_ a9 0),(j_ 0 0),(j_ 0 0),(j_ 3 0),(r_ a17),(.bool @Bool.true),(j_ 181 0),(r_ a20),.none,.none,.none,(r_ a21),(j_ a22 0),(j_ a7 0),(p_ "/claim/cut.py" a27)])) #[])
abbrev t7 (a1:String) (a2:Nat) (a3:String) (a4:Nat) (a5:String) (a6:Nat) (a7:String) (a8:Nat) (a9:String) (a10:Nat) (x:Params):Obj:=(@Obj.mk (.type "tuple") none (@Data.seq (List.toArray [(p_ a1 a2),(p_ a3 a4),(p_ a5 a6),(p_ a7 a8),(p_ a9 a10)]) 0) #[])
abbrev t8 (a1:String) (a2:Nat) (a3:String) (a4:Nat) (a5:String) (a6:Nat) (a7:String) (a8:Nat) (a9:String) (a10:Nat) (a11:String) (a12:Nat) (x:Params):Obj:=(@Obj.mk (.type "tuple") none (@Data.seq (List.toArray [(p_ a1 a2),(p_ a3 a4),(p_ a5 a6),(p_ a7 a8),(p_ a9 a10),(p_ a11 a12)]) 0) #[])
abbrev t9 (a1:String) (a2:Nat) (a3:String) (a4:Nat) (x:Params):Obj:=(@Obj.mk (.type "tuple") none (@Data.seq (List.toArray [(p_ a1 a2),(p_ a3 a4)]) 0) #[])
abbrev t10 (a1:String) (a2:Nat) (x:Params):Obj:=(@Obj.mk (.type "tuple") none (@Data.seq (List.toArray [(p_ a1 a2)]) 0) #[])
abbrev t11 (a1:String) (a2:Nat) (a3:String) (a4:Nat) (a5:String) (a6:Nat) (a7:String) (a8:Nat) (a9:String) (a10:Nat) (a11:String) (a12:Nat) (a13:String) (a14:Nat) (x:Params):Obj:=(@Obj.mk (.type "tuple") none (@Data.seq (List.toArray [(p_ a1 a2),(p_ a3 a4),(p_ a5 a6),(p_ a7 a8),(p_ a9 a10),(p_ a11 a12),(p_ a13 a14)]) 0) #[])
abbrev t12 (a1:String) (a2:Nat) (a3:String) (a4:Nat) (a5:String) (a6:Nat) (a7:String) (a8:Nat) (x:Params):Obj:=(@Obj.mk (.type "tuple") none (@Data.seq (List.toArray [(p_ a1 a2),(p_ a3 a4),(p_ a5 a6),(p_ a7 a8)]) 0) #[])
abbrev t13 (a2:Nat) (x:Params):Obj:=(@Obj.mk (.type "builtin_function_or_method") none (@Data.fields (List.toArray [(.builtin "object.__init_subclass__"),(r_ a2)])) #[])
abbrev t14 (a1:Nat) (x:Params):Obj:=(@Obj.mk (.type "super") none (@Data.fields (List.toArray [(r_ a1),(r_ a1),(r_ a1)])) #[])
abbrev t15 (a1:String) (a3 a6 a8 a10 a12:Nat) (x:Params):Obj:=(@Obj.mk (.type "type") none (@Data.cls (@ClassData.mk (.ofString a1) [(r_ 202)] [(r_ a3),(r_ 202),(.type "object")] a6 (.ofString a1) @Bool.true [] [] @Bool.false (@Option.none @Bool) @Bool.false)) (@List.toArray (@Option @Value) [(some (r_ a8)),none,(some (p_ a1 a10)),(some (p_ a1 a12)),(some (.builtin "object.__new__")),(some (.bool @Bool.true))]))
abbrev t16 (a1 a2:String) (a3 a4 a12:Nat) (x:Params):Obj:=(@Obj.mk (.type "function") none (@Data.func (@FuncData.mk (.ofString a1) (.ofString a2) (L2.defArgs (L2.inClass (My.top a3) a4)) (@FuncBody.stmts (L2.defBody (L2.inClass (My.top a3) a4))) (L2.defScope (L2.inClass (My.top a3) a4)) 3 (@List.nil (@Prod @Str @Nat)) .none .none .none (p_ "oddbases.ways" 355) none (r_ a12) .none 0)) #[])
abbrev t17 (a0 a1:String) (a2 a3:Nat) (x:Params):Obj:=(@Obj.mk .none none (@Data.func (@FuncData.mk (.ofString a0) (.ofString a1) (L2.defArgs (L2.inClass (My.top a2) a3)) (@FuncBody.stmts (L2.defBody (L2.inClass (My.top a2) a3))) (L2.defScope (L2.inClass (My.top a2) a3)) 0 (@List.nil (@Prod @Str @Nat)) .none .none .none .none none .none .none 0)) #[])
abbrev t18 (a1 a3:Nat) (a4:String) (a5:Nat) (x:Params):Obj:=(@Obj.mk (.type "frame") none @Data.plain (@List.toArray (@Option @Value) [(some (r_ a1)),(some (r_ 3)),(some (r_ a3)),none,(some (p_ a4 a5)),none,(some (r_ 0))]))
abbrev t19 (a1:String) (a2 a4 a6:Nat) (a7:Int) (a17 a20:Nat) (a21:Int) (a26:Nat) (x:Params):Obj:=(@Obj.mk (.type "code") none (@Data.fields (List.toArray [(p_ a1 a2),(p_ a1 a4),(p_ "/claim/cut.py" a6),(j_ a7 0),(j_ 0 0),(j_ 0 0),(j_ 0 0),(j_ 0 0),(r_ a17),(.bool @Bool.false),(j_ 181 0),(r_ a20),.none,.none,.none,.none,(j_ a21 0),(j_ a7 0),(p_ "/claim/cut.py" a26)])) #[])
abbrev t20 (a0 a2:Int) (a4:Nat) (a5:Int) (a9:Nat) (a10:Int) (a14:Nat) (a15:Int) (a19:Nat) (a20:Int) (a24:Nat) (a25:Int) (a29:Nat) (x:Params):Obj:=(@Obj.mk .none none (@Data.fields (List.toArray [(j_ a0 0),(j_ a2 0),(r_ a4),(j_ a5 0),(j_ a2 0),(r_ a9),(j_ a10 0),(j_ a2 0),(r_ a14),(j_ a15 0),(j_ a2 0),(r_ a19),(j_ a20 0),(j_ a2 0),(r_ a24),(j_ a25 0),(j_ a2 0),(r_ a29)])) #[])
abbrev t21 (a3 a8:Nat) (a9:String) (a10 a13:Nat) (a14:Int) (a15:Nat) (a16:String) (a18 a19:Nat) (a20:String) (a22 a23:Nat) (a24:String) (a26 a27:Nat) (a28:String) (a30 a31 a34 a35 a38 a39 a42 a43:Nat) (x:Params):Obj:=(@Obj.mk (.type "dict") none (@Data.dict (List.toArray [(e_ x "__module__" a3 (p_ "oddbases.ways" 355)),(e_ x "__qualname__" a8 (p_ a9 a10)),(e_ x "__firstlineno__" a13 (j_ a14 a15)),(e_ x a16 a18 (r_ a19)),(e_ x a20 a22 (r_ a23)),(e_ x a24 a26 (r_ a27)),(e_ x a28 a30 (r_ a31)),(e_ x "split" a34 (r_ a35)),(e_ x "has" a38 (r_ a39)),(e_ x "__static_attributes__" a42 (r_ a43))]) 10) #[])
abbrev t22 (x:Params):Obj:=(@Obj.mk (.type "builtin_function_or_method") none (@Data.fields (List.toArray [(.builtin "type.__prepare__"),(.type "type")])) #[])
abbrev t23 (a1:Nat) (x:Params):Obj:=(@Obj.mk (.type "tuple") none (@Data.seq (List.toArray [(r_ a1)]) 0) #[])
abbrev t24 (a3 a8:Nat) (a9:Int) (a10 a13 a14:Nat) (a15:String) (a17 a18:Nat) (a19:String) (a21 a22 a25 a26:Nat) (a27:String) (a29 a30 a33 a34 a37:Nat) (x:Params):Obj:=(@Obj.mk (.type "dict") none (@Data.dict (List.toArray [(e_ x "__module__" a3 (p_ "oddbases.ways" 355)),(e_ x "__firstlineno__" a8 (j_ a9 a10)),(e_ x "__init__" a13 (r_ a14)),(e_ x a15 a17 (r_ a18)),(e_ x a19 a21 (r_ a22)),(e_ x "ratio" a25 (r_ a26)),(e_ x a27 a29 (r_ a30)),(e_ x "__static_attributes__" a33 (r_ a34)),(e_ x "__doc__" a37 .none)]) 2) #[])
abbrev t25 (a0 a2:Int) (a4:Nat) (a5:Int) (a9:Nat) (a10:Int) (a14:Nat) (a15:Int) (a19:Nat) (a20:Int) (a24:Nat) (x:Params):Obj:=(@Obj.mk .none none (@Data.fields (List.toArray [(j_ a0 0),(j_ a2 0),(r_ a4),(j_ a5 0),(j_ a2 0),(r_ a9),(j_ a10 0),(j_ a2 0),(r_ a14),(j_ a15 0),(j_ a2 0),(r_ a19),(j_ a20 0),(j_ a2 0),(r_ a24)])) #[])
abbrev t26 (a3 a8:Nat) (a9:String) (a10 a13:Nat) (a14:Int) (a15 a18 a19:Nat) (a20:String) (a22 a23:Nat) (a24:String) (a26 a27 a30 a31:Nat) (a32:String) (a34 a35 a38 a39:Nat) (x:Params):Obj:=(@Obj.mk (.type "dict") none (@Data.dict (List.toArray [(e_ x "__module__" a3 (p_ "oddbases.ways" 355)),(e_ x "__qualname__" a8 (p_ a9 a10)),(e_ x "__firstlineno__" a13 (j_ a14 a15)),(e_ x "__init__" a18 (r_ a19)),(e_ x a20 a22 (r_ a23)),(e_ x a24 a26 (r_ a27)),(e_ x "ratio" a30 (r_ a31)),(e_ x a32 a34 (r_ a35)),(e_ x "__static_attributes__" a38 (r_ a39))]) 9) #[])
abbrev t27 (a3 a8:Nat) (a9:Int) (a10 a13 a14 a17 a18 a21 a22 a25 a26 a29:Nat) (x:Params):Obj:=(@Obj.mk (.type "dict") none (@Data.dict (List.toArray [(e_ x "__module__" a3 (p_ "oddbases.ways" 355)),(e_ x "__firstlineno__" a8 (j_ a9 a10)),(e_ x "__init__" a13 (r_ a14)),(e_ x "high" a17 (r_ a18)),(e_ x "ratio" a21 (r_ a22)),(e_ x "__static_attributes__" a25 (r_ a26)),(e_ x "__doc__" a29 .none)]) 2) #[])
abbrev t28 (a0 a2:Int) (a4:Nat) (a5:Int) (a9:Nat) (a10:Int) (a14:Nat) (x:Params):Obj:=(@Obj.mk .none none (@Data.fields (List.toArray [(j_ a0 0),(j_ a2 0),(r_ a4),(j_ a5 0),(j_ a2 0),(r_ a9),(j_ a10 0),(j_ a2 0),(r_ a14)])) #[])
abbrev t29 (a3 a8:Nat) (a9:String) (a10 a13:Nat) (a14:Int) (a15 a18 a19 a22 a23 a26 a27 a30 a31:Nat) (x:Params):Obj:=(@Obj.mk (.type "dict") none (@Data.dict (List.toArray [(e_ x "__module__" a3 (p_ "oddbases.ways" 355)),(e_ x "__qualname__" a8 (p_ a9 a10)),(e_ x "__firstlineno__" a13 (j_ a14 a15)),(e_ x "__init__" a18 (r_ a19)),(e_ x "high" a22 (r_ a23)),(e_ x "ratio" a26 (r_ a27)),(e_ x "__static_attributes__" a30 (r_ a31))]) 7) #[])
abbrev t30 (a0 a2:Int) (a4:Nat) (a5:Int) (a9:Nat) (a10:Int) (a14:Nat) (a15:Int) (a19:Nat) (x:Params):Obj:=(@Obj.mk .none none (@Data.fields (List.toArray [(j_ a0 0),(j_ a2 0),(r_ a4),(j_ a5 0),(j_ a2 0),(r_ a9),(j_ a10 0),(j_ a2 0),(r_ a14),(j_ a15 0),(j_ a2 0),(r_ a19)])) #[])
abbrev t31 (a2 a3:Nat) (x:Params):Obj:=(@Obj.mk (.type "getset_descriptor") none (@Data.fields (List.toArray [(p_ "__weakref__" a2),(r_ a3),(.builtin "ExceptionGroup.__weakref__"),.none])) #[])
abbrev t32 (a1:String) (a3 a9 a11 a13 a15:Nat) (x:Params):Obj:=(@Obj.mk (.type "type") none (@Data.cls (@ClassData.mk (.ofString a1) [(r_ 31)] [(r_ a3),(r_ 31),(.type "ValueError"),(.type "Exception"),(.type "BaseException"),(.type "object")] a9 (.ofString a1) @Bool.true [] [] @Bool.false (@Option.none @Bool) @Bool.false)) (@List.toArray (@Option @Value) [(some (r_ a11)),none,(some (p_ a1 a13)),(some (p_ a1 a15)),(some (.builtin "ValueError.__new__")),(some (.bool @Bool.true))]))
abbrev t33 (a3 a8:Nat) (a9:Int) (a10 a13 a14 a17:Nat) (x:Params):Obj:=(@Obj.mk (.type "dict") none (@Data.dict (List.toArray [(e_ x "__module__" a3 (p_ "oddbases.errors" 194)),(e_ x "__firstlineno__" a8 (j_ a9 a10)),(e_ x "__static_attributes__" a13 (r_ a14)),(e_ x "__doc__" a17 .none)]) 2) #[])
abbrev t34 (a3 a8:Nat) (a9:String) (a10 a13:Nat) (a14:Int) (a15 a18 a19:Nat) (x:Params):Obj:=(@Obj.mk (.type "dict") none (@Data.dict (List.toArray [(e_ x "__module__" a3 (p_ "oddbases.errors" 194)),(e_ x "__qualname__" a8 (p_ a9 a10)),(e_ x "__firstlineno__" a13 (j_ a14 a15)),(e_ x "__static_attributes__" a18 (r_ a19))]) 4) #[])
abbrev U37 (x:Params):DictEntry:=(e_ x "Way" 436 (r_ 202))
abbrev U36 (x:Params):DictEntry:=(e_ x "NoWay" 229 (r_ 44))
abbrev U35 (x:Params):DictEntry:=(e_ x "_wall" 193 (r_ 21))
abbrev U34 (x:Params):DictEntry:=(e_ x "__doc__" 166 .none)
abbrev U33 (x:Params):DictEntry:=(e_ x "Pairs" 751 (r_ 458))
abbrev U32 (x:Params):DictEntry:=(e_ x "Below" 526 (r_ 277))
abbrev U31 (x:Params):DictEntry:=(e_ x "Plain" 477 (r_ 237))
abbrev U30 (x:Params):DictEntry:=(e_ x "added" 326 (r_ 122))
abbrev U29 (x:Params):DictEntry:=(e_ x "__spec__" 169 .none)
abbrev U28 (x:Params):DictEntry:=(e_ x "NoRatio" 277 (r_ 80))
abbrev U27 (x:Params):DictEntry:=(e_ x "TooLess" 261 (r_ 68))
abbrev U26 (x:Params):DictEntry:=(e_ x "Falling" 682 (r_ 404))
abbrev U25 (x:Params):DictEntry:=(e_ x "Growing" 624 (r_ 357))
abbrev U24 (x:Params):DictEntry:=(e_ x "bounded" 365 (r_ 150))
abbrev U23 (x:Params):DictEntry:=(e_ x "trimmed" 354 (r_ 143))
abbrev U22 (x:Params):DictEntry:=(e_ x "as_pair" 316 (r_ 115))
abbrev U21 (x:Params):DictEntry:=(e_ x "is_pair" 309 (r_ 108))
abbrev U20 (x:Params):DictEntry:=(e_ x "OddError" 213 (r_ 31))
abbrev U19 (x:Params):DictEntry:=(e_ x "__cached__" 174 .none)
abbrev U18 (x:Params):DictEntry:=(e_ x "Balanced" 583 (r_ 324))
abbrev U17 (x:Params):DictEntry:=(e_ x "thing_at" 346 (r_ 136))
abbrev U16 (x:Params):DictEntry:=(e_ x "is_whole" 302 (r_ 101))
abbrev U15 (x:Params):DictEntry:=(e_ x "NoFalling" 293 (r_ 92))
abbrev U14 (x:Params):DictEntry:=(e_ x "NoWriting" 245 (r_ 56))
abbrev U13 (x:Params):DictEntry:=(e_ x "__package__" 167 .none)
abbrev U12 (x:Params):DictEntry:=(e_ x "multiplied" 336 (r_ 129))
abbrev U11 (x:Params):DictEntry:=(e_ x "__builtins__" 171 (r_ 4))
abbrev U10 (x:Params):DictEntry:=(e_ x "__annotations__" 170 (r_ 6))
abbrev U9 (x:Params):DictEntry:=(e_ x "has_figures_alone" 860 (r_ 530))
abbrev U8 (x:Params):DictEntry:=(e_ x "steps_and_writing" 817 (r_ 502))
abbrev U7 (x:Params):DictEntry:=(e_ x "held_to_be_a_heap" 762 (r_ 467))
abbrev U6 (x:Params):DictEntry:=(e_ x "figures_and_carries" 840 (r_ 516))
abbrev U5 (x:Params):DictEntry:=(e_ x "__name__" 165 (p_ "oddbases.ways" 355))
abbrev U4 (x:Params):DictEntry:=(e_ x "__file__" 173 (p_ "/claim/cut.py" 172))
abbrev U3 (x:Params):DictEntry:=(e_ x "__name__" 165 (p_ "oddbases.errors" 194))
abbrev U2 (x:Params):DictEntry:=(e_ x "has_mosts_above_noughts_alone" 869 (r_ 537))
abbrev U1 (x:Params):DictEntry:=(e_ x "__name__" 165 (p_ "law_oddbases_k33_products" 943))
abbrev U0 (x:Params):DictEntry:=(e_ x "__loader__" 168 (.builtin "__main__.__loader__#opaque"))
def XV:=t0 "law" 61 "law_oddbases_k33_products" 943 670
def XW:=t1 "law" 1055 "law" 1056 1057 382 1 665 666 667 668 669 1068 1069
def Uo:=t2 "law" 61
def za:=t3
def XX (x:Params):Obj:=(@Obj.mk (.type "tuple") none (@Data.seq (List.toArray [(p_ "_law_script" 1058),(p_ "_law_kind" 1059),(p_ "_law_by" 1060),(p_ "_law_one" 1061),(p_ "_law_other" 1062),(p_ "_law_way_here" 1063),(p_ "_law_due" 1064),(p_ "_law_handed" 1065),(p_ "_law_found" 1066),(p_ "_law_kept" 1067)]) 0) #[])
def ze:=t4
def XY:=t0 "_law_product" 60 "law_oddbases_k33_products" 943 663
def XZ:=t1 "_law_product" 1046 "_law_product" 1047 1048 378 3 658 659 660 661 662 1052 1053
def Up:=t2 "_law_product" 60
def X0:=t5 "_law_kind" 1049 "_law_one" 1050 "_law_other" 1051
def X1:=t0 "_law_two" 59 "law_oddbases_k33_products" 943 656
def X2:=t6 "_law_two" 1040 1041 1042 374 4 653 654 655 1043 1044
def Uq:=t2 "_law_two" 59
def X3:=t0 "_law_number" 58 "law_oddbases_k33_products" 943 651
def X4:=t1 "_law_number" 1026 "_law_number" 1027 1028 358 3 646 647 648 649 650 1037 1038
def Ur:=t2 "_law_number" 58
def X5 (x:Params):Obj:=(@Obj.mk (.type "tuple") none (@Data.seq (List.toArray [(p_ "_law_kind" 1029),(p_ "_law_by" 1030),(p_ "_law_row" 1031),(p_ "_law_here" 1032),(p_ "_law_total" 1033),(p_ "_law_lower" 1034),(p_ "_law_place" 1035),(p_ "_law_ahead" 1036)]) 0) #[])
def X6:=t0 "_law_next" 57 "law_oddbases_k33_products" 943 644
def X7:=t1 "_law_next" 1015 "_law_next" 1016 1017 350 5 639 640 641 642 643 1023 1024
def Us:=t2 "_law_next" 57
def X8:=t7 "_law_kind" 1018 "_law_by" 1019 "_law_place" 1020 "_law_here" 1021 "_law_lower" 1022
def X9:=t0 "_law_legal" 56 "law_oddbases_k33_products" 943 637
def X_:=t1 "_law_legal" 1003 "_law_legal" 1004 1005 340 3 632 633 634 635 636 1012 1013
def Ut:=t2 "_law_legal" 56
def Wa:=t8 "_law_kind" 1006 "_law_by" 1007 "_law_row" 1008 "_law_place" 1009 "_law_low" 1010 "_law_high" 1011
def Wb:=t0 "_law_figures" 55 "law_oddbases_k33_products" 943 630
def Wc:=t1 "_law_figures" 988 "_law_figures" 989 990 324 3 625 626 627 628 629 1000 1001
def Uu:=t2 "_law_figures" 55
def Wd (x:Params):Obj:=(@Obj.mk (.type "tuple") none (@Data.seq (List.toArray [(p_ "_law_kind" 991),(p_ "_law_by" 992),(p_ "_law_cells" 993),(p_ "_law_row" 994),(p_ "_law_place" 995),(p_ "_law_mixed_here" 996),(p_ "_law_low" 997),(p_ "_law_high" 998),(p_ "_law_some" 999)]) 0) #[])
def We:=t0 "_law_span" 54 "law_oddbases_k33_products" 943 623
def Wf:=t1 "_law_span" 979 "_law_span" 980 981 314 3 618 619 620 621 622 985 986
def Uv:=t2 "_law_span" 54
def Wg:=t5 "_law_kind" 982 "_law_by" 983 "_law_place" 984
def Wi:=t0 "_law_way" 53 "law_oddbases_k33_products" 943 616
def Wj:=t1 "_law_way" 971 "_law_way" 972 973 302 2 611 612 613 614 615 976 977
def Ux:=t2 "_law_way" 53
def Wk:=t9 "_law_kind" 974 "_law_by" 975
def Wl:=t0 "_law_pick" 52 "law_oddbases_k33_products" 943 609
def Wm:=t1 "_law_pick" 960 "_law_pick" 961 962 290 1 604 605 606 607 608 968 969
def Uy:=t2 "_law_pick" 52
def Wn:=t7 "_law_cell" 963 "_law_mixed_here" 964 "_law_kind" 965 "_law_rest" 966 "_law_some" 967
def Wo:=t0 "_law_mixed" 51 "law_oddbases_k33_products" 943 602
def Wp:=t1 "_law_mixed" 953 "_law_mixed" 954 955 288 1 597 598 599 600 601 957 958
def Uz:=t2 "_law_mixed" 51
def Wq:=t10 "_law_cell" 956
def Wr:=t0 "_law_cell_at" 50 "law_oddbases_k33_products" 943 595
def Ws:=t1 "_law_cell_at" 945 "_law_cell_at" 946 947 284 2 590 591 592 593 594 950 951
def UA:=t2 "_law_cell_at" 50
def Wt:=t9 "_law_script" 948 "_law_k" 949
def Wu:=t0 "times" 48 "oddbases.sums" 895 588
def Wv:=t1 "times" 934 "times" 935 936 278 3 583 584 585 586 587 940 941
def UB:=t2 "times" 48
def Ww:=t5 "way" 937 "one" 938 "other" 939
def Wx:=t0 "times_in_falling" 47 "oddbases.sums" 895 581
def Wy:=t1 "times_in_falling" 921 "times_in_falling" 922 923 270 3 576 577 578 579 580 931 932
def UC:=t2 "times_in_falling" 47
def Wz:=t11 "way" 924 "one" 925 "other" 926 "product" 927 "ahead" 928 "place" 929 "above" 930
def WA:=t0 "times_by_ratio" 46 "oddbases.sums" 895 574
def WB:=t1 "times_by_ratio" 909 "times_by_ratio" 910 911 264 3 569 570 571 572 573 918 919
def UD:=t2 "times_by_ratio" 46
def WC:=t8 "way" 912 "one" 913 "other" 914 "product" 915 "place" 916 "above" 917
def WD:=t0 "row_times" 45 "oddbases.sums" 895 567
def WE:=t6 "row_times" 903 904 905 262 2 564 565 566 906 907
def UE:=t2 "row_times" 45
def WF:=t0 "row_plus" 44 "oddbases.sums" 895 562
def WG:=t6 "row_plus" 897 898 899 259 2 559 560 561 900 901
def UF:=t2 "row_plus" 44
def WH:=t0 "written_row" 42 "oddbases.writings" 849 557
def WI:=t1 "written_row" 887 "written_row" 888 889 254 2 552 553 554 555 556 892 893
def UG:=t2 "written_row" 42
def WJ:=t9 "way" 890 "row" 891
def WK:=t0 "held_to_be_writings" 41 "oddbases.writings" 849 550
def WL:=t1 "held_to_be_writings" 878 "held_to_be_writings" 879 880 250 2 545 546 547 548 549 884 885
def UH:=t2 "held_to_be_writings" 41
def WM:=t5 "way" 881 "rows" 882 "row" 883
def WN:=t0 "is_writing" 40 "oddbases.writings" 849 543
def Ze:=t1 "is_writing" 870 "is_writing" 871 872 244 2 538 539 540 541 542 875 876
def WO:=t2 "is_writing" 40
def Zf:=t9 "way" 873 "row" 874
def Zg:=t0 "has_mosts_above_noughts_alone" 39 "oddbases.writings" 849 536
def Zh:=t1 "has_mosts_above_noughts_alone" 861 "has_mosts_above_noughts_alone" 862 863 239 2 531 532 533 534 535 867 868
def WP:=t2 "has_mosts_above_noughts_alone" 39
def Zi:=t5 "way" 864 "row" 865 "place" 866
def Zj:=t0 "has_figures_alone" 38 "oddbases.writings" 849 529
def Zk:=t1 "has_figures_alone" 851 "has_figures_alone" 852 853 234 2 524 525 526 527 528 858 859
def WQ:=t2 "has_figures_alone" 38
def Zl:=t12 "way" 854 "row" 855 "place" 856 "thing" 857
def Zm:=t0 "settled" 36 "oddbases.settling" 826 522
def Zo:=t1 "settled" 841 "settled" 842 843 231 2 517 518 519 520 521 846 847
def WR:=t2 "settled" 36
def Zp:=t9 "way" 844 "totals" 845
def Zq:=t0 "figures_and_carries" 35 "oddbases.settling" 826 515
def Zr:=t1 "figures_and_carries" 828 "figures_and_carries" 829 830 216 2 510 511 512 513 514 838 839
def WS:=t2 "figures_and_carries" 35
def Zs:=t11 "way" 831 "totals" 832 "figures" 833 "carry" 834 "found" 835 "place" 836 "parts" 837
def cc:=t0 "fallen" 33 "oddbases.falls" 752 508
def ce:=t1 "fallen" 818 "fallen" 819 820 213 2 503 504 505 506 507 823 824
def Zt:=t2 "fallen" 33
def cf:=t9 "way" 821 "heap" 822
def cg:=t0 "steps_and_writing" 32 "oddbases.falls" 752 501
def ci:=t1 "steps_and_writing" 805 "steps_and_writing" 806 807 198 2 496 497 498 499 500 815 816
def Zu:=t2 "steps_and_writing" 32
def cj:=t11 "way" 808 "heap" 809 "done" 810 "left" 811 "place" 812 "step" 813 "many" 814
def ck:=t0 "how_often" 31 "oddbases.falls" 752 494
def cm:=t1 "how_often" 795 "how_often" 796 797 193 3 489 490 491 492 493 802 803
def Zv:=t2 "how_often" 31
def cn:=t12 "way" 798 "heap" 799 "step" 800 "place" 801
def Zw:=t0 "step_at" 30 "oddbases.falls" 752 487
def Zy:=t1 "step_at" 786 "step_at" 787 788 187 3 482 483 484 485 486 792 793
def WT:=t2 "step_at" 30
def Zz:=t5 "way" 789 "heap" 790 "place" 791
def ZA:=t0 "do_steps" 29 "oddbases.falls" 752 480
def ZB:=t1 "do_steps" 774 "do_steps" 775 776 182 4 475 476 477 478 479 783 784
def WU:=t2 "do_steps" 29
def ZC:=t8 "way" 777 "heap" 778 "step" 779 "many" 780 "place" 781 "things" 782
def ZD:=t0 "changes" 28 "oddbases.falls" 752 473
def ZE:=t1 "changes" 763 "changes" 764 765 170 2 468 469 470 471 472 771 772
def WV:=t2 "changes" 28
def ZF:=t7 "way" 766 "step" 767 "kind" 768 "place" 769 "parted" 770
def ZG:=t0 "held_to_be_a_heap" 27 "oddbases.falls" 752 466
def ZH:=t1 "held_to_be_a_heap" 754 "held_to_be_a_heap" 755 756 164 2 461 462 463 464 465 760 761
def WW:=t2 "held_to_be_a_heap" 27
def ZI:=t5 "way" 757 "heap" 758 "things" 759
def ZJ:=t13 458
def ZK:=t14 458
def cp:=t15 "Pairs" 458 457 407 683 691
def cq (x:Params):Obj:=(@Obj.mk (.type "dict") none (@Data.dict (List.toArray [(e_ x "__module__" 690 (p_ "oddbases.ways" 355)),(e_ x "__firstlineno__" 694 (j_ 140 693)),(e_ x "__init__" 702 (r_ 420)),(e_ x "nought" 709 (r_ 427)),(e_ x "high" 717 (r_ 434)),(e_ x "ratio" 725 (r_ 441)),(e_ x "split" 738 (r_ 448)),(e_ x "has" 746 (r_ 455)),(e_ x "__static_attributes__" 748 (r_ 456)),(e_ x "__doc__" 749 .none)]) 2) #[])
def cr:=t10 "most" 747
def cu:=t16 "has" "Pairs.has" 25 5 454
def cv:=t1 "has" 739 "Pairs.has" 740 741 161 2 449 450 451 452 453 744 745
def ZL:=t17 "has" "Pairs.has" 25 5
def cw:=t9 "self" 742 "number" 743
def cx:=t16 "split" "Pairs.split" 25 4 447
def cy:=t1 "split" 726 "Pairs.split" 727 728 154 3 442 443 444 445 446 736 737
def ZM:=t17 "split" "Pairs.split" 25 4
def cz:=t11 "self" 729 "total" 730 "place" 731 "pair" 732 "figures" 733 "figure" 734 "turned" 735
def cA:=t16 "ratio" "Pairs.ratio" 25 3 440
def cB:=t1 "ratio" 718 "Pairs.ratio" 719 720 151 2 435 436 437 438 439 723 724
def ZN:=t17 "ratio" "Pairs.ratio" 25 3
def cC:=t9 "self" 721 "place" 722
def cD:=t16 "high" "Pairs.high" 25 2 433
def cE:=t1 "high" 710 "Pairs.high" 711 712 148 2 428 429 430 431 432 715 716
def ZO:=t17 "high" "Pairs.high" 25 2
def cF:=t9 "self" 713 "place" 714
def cG:=t16 "nought" "Pairs.nought" 25 1 426
def cH:=t1 "nought" 703 "Pairs.nought" 704 705 145 1 421 422 423 424 425 707 708
def ZP:=t17 "nought" "Pairs.nought" 25 1
def cI:=t10 "self" 706
def cJ:=t16 "__init__" "Pairs.__init__" 25 0 419
def cK:=t1 "__init__" 695 "Pairs.__init__" 696 697 142 2 414 415 416 417 418 700 701
def ZQ:=t17 "__init__" "Pairs.__init__" 25 0
def cL:=t9 "self" 698 "most" 699
def cM:=t18 412 409 "oddbases.ways" 355
def cN:=t19 "Pairs" 685 686 687 140 410 411 688 689
def cO:=t20 142 4 419 145 426 148 433 151 440 154 447 161 454
def ZR:=t21 690 692 "Pairs" 691 694 140 693 "__init__" 702 420 "nought" 709 427 "high" 717 434 "ratio" 725 441 738 448 746 455 748 456
def zn:=t22
def z_:=t23 202
def ZS:=t13 404
def ZT:=t14 404
def cQ:=t15 "Falling" 404 403 360 625 633
def cR:=t24 632 636 124 635 644 373 "high" 652 380 "weights" 660 387 668 394 "split" 677 401 679 402 680
def cS:=t10 "most" 678
def cT:=t16 "split" "Falling.split" 24 4 400
def cU:=t1 "split" 669 "Falling.split" 670 671 138 3 395 396 397 398 399 675 676
def ZU:=t17 "split" "Falling.split" 24 4
def cV:=t5 "self" 672 "total" 673 "place" 674
def gY:=t16 "ratio" "Falling.ratio" 24 3 393
def gZ:=t1 "ratio" 661 "Falling.ratio" 662 663 135 2 388 389 390 391 392 666 667
def cW:=t17 "ratio" "Falling.ratio" 24 3
def g6:=t9 "self" 664 "place" 665
def g7:=t16 "weights" "Falling.weights" 24 2 386
def g8:=t1 "weights" 653 "Falling.weights" 654 655 132 2 381 382 383 384 385 658 659
def cX:=t17 "weights" "Falling.weights" 24 2
def g9:=t9 "self" 656 "many" 657
def kM:=t16 "high" "Falling.high" 24 1 379
def kN:=t1 "high" 645 "Falling.high" 646 647 129 2 374 375 376 377 378 650 651
def fc:=t17 "high" "Falling.high" 24 1
def kO:=t9 "self" 648 "place" 649
def kP:=t16 "__init__" "Falling.__init__" 24 0 372
def kQ:=t1 "__init__" 637 "Falling.__init__" 638 639 126 2 367 368 369 370 371 642 643
def fe:=t17 "__init__" "Falling.__init__" 24 0
def kR:=t9 "self" 640 "most" 641
def ff:=t18 365 362 "oddbases.ways" 355
def fg:=t19 "Falling" 627 628 629 124 363 364 630 631
def fh:=t25 126 4 372 129 379 132 386 135 393 138 400
def fj:=t26 632 634 "Falling" 633 636 124 635 644 373 "high" 652 380 "weights" 660 387 668 394 "split" 677 401 679 402
def cY:=t13 357
def cZ:=t14 357
def fk:=t15 "Growing" 357 356 327 584 592
def fm:=t27 591 595 114 594 603 340 611 347 619 354 621 355 622
def fq:=t10 "first" 620
def ft:=t16 "ratio" "Growing.ratio" 23 2 353
def fu:=t1 "ratio" 612 "Growing.ratio" 613 614 122 2 348 349 350 351 352 617 618
def c5:=t17 "ratio" "Growing.ratio" 23 2
def fv:=t9 "self" 615 "place" 616
def fw:=t16 "high" "Growing.high" 23 1 346
def fA:=t1 "high" 604 "Growing.high" 605 606 119 2 341 342 343 344 345 609 610
def c6:=t17 "high" "Growing.high" 23 1
def fB:=t9 "self" 607 "place" 608
def fC:=t16 "__init__" "Growing.__init__" 23 0 339
def fD:=t1 "__init__" 596 "Growing.__init__" 597 598 116 2 334 335 336 337 338 601 602
def c7:=t17 "__init__" "Growing.__init__" 23 0
def fE:=t9 "self" 599 "first" 600
def c8:=t18 332 329 "oddbases.ways" 355
def fF:=t19 "Growing" 586 587 588 114 330 331 589 590
def fG:=t28 116 4 339 119 346 122 353
def fH:=t29 591 593 "Growing" 592 595 114 594 603 340 611 347 619 354 621 355
def fI:=t13 324
def fJ:=t14 324
def kS:=t15 "Balanced" 324 323 280 527 535
def kT:=t24 534 538 98 537 546 293 "low" 554 300 "high" 562 307 570 314 "has" 578 321 580 322 581
def kU:=t10 "half" 579
def kW:=t16 "has" "Balanced.has" 22 4 320
def kX:=t1 "has" 571 "Balanced.has" 572 573 112 2 315 316 317 318 319 576 577
def fK:=t17 "has" "Balanced.has" 22 4
def kY:=t9 "self" 574 "number" 575
def kZ:=t16 "ratio" "Balanced.ratio" 22 3 313
def k_:=t1 "ratio" 563 "Balanced.ratio" 564 565 109 2 308 309 310 311 312 568 569
def fL:=t17 "ratio" "Balanced.ratio" 22 3
def ja:=t9 "self" 566 "place" 567
def jb:=t16 "high" "Balanced.high" 22 2 306
def jc:=t1 "high" 555 "Balanced.high" 556 557 106 2 301 302 303 304 305 560 561
def fM:=t17 "high" "Balanced.high" 22 2
def jd:=t9 "self" 558 "place" 559
def je:=t16 "low" "Balanced.low" 22 1 299
def jf:=t1 "low" 547 "Balanced.low" 548 549 103 2 294 295 296 297 298 552 553
def fN:=t17 "low" "Balanced.low" 22 1
def jg:=t9 "self" 550 "place" 551
def jh:=t16 "__init__" "Balanced.__init__" 22 0 292
def ji:=t1 "__init__" 539 "Balanced.__init__" 540 541 100 2 287 288 289 290 291 544 545
def fO:=t17 "__init__" "Balanced.__init__" 22 0
def jk:=t9 "self" 542 "half" 543
def jl:=t18 285 282 "oddbases.ways" 355
def jm:=t19 "Balanced" 529 530 531 98 283 284 532 533
def jn:=t25 100 4 292 103 299 106 306 109 313 112 320
def jo:=t26 534 536 "Balanced" 535 538 98 537 546 293 "low" 554 300 "high" 562 307 570 314 "has" 578 321 580 322
def fP:=t13 277
def fQ:=t14 277
def jp:=t15 "Below" 277 276 240 478 486
def jq (x:Params):Obj:=(@Obj.mk (.type "dict") none (@Data.dict (List.toArray [(e_ x "__module__" 485 (p_ "oddbases.ways" 355)),(e_ x "__firstlineno__" 489 (j_ 85 488)),(e_ x "__init__" 497 (r_ 253)),(e_ x "high" 505 (r_ 260)),(e_ x "ratio" 513 (r_ 267)),(e_ x "has" 521 (r_ 274)),(e_ x "__static_attributes__" 523 (r_ 275)),(e_ x "__doc__" 524 .none)]) 2) #[])
def jr:=t10 "base" 522
def jt:=t16 "has" "Below.has" 21 3 273
def ju:=t1 "has" 514 "Below.has" 515 516 96 2 268 269 270 271 272 519 520
def fR:=t17 "has" "Below.has" 21 3
def jv:=t9 "self" 517 "number" 518
def mW:=t16 "ratio" "Below.ratio" 21 2 266
def ni:=t1 "ratio" 506 "Below.ratio" 507 508 93 2 261 262 263 264 265 511 512
def jw:=t17 "ratio" "Below.ratio" 21 2
def mX:=t9 "self" 509 "place" 510
def mY:=t16 "high" "Below.high" 21 1 259
def mZ:=t1 "high" 498 "Below.high" 499 500 90 2 254 255 256 257 258 503 504
def jx:=t17 "high" "Below.high" 21 1
def m9:=t9 "self" 501 "place" 502
def nj:=t16 "__init__" "Below.__init__" 21 0 252
def nk:=t1 "__init__" 490 "Below.__init__" 491 492 87 2 247 248 249 250 251 495 496
def m_:=t17 "__init__" "Below.__init__" 21 0
def nl:=t9 "self" 493 "base" 494
def ld:=t18 245 242 "oddbases.ways" 355
def lf:=t19 "Below" 480 481 482 85 243 244 483 484
def lh:=t30 87 4 252 90 259 93 266 96 273
def lj (x:Params):Obj:=(@Obj.mk (.type "dict") none (@Data.dict (List.toArray [(e_ x "__module__" 485 (p_ "oddbases.ways" 355)),(e_ x "__qualname__" 487 (p_ "Below" 486)),(e_ x "__firstlineno__" 489 (j_ 85 488)),(e_ x "__init__" 497 (r_ 253)),(e_ x "high" 505 (r_ 260)),(e_ x "ratio" 513 (r_ 267)),(e_ x "has" 521 (r_ 274)),(e_ x "__static_attributes__" 523 (r_ 275))]) 8) #[])
def nn:=t13 237
def nq:=t14 237
def qY:=t15 "Plain" 237 236 207 437 445
def qZ:=t27 444 448 75 447 456 220 464 227 472 234 474 235 475
def q8:=t10 "base" 473
def q9:=t16 "ratio" "Plain.ratio" 20 2 233
def nr:=t1 "ratio" 465 "Plain.ratio" 466 467 83 2 228 229 230 231 232 470 471
def ln:=t17 "ratio" "Plain.ratio" 20 2
def nt:=t9 "self" 468 "place" 469
def nu:=t16 "high" "Plain.high" 20 1 226
def nv:=t1 "high" 457 "Plain.high" 458 459 80 2 221 222 223 224 225 462 463
def lp:=t17 "high" "Plain.high" 20 1
def nw:=t9 "self" 460 "place" 461
def nA:=t16 "__init__" "Plain.__init__" 20 0 219
def nB:=t1 "__init__" 449 "Plain.__init__" 450 451 77 2 214 215 216 217 218 454 455
def lq:=t17 "__init__" "Plain.__init__" 20 0
def nC:=t9 "self" 452 "base" 453
def jy:=t18 212 209 "oddbases.ways" 355
def jz:=t19 "Plain" 439 440 441 75 210 211 442 443
def jA:=t28 77 4 219 80 226 83 233
def jB:=t29 444 446 "Plain" 445 448 75 447 456 220 464 227 472 234 474 235
def lu:=t13 202
def lv:=t14 202
def q_:=t31 432 202
def pd (x:Params):Obj:=(@Obj.mk (.type "getset_descriptor") none (@Data.fields (List.toArray [(p_ "__dict__" 430),(r_ 202),(.builtin "function.__dict__"),(.builtin "function.__dict__#set")])) #[])
def cP (x:Params):Obj:=(@Obj.mk (.type "type") none (@Data.cls (@ClassData.mk (.ofString "Way") [(.type "object")] [(r_ 202),(.type "object")] 201 (.ofString "Way") @Bool.true [] [(r_ 237),(r_ 277),(r_ 324),(r_ 357),(r_ 404),(r_ 458)] @Bool.false (@Option.none @Bool) @Bool.false)) (@List.toArray (@Option @Value) [none,none,(some (p_ "Way" 366)),(some (p_ "Way" 374)),(some (.builtin "object.__new__")),(some (.bool @Bool.true))]))
def pe (x:Params):Obj:=(@Obj.mk (.type "dict") none (@Data.dict (List.toArray [(e_ x "__module__" 373 (p_ "oddbases.ways" 355)),(e_ x "__firstlineno__" 377 (j_ 53 376)),(e_ x "nought" 384 (r_ 164)),(e_ x "low" 392 (r_ 171)),(e_ x "weights" 400 (r_ 178)),(e_ x "weight" 408 (r_ 185)),(e_ x "split" 420 (r_ 192)),(e_ x "has" 428 (r_ 199)),(e_ x "__static_attributes__" 429 (r_ 200)),(e_ x "__dict__" 431 (r_ 203)),(e_ x "__weakref__" 433 (r_ 204)),(e_ x "__doc__" 434 .none)]) 4) #[])
def pf:=t16 "has" "Way.has" 19 5 198
def ph:=t1 "has" 421 "Way.has" 422 423 73 2 193 194 195 196 197 426 427
def nD:=t17 "has" "Way.has" 19 5
def pj:=t9 "self" 424 "number" 425
def pq:=t16 "split" "Way.split" 19 4 191
def pr:=t1 "split" 409 "Way.split" 410 411 67 3 186 187 188 189 190 418 419
def nE:=t17 "split" "Way.split" 19 4
def pC:=t8 "self" 412 "total" 413 "place" 414 "low" 415 "figures" 416 "figure" 417
def pD:=t16 "weight" "Way.weight" 19 3 184
def pE:=t1 "weight" 401 "Way.weight" 402 403 64 2 179 180 181 182 183 406 407
def nG:=t17 "weight" "Way.weight" 19 3
def pF:=t9 "self" 404 "place" 405
def pG:=t16 "weights" "Way.weights" 19 2 177
def pH:=t1 "weights" 393 "Way.weights" 394 395 61 2 172 173 174 175 176 398 399
def nH:=t17 "weights" "Way.weights" 19 2
def pI:=t9 "self" 396 "many" 397
def pJ:=t16 "low" "Way.low" 19 1 170
def pK:=t1 "low" 385 "Way.low" 386 387 58 2 165 166 167 168 169 390 391
def nI:=t17 "low" "Way.low" 19 1
def pL:=t9 "self" 388 "place" 389
def pM:=t16 "nought" "Way.nought" 19 0 163
def pN:=t1 "nought" 378 "Way.nought" 379 380 55 1 158 159 160 161 162 382 383
def nJ:=t17 "nought" "Way.nought" 19 0
def pO:=t10 "self" 381
def pP:=t18 156 153 "oddbases.ways" 355
def pQ:=t19 "Way" 368 369 370 53 154 155 371 372
def pR:=t20 55 4 163 58 170 61 177 64 184 67 191 73 198
def nK:=t21 373 375 "Way" 374 377 53 376 "nought" 384 164 "low" 392 171 "weights" 400 178 "weight" 408 185 420 192 428 199 429 200
def pS:=t0 "bounded" 18 "oddbases.ways" 355 149
def pT:=t1 "bounded" 357 "bounded" 358 359 49 3 144 145 146 147 148 363 364
def nL:=t2 "bounded" 18
def pU:=t5 "number" 360 "least" 361 "most" 362
def pV:=t0 "trimmed" 16 "oddbases.rows" 337 142
def pW:=t1 "trimmed" 347 "trimmed" 348 349 43 1 137 138 139 140 141 352 353
def nM:=t2 "trimmed" 16
def qc:=t9 "row" 350 "things" 351
def qd:=t0 "thing_at" 15 "oddbases.rows" 337 135
def qe:=t1 "thing_at" 339 "thing_at" 340 341 39 2 130 131 132 133 134 344 345
def pX:=t2 "thing_at" 15
def qf:=t9 "row" 342 "place" 343
def qg:=t0 "multiplied" 13 "oddbases.pairs" 294 128
def qh:=t1 "multiplied" 327 "multiplied" 328 329 32 2 123 124 125 126 127 334 335
def pY:=t2 "multiplied" 13
def uW:=t12 "one" 330 "other" 331 "left" 332 "right" 333
def uX:=t0 "added" 12 "oddbases.pairs" 294 121
def uY:=t1 "added" 317 "added" 318 319 26 2 116 117 118 119 120 324 325
def sI:=t2 "added" 12
def uZ:=t12 "one" 320 "other" 321 "left" 322 "right" 323
def u0:=t0 "as_pair" 11 "oddbases.pairs" 294 114
def u3:=t1 "as_pair" 310 "as_pair" 311 312 22 1 109 110 111 112 113 314 315
def sJ:=t2 "as_pair" 11
def u4:=t10 "number" 313
def u5:=t0 "is_pair" 10 "oddbases.pairs" 294 107
def u6:=t1 "is_pair" 303 "is_pair" 304 305 20 1 102 103 104 105 106 307 308
def sK:=t2 "is_pair" 10
def sL:=t10 "value" 306
def sM:=t0 "is_whole" 9 "oddbases.pairs" 294 100
def sN:=t1 "is_whole" 296 "is_whole" 297 298 18 1 95 96 97 98 99 300 301
def qi:=t2 "is_whole" 9
def qj:=t10 "value" 299
def sO:=t13 92
def sP:=t14 92
def u7:=t32 "NoFalling" 92 91 83 278 286
def u8:=t33 285 289 15 288 290 90 291
def sQ:=t18 88 85 "oddbases.errors" 194
def sR:=t19 "NoFalling" 280 281 282 15 86 87 283 284
def qk:=t34 285 287 "NoFalling" 286 289 15 288 290 90
def zD:=t23 31
def sS:=t13 80
def sT:=t14 80
def u_:=t32 "NoRatio" 80 79 71 262 270
def tj:=t33 269 273 13 272 274 78 275
def sU:=t18 76 73 "oddbases.errors" 194
def tm:=t19 "NoRatio" 264 265 266 13 74 75 267 268
def tq:=t34 269 271 "NoRatio" 270 273 13 272 274 78
def tu:=t13 68
def tw:=t14 68
def ui:=t32 "TooLess" 68 67 59 246 254
def uj:=t33 253 257 11 256 258 66 259
def tx:=t18 64 61 "oddbases.errors" 194
def tz:=t19 "TooLess" 248 249 250 11 62 63 251 252
def vV:=t34 253 255 "TooLess" 254 257 11 256 258 66
def vI:=t13 56
def o99:=t14 56
def o98:=t32 "NoWriting" 56 55 47 230 238
def o97:=t33 237 241 9 240 242 54 243
def o95:=t18 52 49 "oddbases.errors" 194
def o94:=t19 "NoWriting" 232 233 234 9 50 51 235 236
def o91:=t34 237 239 "NoWriting" 238 241 9 240 242 54
def o85:=t13 44
def o84:=t14 44
def o83:=t32 "NoWay" 44 43 35 214 222
def o82:=t33 221 225 7 224 226 42 227
def o80:=t18 40 37 "oddbases.errors" 194
def o79:=t19 "NoWay" 216 217 218 7 38 39 219 220
def o76:=t34 221 223 "NoWay" 222 225 7 224 226 42
def o70:=t13 31
def o69:=t14 31
def o68:=t31 209 31
def u9 (x:Params):Obj:=(@Obj.mk (.type "type") none (@Data.cls (@ClassData.mk (.ofString "OddError") [(.type "ValueError")] [(r_ 31),(.type "ValueError"),(.type "Exception"),(.type "BaseException"),(.type "object")] 30 (.ofString "OddError") @Bool.true [] [(r_ 44),(r_ 56),(r_ 68),(r_ 80),(r_ 92)] @Bool.false (@Option.none @Bool) @Bool.false)) (@List.toArray (@Option @Value) [(some (r_ 22)),none,(some (p_ "OddError" 196)),(some (p_ "OddError" 204)),(some (.builtin "ValueError.__new__")),(some (.bool @Bool.true))]))
def o66 (x:Params):Obj:=(@Obj.mk (.type "dict") none (@Data.dict (List.toArray [(e_ x "__module__" 203 (p_ "oddbases.errors" 194)),(e_ x "__firstlineno__" 207 (j_ 5 206)),(e_ x "__static_attributes__" 208 (r_ 29)),(e_ x "__weakref__" 210 (r_ 32)),(e_ x "__doc__" 211 .none)]) 3) #[])
def o64:=t18 27 24 "oddbases.errors" 194
def o63:=t19 "OddError" 198 199 200 5 25 26 201 202
def o60:=t34 203 205 "OddError" 204 207 5 206 208 29
def o58 (x:Params):Obj:=(@Obj.mk (.type "tuple") none (@Data.seq (List.toArray [(.type "ValueError")]) 0) #[])
def o57:=t0 "_wall" 0 "__main__" 164 20
def o56:=t1 "_wall" 187 "_wall" 188 189 1 1 15 16 17 18 19 191 192
def o55:=t2 "_wall" 0
def o53:=t10 "k" 190
def o46:=t18 13 3 "__main__" 164
def o45:=t19 "<module>" 182 183 184 1 11 12 185 186
def Uw (x:Params):Obj:=(@Obj.mk .none none (@Data.fields (List.toArray ((j_ 1 0)::(j_ 0 0)::(r_ 20)::(j_ 5 0)::(j_ 0 0)::(r_ 27)::(j_ 7 0)::(j_ 0 0)::(r_ 40)::(j_ 9 0)::(j_ 0 0)::(r_ 52)::(j_ 11 0)::(j_ 0 0)::(r_ 64)::(j_ 13 0)::(j_ 0 0)::(r_ 76)::(j_ 15 0)::(j_ 0 0)::(r_ 88)::(j_ 18 0)::(j_ 0 0)::(r_ 100)::(j_ 20 0)::(j_ 0 0)::(r_ 107)::(j_ 22 0)::(j_ 0 0)::(r_ 114)::(j_ 26 0)::(j_ 0 0)::(r_ 121)::(j_ 32 0)::(j_ 0 0)::(r_ 128)::(j_ 39 0)::(j_ 0 0)::(r_ 135)::(j_ 43 0)::(j_ 0 0)::(r_ 142)::(j_ 49 0)::(j_ 0 0)::(r_ 149)::(j_ 53 0)::(j_ 0 0)::(r_ 156)::(j_ 75 0)::(j_ 0 0)::(r_ 212)::(j_ 85 0)::(j_ 0 0)::(r_ 245)::(j_ 98 0)::(j_ 0 0)::(r_ 285)::(j_ 114 0)::(j_ 0 0)::(r_ 332)::(j_ 124 0)::(j_ 0 0)::(r_ 365)::(j_ 140 0)::(j_ 0 0)::(r_ 412)::(j_ 164 0)::(j_ 0 0)::(r_ 466)::(j_ 170 0)::(j_ 0 0)::(r_ 473)::(j_ 182 0)::(j_ 0 0)::(r_ 480)::(j_ 187 0)::(j_ 0 0)::(r_ 487)::(j_ 193 0)::(j_ 0 0)::(r_ 494)::(j_ 198 0)::(j_ 0 0)::(r_ 501)::(j_ 213 0)::(j_ 0 0)::(r_ 508)::(j_ 216 0)::(j_ 0 0)::(r_ 515)::(j_ 231 0)::(j_ 0 0)::(r_ 522)::(j_ 234 0)::(j_ 0 0)::(r_ 529)::(j_ 239 0)::(j_ 0 0)::(r_ 536)::(j_ 244 0)::(j_ 0 0)::(r_ 543)::(j_ 250 0)::(j_ 0 0)::(r_ 550)::(j_ 254 0)::(j_ 0 0)::(r_ 557)::(j_ 259 0)::(j_ 0 0)::(r_ 562)::(j_ 262 0)::(j_ 0 0)::(r_ 567)::(j_ 264 0)::(j_ 0 0)::(r_ 574)::(j_ 270 0)::(j_ 0 0)::(r_ 581)::(j_ 278 0)::(j_ 0 0)::(r_ 588)::(j_ 284 0)::(j_ 0 0)::(r_ 595)::(j_ 288 0)::(j_ 0 0)::(r_ 602)::(j_ 290 0)::(j_ 0 0)::(r_ 609)::(j_ 302 0)::(j_ 0 0)::(r_ 616)::(j_ 314 0)::(j_ 0 0)::(r_ 623)::(j_ 324 0)::(j_ 0 0)::(r_ 630)::(j_ 340 0)::(j_ 0 0)::(r_ 637)::(j_ 350 0)::(j_ 0 0)::(r_ 644)::(j_ 358 0)::(j_ 0 0)::(r_ 651)::(j_ 374 0)::(j_ 0 0)::(r_ 656)::(j_ 378 0)::(j_ 0 0)::(r_ 663)::(j_ 382 0)::(j_ 0 0)::(r_ 670)::[]))) #[])
def Wh (x:Params):Obj:=(@Obj.mk (.type "dict") none (@Data.dict (List.toArray ((U1 x)::(U34 x)::(U13 x)::(U0 x)::(U29 x)::(U10 x)::(U11 x)::(U4 x)::(U19 x)::(U35 x)::(U20 x)::(U36 x)::(U14 x)::(U27 x)::(U28 x)::(U15 x)::(U16 x)::(U21 x)::(U22 x)::(U30 x)::(U12 x)::(U17 x)::(U23 x)::(U24 x)::(U37 x)::(U31 x)::(U32 x)::(U18 x)::(U25 x)::(U26 x)::(U33 x)::(U7 x)::(e_ x "changes" 773 (r_ 474))::(e_ x "do_steps" 785 (r_ 481))::(e_ x "step_at" 794 (r_ 488))::(e_ x "how_often" 804 (r_ 495))::(U8 x)::(e_ x "fallen" 825 (r_ 509))::(U6 x)::(e_ x "settled" 848 (r_ 523))::(U9 x)::(U2 x)::(e_ x "is_writing" 877 (r_ 544))::(e_ x "held_to_be_writings" 886 (r_ 551))::(e_ x "written_row" 894 (r_ 558))::(e_ x "row_plus" 902 (r_ 563))::(e_ x "row_times" 908 (r_ 568))::(e_ x "times_by_ratio" 920 (r_ 575))::(e_ x "times_in_falling" 933 (r_ 582))::(e_ x "times" 942 (r_ 589))::(e_ x "_law_cell_at" 952 (r_ 596))::(e_ x "_law_mixed" 959 (r_ 603))::(e_ x "_law_pick" 970 (r_ 610))::(e_ x "_law_way" 978 (r_ 617))::(e_ x "_law_span" 987 (r_ 624))::(e_ x "_law_figures" 1002 (r_ 631))::(e_ x "_law_legal" 1014 (r_ 638))::(e_ x "_law_next" 1025 (r_ 645))::(e_ x "_law_number" 1039 (r_ 652))::(e_ x "_law_two" 1045 (r_ 657))::(e_ x "_law_product" 1054 (r_ 664))::(e_ x "law" 1070 (r_ 671))::[])) 62) #[])
def Rw (x:Params):Obj:=(@Obj.mk .none none (@Data.fields (List.toArray ((j_ 1 0)::(j_ 0 0)::(r_ 20)::(j_ 5 0)::(j_ 0 0)::(r_ 27)::(j_ 7 0)::(j_ 0 0)::(r_ 40)::(j_ 9 0)::(j_ 0 0)::(r_ 52)::(j_ 11 0)::(j_ 0 0)::(r_ 64)::(j_ 13 0)::(j_ 0 0)::(r_ 76)::(j_ 15 0)::(j_ 0 0)::(r_ 88)::(j_ 18 0)::(j_ 0 0)::(r_ 100)::(j_ 20 0)::(j_ 0 0)::(r_ 107)::(j_ 22 0)::(j_ 0 0)::(r_ 114)::(j_ 26 0)::(j_ 0 0)::(r_ 121)::(j_ 32 0)::(j_ 0 0)::(r_ 128)::(j_ 39 0)::(j_ 0 0)::(r_ 135)::(j_ 43 0)::(j_ 0 0)::(r_ 142)::(j_ 49 0)::(j_ 0 0)::(r_ 149)::(j_ 53 0)::(j_ 0 0)::(r_ 156)::(j_ 75 0)::(j_ 0 0)::(r_ 212)::(j_ 85 0)::(j_ 0 0)::(r_ 245)::(j_ 98 0)::(j_ 0 0)::(r_ 285)::(j_ 114 0)::(j_ 0 0)::(r_ 332)::(j_ 124 0)::(j_ 0 0)::(r_ 365)::(j_ 140 0)::(j_ 0 0)::(r_ 412)::(j_ 164 0)::(j_ 0 0)::(r_ 466)::(j_ 170 0)::(j_ 0 0)::(r_ 473)::(j_ 182 0)::(j_ 0 0)::(r_ 480)::(j_ 187 0)::(j_ 0 0)::(r_ 487)::(j_ 193 0)::(j_ 0 0)::(r_ 494)::(j_ 198 0)::(j_ 0 0)::(r_ 501)::(j_ 213 0)::(j_ 0 0)::(r_ 508)::(j_ 216 0)::(j_ 0 0)::(r_ 515)::(j_ 231 0)::(j_ 0 0)::(r_ 522)::(j_ 234 0)::(j_ 0 0)::(r_ 529)::(j_ 239 0)::(j_ 0 0)::(r_ 536)::(j_ 244 0)::(j_ 0 0)::(r_ 543)::(j_ 250 0)::(j_ 0 0)::(r_ 550)::(j_ 254 0)::(j_ 0 0)::(r_ 557)::(j_ 259 0)::(j_ 0 0)::(r_ 562)::(j_ 262 0)::(j_ 0 0)::(r_ 567)::(j_ 264 0)::(j_ 0 0)::(r_ 574)::(j_ 270 0)::(j_ 0 0)::(r_ 581)::(j_ 278 0)::(j_ 0 0)::(r_ 588)::(j_ 284 0)::(j_ 0 0)::(r_ 595)::(j_ 288 0)::(j_ 0 0)::(r_ 602)::(j_ 290 0)::(j_ 0 0)::(r_ 609)::(j_ 302 0)::(j_ 0 0)::(r_ 616)::[]))) #[])
def Rx (x:Params):Obj:=(@Obj.mk (.type "dict") none (@Data.dict (List.toArray [(U1 x),(U34 x),(U13 x),(U0 x),(U29 x),(U10 x),(U11 x),(U4 x),(U19 x),(U35 x),(U20 x),(U36 x),(U14 x),(U27 x),(U28 x),(U15 x),(U16 x),(U21 x),(U22 x),(U30 x),(U12 x),(U17 x),(U23 x),(U24 x),(U37 x),(U31 x),(U32 x),(U18 x),(U25 x),(U26 x),(U33 x),(U7 x),(e_ x "changes" 773 (r_ 474)),(e_ x "do_steps" 785 (r_ 481)),(e_ x "step_at" 794 (r_ 488)),(e_ x "how_often" 804 (r_ 495)),(U8 x),(e_ x "fallen" 825 (r_ 509)),(U6 x),(e_ x "settled" 848 (r_ 523)),(U9 x),(U2 x),(e_ x "is_writing" 877 (r_ 544)),(e_ x "held_to_be_writings" 886 (r_ 551)),(e_ x "written_row" 894 (r_ 558)),(e_ x "row_plus" 902 (r_ 563)),(e_ x "row_times" 908 (r_ 568)),(e_ x "times_by_ratio" 920 (r_ 575)),(e_ x "times_in_falling" 933 (r_ 582)),(e_ x "times" 942 (r_ 589)),(e_ x "_law_cell_at" 952 (r_ 596)),(e_ x "_law_mixed" 959 (r_ 603)),(e_ x "_law_pick" 970 (r_ 610)),(e_ x "_law_way" 978 (r_ 617))]) 54) #[])
def Ry (x:Params):Obj:=(@Obj.mk .none none (@Data.fields (List.toArray ((j_ 1 0)::(j_ 0 0)::(r_ 20)::(j_ 5 0)::(j_ 0 0)::(r_ 27)::(j_ 7 0)::(j_ 0 0)::(r_ 40)::(j_ 9 0)::(j_ 0 0)::(r_ 52)::(j_ 11 0)::(j_ 0 0)::(r_ 64)::(j_ 13 0)::(j_ 0 0)::(r_ 76)::(j_ 15 0)::(j_ 0 0)::(r_ 88)::(j_ 18 0)::(j_ 0 0)::(r_ 100)::(j_ 20 0)::(j_ 0 0)::(r_ 107)::(j_ 22 0)::(j_ 0 0)::(r_ 114)::(j_ 26 0)::(j_ 0 0)::(r_ 121)::(j_ 32 0)::(j_ 0 0)::(r_ 128)::(j_ 39 0)::(j_ 0 0)::(r_ 135)::(j_ 43 0)::(j_ 0 0)::(r_ 142)::(j_ 49 0)::(j_ 0 0)::(r_ 149)::(j_ 53 0)::(j_ 0 0)::(r_ 156)::(j_ 75 0)::(j_ 0 0)::(r_ 212)::(j_ 85 0)::(j_ 0 0)::(r_ 245)::(j_ 98 0)::(j_ 0 0)::(r_ 285)::(j_ 114 0)::(j_ 0 0)::(r_ 332)::(j_ 124 0)::(j_ 0 0)::(r_ 365)::(j_ 140 0)::(j_ 0 0)::(r_ 412)::(j_ 164 0)::(j_ 0 0)::(r_ 466)::(j_ 170 0)::(j_ 0 0)::(r_ 473)::(j_ 182 0)::(j_ 0 0)::(r_ 480)::(j_ 187 0)::(j_ 0 0)::(r_ 487)::(j_ 193 0)::(j_ 0 0)::(r_ 494)::(j_ 198 0)::(j_ 0 0)::(r_ 501)::(j_ 213 0)::(j_ 0 0)::(r_ 508)::(j_ 216 0)::(j_ 0 0)::(r_ 515)::(j_ 231 0)::(j_ 0 0)::(r_ 522)::(j_ 234 0)::(j_ 0 0)::(r_ 529)::(j_ 239 0)::(j_ 0 0)::(r_ 536)::[]))) #[])
def RA (x:Params):Obj:=(@Obj.mk (.type "dict") none (@Data.dict (List.toArray [(e_ x "__name__" 165 (p_ "oddbases.writings" 849)),(U34 x),(U13 x),(U0 x),(U29 x),(U10 x),(U11 x),(U4 x),(U19 x),(U35 x),(U20 x),(U36 x),(U14 x),(U27 x),(U28 x),(U15 x),(U16 x),(U21 x),(U22 x),(U30 x),(U12 x),(U17 x),(U23 x),(U24 x),(U37 x),(U31 x),(U32 x),(U18 x),(U25 x),(U26 x),(U33 x),(U7 x),(e_ x "changes" 773 (r_ 474)),(e_ x "do_steps" 785 (r_ 481)),(e_ x "step_at" 794 (r_ 488)),(e_ x "how_often" 804 (r_ 495)),(U8 x),(e_ x "fallen" 825 (r_ 509)),(U6 x),(e_ x "settled" 848 (r_ 523)),(U9 x),(U2 x)]) 42) #[])
def RB (x:Params):Obj:=(@Obj.mk .none none (@Data.fields (List.toArray ((j_ 1 0)::(j_ 0 0)::(r_ 20)::(j_ 5 0)::(j_ 0 0)::(r_ 27)::(j_ 7 0)::(j_ 0 0)::(r_ 40)::(j_ 9 0)::(j_ 0 0)::(r_ 52)::(j_ 11 0)::(j_ 0 0)::(r_ 64)::(j_ 13 0)::(j_ 0 0)::(r_ 76)::(j_ 15 0)::(j_ 0 0)::(r_ 88)::(j_ 18 0)::(j_ 0 0)::(r_ 100)::(j_ 20 0)::(j_ 0 0)::(r_ 107)::(j_ 22 0)::(j_ 0 0)::(r_ 114)::(j_ 26 0)::(j_ 0 0)::(r_ 121)::(j_ 32 0)::(j_ 0 0)::(r_ 128)::(j_ 39 0)::(j_ 0 0)::(r_ 135)::(j_ 43 0)::(j_ 0 0)::(r_ 142)::(j_ 49 0)::(j_ 0 0)::(r_ 149)::(j_ 53 0)::(j_ 0 0)::(r_ 156)::(j_ 75 0)::(j_ 0 0)::(r_ 212)::(j_ 85 0)::(j_ 0 0)::(r_ 245)::(j_ 98 0)::(j_ 0 0)::(r_ 285)::(j_ 114 0)::(j_ 0 0)::(r_ 332)::(j_ 124 0)::(j_ 0 0)::(r_ 365)::(j_ 140 0)::(j_ 0 0)::(r_ 412)::[]))) #[])
def RC (x:Params):Obj:=(@Obj.mk (.type "dict") none (@Data.dict (List.toArray [(U5 x),(U34 x),(U13 x),(U0 x),(U29 x),(U10 x),(U11 x),(U4 x),(U19 x),(U35 x),(U20 x),(U36 x),(U14 x),(U27 x),(U28 x),(U15 x),(U16 x),(U21 x),(U22 x),(U30 x),(U12 x),(U17 x),(U23 x),(U24 x),(U37 x),(U31 x),(U32 x),(U18 x),(U25 x),(U26 x),(U33 x)]) 31) #[])
def RD (x:Params):Obj:=(@Obj.mk (.type "type") none (@Data.cls (@ClassData.mk (.ofString "Way") [(.type "object")] [(r_ 202),(.type "object")] 201 (.ofString "Way") @Bool.true [] [(r_ 237),(r_ 277),(r_ 324),(r_ 357),(r_ 404)] @Bool.false (@Option.none @Bool) @Bool.false)) (@List.toArray (@Option @Value) [none,none,(some (p_ "Way" 366)),(some (p_ "Way" 374)),(some (.builtin "object.__new__")),(some (.bool @Bool.true))]))
def RE (x:Params):Obj:=(@Obj.mk .none none (@Data.fields (List.toArray ((j_ 1 0)::(j_ 0 0)::(r_ 20)::(j_ 5 0)::(j_ 0 0)::(r_ 27)::(j_ 7 0)::(j_ 0 0)::(r_ 40)::(j_ 9 0)::(j_ 0 0)::(r_ 52)::(j_ 11 0)::(j_ 0 0)::(r_ 64)::(j_ 13 0)::(j_ 0 0)::(r_ 76)::(j_ 15 0)::(j_ 0 0)::(r_ 88)::(j_ 18 0)::(j_ 0 0)::(r_ 100)::(j_ 20 0)::(j_ 0 0)::(r_ 107)::(j_ 22 0)::(j_ 0 0)::(r_ 114)::(j_ 26 0)::(j_ 0 0)::(r_ 121)::(j_ 32 0)::(j_ 0 0)::(r_ 128)::(j_ 39 0)::(j_ 0 0)::(r_ 135)::(j_ 43 0)::(j_ 0 0)::(r_ 142)::(j_ 49 0)::(j_ 0 0)::(r_ 149)::(j_ 53 0)::(j_ 0 0)::(r_ 156)::(j_ 75 0)::(j_ 0 0)::(r_ 212)::(j_ 85 0)::(j_ 0 0)::(r_ 245)::(j_ 98 0)::(j_ 0 0)::(r_ 285)::(j_ 114 0)::(j_ 0 0)::(r_ 332)::(j_ 124 0)::(j_ 0 0)::(r_ 365)::[]))) #[])
def RF (x:Params):Obj:=(@Obj.mk (.type "dict") none (@Data.dict (List.toArray [(U5 x),(U34 x),(U13 x),(U0 x),(U29 x),(U10 x),(U11 x),(U4 x),(U19 x),(U35 x),(U20 x),(U36 x),(U14 x),(U27 x),(U28 x),(U15 x),(U16 x),(U21 x),(U22 x),(U30 x),(U12 x),(U17 x),(U23 x),(U24 x),(U37 x),(U31 x),(U32 x),(U18 x),(U25 x),(U26 x)]) 30) #[])
def RG (x:Params):Obj:=(@Obj.mk (.type "type") none (@Data.cls (@ClassData.mk (.ofString "Way") [(.type "object")] [(r_ 202),(.type "object")] 201 (.ofString "Way") @Bool.true [] [(r_ 237),(r_ 277),(r_ 324),(r_ 357)] @Bool.false (@Option.none @Bool) @Bool.false)) (@List.toArray (@Option @Value) [none,none,(some (p_ "Way" 366)),(some (p_ "Way" 374)),(some (.builtin "object.__new__")),(some (.bool @Bool.true))]))
def RH (x:Params):Obj:=(@Obj.mk .none none (@Data.fields (List.toArray [(j_ 1 0),(j_ 0 0),(r_ 20),(j_ 5 0),(j_ 0 0),(r_ 27),(j_ 7 0),(j_ 0 0),(r_ 40),(j_ 9 0),(j_ 0 0),(r_ 52),(j_ 11 0),(j_ 0 0),(r_ 64),(j_ 13 0),(j_ 0 0),(r_ 76),(j_ 15 0),(j_ 0 0),(r_ 88),(j_ 18 0),(j_ 0 0),(r_ 100),(j_ 20 0),(j_ 0 0),(r_ 107),(j_ 22 0),(j_ 0 0),(r_ 114),(j_ 26 0),(j_ 0 0),(r_ 121),(j_ 32 0),(j_ 0 0),(r_ 128),(j_ 39 0),(j_ 0 0),(r_ 135),(j_ 43 0),(j_ 0 0),(r_ 142),(j_ 49 0),(j_ 0 0),(r_ 149),(j_ 53 0),(j_ 0 0),(r_ 156),(j_ 75 0),(j_ 0 0),(r_ 212),(j_ 85 0),(j_ 0 0),(r_ 245),(j_ 98 0),(j_ 0 0),(r_ 285),(j_ 114 0),(j_ 0 0),(r_ 332)])) #[])
def RI (x:Params):Obj:=(@Obj.mk (.type "dict") none (@Data.dict (List.toArray [(U5 x),(U34 x),(U13 x),(U0 x),(U29 x),(U10 x),(U11 x),(U4 x),(U19 x),(U35 x),(U20 x),(U36 x),(U14 x),(U27 x),(U28 x),(U15 x),(U16 x),(U21 x),(U22 x),(U30 x),(U12 x),(U17 x),(U23 x),(U24 x),(U37 x),(U31 x),(U32 x),(U18 x),(U25 x)]) 29) #[])
def RJ (x:Params):Obj:=(@Obj.mk (.type "type") none (@Data.cls (@ClassData.mk (.ofString "Way") [(.type "object")] [(r_ 202),(.type "object")] 201 (.ofString "Way") @Bool.true [] [(r_ 237),(r_ 277),(r_ 324)] @Bool.false (@Option.none @Bool) @Bool.false)) (@List.toArray (@Option @Value) [none,none,(some (p_ "Way" 366)),(some (p_ "Way" 374)),(some (.builtin "object.__new__")),(some (.bool @Bool.true))]))
def RK (x:Params):Obj:=(@Obj.mk .none none (@Data.fields (List.toArray [(j_ 1 0),(j_ 0 0),(r_ 20),(j_ 5 0),(j_ 0 0),(r_ 27),(j_ 7 0),(j_ 0 0),(r_ 40),(j_ 9 0),(j_ 0 0),(r_ 52),(j_ 11 0),(j_ 0 0),(r_ 64),(j_ 13 0),(j_ 0 0),(r_ 76),(j_ 15 0),(j_ 0 0),(r_ 88),(j_ 18 0),(j_ 0 0),(r_ 100),(j_ 20 0),(j_ 0 0),(r_ 107),(j_ 22 0),(j_ 0 0),(r_ 114),(j_ 26 0),(j_ 0 0),(r_ 121),(j_ 32 0),(j_ 0 0),(r_ 128),(j_ 39 0),(j_ 0 0),(r_ 135),(j_ 43 0),(j_ 0 0),(r_ 142),(j_ 49 0),(j_ 0 0),(r_ 149),(j_ 53 0),(j_ 0 0),(r_ 156),(j_ 75 0),(j_ 0 0),(r_ 212),(j_ 85 0),(j_ 0 0),(r_ 245),(j_ 98 0),(j_ 0 0),(r_ 285)])) #[])
def RL (x:Params):Obj:=(@Obj.mk (.type "dict") none (@Data.dict (List.toArray [(U5 x),(U34 x),(U13 x),(U0 x),(U29 x),(U10 x),(U11 x),(U4 x),(U19 x),(U35 x),(U20 x),(U36 x),(U14 x),(U27 x),(U28 x),(U15 x),(U16 x),(U21 x),(U22 x),(U30 x),(U12 x),(U17 x),(U23 x),(U24 x),(U37 x),(U31 x),(U32 x),(U18 x)]) 28) #[])
def RM (x:Params):Obj:=(@Obj.mk (.type "type") none (@Data.cls (@ClassData.mk (.ofString "Way") [(.type "object")] [(r_ 202),(.type "object")] 201 (.ofString "Way") @Bool.true [] [(r_ 237),(r_ 277)] @Bool.false (@Option.none @Bool) @Bool.false)) (@List.toArray (@Option @Value) [none,none,(some (p_ "Way" 366)),(some (p_ "Way" 374)),(some (.builtin "object.__new__")),(some (.bool @Bool.true))]))
def RN (x:Params):Obj:=(@Obj.mk .none none (@Data.fields (List.toArray [(j_ 1 0),(j_ 0 0),(r_ 20),(j_ 5 0),(j_ 0 0),(r_ 27),(j_ 7 0),(j_ 0 0),(r_ 40),(j_ 9 0),(j_ 0 0),(r_ 52),(j_ 11 0),(j_ 0 0),(r_ 64),(j_ 13 0),(j_ 0 0),(r_ 76),(j_ 15 0),(j_ 0 0),(r_ 88),(j_ 18 0),(j_ 0 0),(r_ 100),(j_ 20 0),(j_ 0 0),(r_ 107),(j_ 22 0),(j_ 0 0),(r_ 114),(j_ 26 0),(j_ 0 0),(r_ 121),(j_ 32 0),(j_ 0 0),(r_ 128),(j_ 39 0),(j_ 0 0),(r_ 135),(j_ 43 0),(j_ 0 0),(r_ 142),(j_ 49 0),(j_ 0 0),(r_ 149),(j_ 53 0),(j_ 0 0),(r_ 156),(j_ 75 0),(j_ 0 0),(r_ 212),(j_ 85 0),(j_ 0 0),(r_ 245)])) #[])
def RO (x:Params):Obj:=(@Obj.mk (.type "dict") none (@Data.dict (List.toArray [(U5 x),(U34 x),(U13 x),(U0 x),(U29 x),(U10 x),(U11 x),(U4 x),(U19 x),(U35 x),(U20 x),(U36 x),(U14 x),(U27 x),(U28 x),(U15 x),(U16 x),(U21 x),(U22 x),(U30 x),(U12 x),(U17 x),(U23 x),(U24 x),(U37 x),(U31 x),(U32 x)]) 27) #[])
def RP (x:Params):Obj:=(@Obj.mk (.type "type") none (@Data.cls (@ClassData.mk (.ofString "Way") [(.type "object")] [(r_ 202),(.type "object")] 201 (.ofString "Way") @Bool.true [] [(r_ 237)] @Bool.false (@Option.none @Bool) @Bool.false)) (@List.toArray (@Option @Value) [none,none,(some (p_ "Way" 366)),(some (p_ "Way" 374)),(some (.builtin "object.__new__")),(some (.bool @Bool.true))]))
def RQ (x:Params):Obj:=(@Obj.mk .none none (@Data.fields (List.toArray [(j_ 1 0),(j_ 0 0),(r_ 20),(j_ 5 0),(j_ 0 0),(r_ 27),(j_ 7 0),(j_ 0 0),(r_ 40),(j_ 9 0),(j_ 0 0),(r_ 52),(j_ 11 0),(j_ 0 0),(r_ 64),(j_ 13 0),(j_ 0 0),(r_ 76),(j_ 15 0),(j_ 0 0),(r_ 88),(j_ 18 0),(j_ 0 0),(r_ 100),(j_ 20 0),(j_ 0 0),(r_ 107),(j_ 22 0),(j_ 0 0),(r_ 114),(j_ 26 0),(j_ 0 0),(r_ 121),(j_ 32 0),(j_ 0 0),(r_ 128),(j_ 39 0),(j_ 0 0),(r_ 135),(j_ 43 0),(j_ 0 0),(r_ 142),(j_ 49 0),(j_ 0 0),(r_ 149),(j_ 53 0),(j_ 0 0),(r_ 156),(j_ 75 0),(j_ 0 0),(r_ 212)])) #[])
def RS (x:Params):Obj:=(@Obj.mk (.type "dict") none (@Data.dict (List.toArray [(U5 x),(U34 x),(U13 x),(U0 x),(U29 x),(U10 x),(U11 x),(U4 x),(U19 x),(U35 x),(U20 x),(U36 x),(U14 x),(U27 x),(U28 x),(U15 x),(U16 x),(U21 x),(U22 x),(U30 x),(U12 x),(U17 x),(U23 x),(U24 x),(U37 x),(U31 x)]) 26) #[])
def RT (x:Params):Obj:=(@Obj.mk (.type "type") none (@Data.cls (@ClassData.mk (.ofString "Way") [(.type "object")] [(r_ 202),(.type "object")] 201 (.ofString "Way") @Bool.true [] [] @Bool.false (@Option.none @Bool) @Bool.false)) (@List.toArray (@Option @Value) [none,none,(some (p_ "Way" 366)),(some (p_ "Way" 374)),(some (.builtin "object.__new__")),(some (.bool @Bool.true))]))
def RU (x:Params):Obj:=(@Obj.mk .none none (@Data.fields (List.toArray [(j_ 1 0),(j_ 0 0),(r_ 20),(j_ 5 0),(j_ 0 0),(r_ 27),(j_ 7 0),(j_ 0 0),(r_ 40),(j_ 9 0),(j_ 0 0),(r_ 52),(j_ 11 0),(j_ 0 0),(r_ 64),(j_ 13 0),(j_ 0 0),(r_ 76),(j_ 15 0),(j_ 0 0),(r_ 88),(j_ 18 0),(j_ 0 0),(r_ 100),(j_ 20 0),(j_ 0 0),(r_ 107),(j_ 22 0),(j_ 0 0),(r_ 114),(j_ 26 0),(j_ 0 0),(r_ 121),(j_ 32 0),(j_ 0 0),(r_ 128),(j_ 39 0),(j_ 0 0),(r_ 135),(j_ 43 0),(j_ 0 0),(r_ 142),(j_ 49 0),(j_ 0 0),(r_ 149),(j_ 53 0),(j_ 0 0),(r_ 156)])) #[])
def RV (x:Params):Obj:=(@Obj.mk (.type "dict") none (@Data.dict (List.toArray [(U5 x),(U34 x),(U13 x),(U0 x),(U29 x),(U10 x),(U11 x),(U4 x),(U19 x),(U35 x),(U20 x),(U36 x),(U14 x),(U27 x),(U28 x),(U15 x),(U16 x),(U21 x),(U22 x),(U30 x),(U12 x),(U17 x),(U23 x),(U24 x),(U37 x)]) 25) #[])
def RW (x:Params):Obj:=(@Obj.mk .none none (@Data.fields (List.toArray [(j_ 1 0),(j_ 0 0),(r_ 20),(j_ 5 0),(j_ 0 0),(r_ 27),(j_ 7 0),(j_ 0 0),(r_ 40),(j_ 9 0),(j_ 0 0),(r_ 52),(j_ 11 0),(j_ 0 0),(r_ 64),(j_ 13 0),(j_ 0 0),(r_ 76),(j_ 15 0),(j_ 0 0),(r_ 88),(j_ 18 0),(j_ 0 0),(r_ 100),(j_ 20 0),(j_ 0 0),(r_ 107),(j_ 22 0),(j_ 0 0),(r_ 114),(j_ 26 0),(j_ 0 0),(r_ 121),(j_ 32 0),(j_ 0 0),(r_ 128),(j_ 39 0),(j_ 0 0),(r_ 135),(j_ 43 0),(j_ 0 0),(r_ 142),(j_ 49 0),(j_ 0 0),(r_ 149)])) #[])
def RX (x:Params):Obj:=(@Obj.mk (.type "dict") none (@Data.dict (List.toArray [(U5 x),(U34 x),(U13 x),(U0 x),(U29 x),(U10 x),(U11 x),(U4 x),(U19 x),(U35 x),(U20 x),(U36 x),(U14 x),(U27 x),(U28 x),(U15 x),(U16 x),(U21 x),(U22 x),(U30 x),(U12 x),(U17 x),(U23 x),(U24 x)]) 24) #[])
def RY (x:Params):Obj:=(@Obj.mk .none none (@Data.fields (List.toArray [(j_ 1 0),(j_ 0 0),(r_ 20),(j_ 5 0),(j_ 0 0),(r_ 27),(j_ 7 0),(j_ 0 0),(r_ 40),(j_ 9 0),(j_ 0 0),(r_ 52),(j_ 11 0),(j_ 0 0),(r_ 64),(j_ 13 0),(j_ 0 0),(r_ 76),(j_ 15 0),(j_ 0 0),(r_ 88),(j_ 18 0),(j_ 0 0),(r_ 100),(j_ 20 0),(j_ 0 0),(r_ 107),(j_ 22 0),(j_ 0 0),(r_ 114),(j_ 26 0),(j_ 0 0),(r_ 121),(j_ 32 0),(j_ 0 0),(r_ 128)])) #[])
def RZ (x:Params):Obj:=(@Obj.mk (.type "dict") none (@Data.dict (List.toArray [(e_ x "__name__" 165 (p_ "oddbases.rows" 337)),(U34 x),(U13 x),(U0 x),(U29 x),(U10 x),(U11 x),(U4 x),(U19 x),(U35 x),(U20 x),(U36 x),(U14 x),(U27 x),(U28 x),(U15 x),(U16 x),(U21 x),(U22 x),(U30 x),(U12 x)]) 21) #[])
def R1:=t20 1 0 20 5 27 7 40 9 52 11 64 13 76
def R0 (x:Params):Obj:=(@Obj.mk (.type "type") none (@Data.cls (@ClassData.mk (.ofString "OddError") [(.type "ValueError")] [(r_ 31),(.type "ValueError"),(.type "Exception"),(.type "BaseException"),(.type "object")] 30 (.ofString "OddError") @Bool.true [] [(r_ 44),(r_ 56),(r_ 68),(r_ 80)] @Bool.false (@Option.none @Bool) @Bool.false)) (@List.toArray (@Option @Value) [(some (r_ 22)),none,(some (p_ "OddError" 196)),(some (p_ "OddError" 204)),(some (.builtin "ValueError.__new__")),(some (.bool @Bool.true))]))
def R3 (x:Params):Obj:=(@Obj.mk (.type "dict") none (@Data.dict (List.toArray [(U3 x),(U34 x),(U13 x),(U0 x),(U29 x),(U10 x),(U11 x),(U4 x),(U19 x),(U35 x),(U20 x),(U36 x),(U14 x),(U27 x),(U28 x)]) 15) #[])
def R5:=t25 1 0 20 5 27 7 40 9 52 11 64
def R4 (x:Params):Obj:=(@Obj.mk (.type "type") none (@Data.cls (@ClassData.mk (.ofString "OddError") [(.type "ValueError")] [(r_ 31),(.type "ValueError"),(.type "Exception"),(.type "BaseException"),(.type "object")] 30 (.ofString "OddError") @Bool.true [] [(r_ 44),(r_ 56),(r_ 68)] @Bool.false (@Option.none @Bool) @Bool.false)) (@List.toArray (@Option @Value) [(some (r_ 22)),none,(some (p_ "OddError" 196)),(some (p_ "OddError" 204)),(some (.builtin "ValueError.__new__")),(some (.bool @Bool.true))]))
def R6 (x:Params):Obj:=(@Obj.mk (.type "dict") none (@Data.dict (List.toArray [(U3 x),(U34 x),(U13 x),(U0 x),(U29 x),(U10 x),(U11 x),(U4 x),(U19 x),(U35 x),(U20 x),(U36 x),(U14 x),(U27 x)]) 14) #[])
def o87:=t30 1 0 20 5 27 7 40 9 52
def o88 (x:Params):Obj:=(@Obj.mk (.type "type") none (@Data.cls (@ClassData.mk (.ofString "OddError") [(.type "ValueError")] [(r_ 31),(.type "ValueError"),(.type "Exception"),(.type "BaseException"),(.type "object")] 30 (.ofString "OddError") @Bool.true [] [(r_ 44),(r_ 56)] @Bool.false (@Option.none @Bool) @Bool.false)) (@List.toArray (@Option @Value) [(some (r_ 22)),none,(some (p_ "OddError" 196)),(some (p_ "OddError" 204)),(some (.builtin "ValueError.__new__")),(some (.bool @Bool.true))]))
def o86 (x:Params):Obj:=(@Obj.mk (.type "dict") none (@Data.dict (List.toArray [(U3 x),(U34 x),(U13 x),(U0 x),(U29 x),(U10 x),(U11 x),(U4 x),(U19 x),(U35 x),(U20 x),(U36 x),(U14 x)]) 13) #[])
def o72:=t28 1 0 20 5 27 7 40
def o73 (x:Params):Obj:=(@Obj.mk (.type "type") none (@Data.cls (@ClassData.mk (.ofString "OddError") [(.type "ValueError")] [(r_ 31),(.type "ValueError"),(.type "Exception"),(.type "BaseException"),(.type "object")] 30 (.ofString "OddError") @Bool.true [] [(r_ 44)] @Bool.false (@Option.none @Bool) @Bool.false)) (@List.toArray (@Option @Value) [(some (r_ 22)),none,(some (p_ "OddError" 196)),(some (p_ "OddError" 204)),(some (.builtin "ValueError.__new__")),(some (.bool @Bool.true))]))
def o71 (x:Params):Obj:=(@Obj.mk (.type "dict") none (@Data.dict (List.toArray [(U3 x),(U34 x),(U13 x),(U0 x),(U29 x),(U10 x),(U11 x),(U4 x),(U19 x),(U35 x),(U20 x),(U36 x)]) 12) #[])
def o50 (x:Params):Obj:=(@Obj.mk .none none (@Data.fields (List.toArray [(j_ 1 0),(j_ 0 0),(r_ 20),(j_ 5 0),(j_ 0 0),(r_ 27)])) #[])
def o67 (x:Params):Obj:=(@Obj.mk (.type "type") none (@Data.cls (@ClassData.mk (.ofString "OddError") [(.type "ValueError")] [(r_ 31),(.type "ValueError"),(.type "Exception"),(.type "BaseException"),(.type "object")] 30 (.ofString "OddError") @Bool.true [] [] @Bool.false (@Option.none @Bool) @Bool.false)) (@List.toArray (@Option @Value) [(some (r_ 22)),none,(some (p_ "OddError" 196)),(some (p_ "OddError" 204)),(some (.builtin "ValueError.__new__")),(some (.bool @Bool.true))]))
def o49 (x:Params):Obj:=(@Obj.mk (.type "dict") none (@Data.dict (List.toArray [(U3 x),(U34 x),(U13 x),(U0 x),(U29 x),(U10 x),(U11 x),(U4 x),(U19 x),(U35 x),(U20 x)]) 11) #[])
abbrev Yr:=N_ z_ (L_ ze) Z_
abbrev tT:=N_ ze (L_ za) Z_
abbrev yR:=N_ za (L_ ze) Z_
abbrev xi:=N_ za (L_ za) Z_
abbrev p6:=N_ ze (L_ ze) Z_
abbrev eU:=N_ za (L_ za) (L_ ze)
abbrev qD:=N_ ze (L_ za) (L_ ze)
abbrev Ys:=N_ za (L_ ze) (L_ za)
abbrev TK:=N_ o57 (N_ o76 (L_ tw) Z_) (L_ o95)
abbrev TL:=N_ o56 (N_ zn (L_ ui) Z_) (L_ o94)
abbrev TM:=N_ o58 (N_ za (L_ tu) Z_) (L_ za)
abbrev TN:=N_ o55 (N_ zD (L_ uj) Z_) (L_ ze)
abbrev TQ:=N_ o68 (N_ tz (L_ qh) Z_) (L_ ze)
abbrev TR:=N_ o69 (N_ tx (L_ qg) Z_) (L_ qj)
abbrev TU:=N_ u9 (N_ ze (L_ pY) Z_) (L_ za)
abbrev TV:=N_ za (N_ pW (L_ jv) Z_) (L_ lu)
abbrev TW:=N_ za (N_ pS (L_ fQ) Z_) (L_ za)
abbrev TX:=N_ sS (N_ pU (L_ jt) Z_) (L_ za)
abbrev TY:=N_ tm xi (L_ q_)
abbrev TZ:=N_ zn (N_ nL (L_ jq) Z_) (L_ jz)
abbrev T0:=N_ zn (N_ qd (L_ za) Z_) (L_ za)
abbrev T3:=N_ u_ (N_ za (L_ fR) Z_) (L_ zn)
abbrev T4:=N_ sU (N_ nM (L_ ze) Z_) (L_ lv)
abbrev T5:=N_ qk (N_ pT (L_ jp) Z_) (L_ jy)
abbrev T6:=N_ tq (N_ za (L_ jw) Z_) (L_ pe)
abbrev T7:=N_ sT (N_ ze (L_ ju) Z_) (L_ jB)
abbrev T8:=N_ ze (N_ qc (L_ mW) Z_) (L_ pd)
abbrev T9:=N_ zD (N_ za (L_ jr) Z_) (L_ jA)
abbrev T_:=N_ ze (N_ za (L_ fP) Z_) (L_ ze)
abbrev Sa:=N_ zD (N_ qe (L_ mX) Z_) (L_ pf)
abbrev Sb:=N_ tj (N_ pV (L_ za) Z_) (L_ z_)
abbrev Sc:=N_ za (N_ nE (L_ za) Z_) (L_ za)
abbrev Sd:=N_ ze (N_ pI (L_ ze) Z_) (L_ nq)
abbrev Se:=N_ uZ (N_ za (L_ ja) Z_) (L_ ld)
abbrev Sf:=N_ uX (N_ za (L_ kZ) Z_) (L_ za)
abbrev Sg:=N_ sK (N_ pK (L_ fN) Z_) (L_ q9)
abbrev Sh:=N_ u3 (N_ pG (L_ jc) Z_) (L_ lj)
abbrev Si:=N_ ze (N_ pC (L_ ze) Z_) (L_ nk)
abbrev Sj:=N_ u5 (N_ za (L_ je) Z_) (L_ qZ)
abbrev Sk:=N_ za tT (L_ lh)
abbrev Sm:=N_ sI (N_ pE (L_ fL) Z_) (L_ ze)
abbrev Sn:=N_ sL (N_ za (L_ jg) Z_) (L_ ln)
abbrev So:=N_ za (N_ nH (L_ za) Z_) (L_ z_)
abbrev Sq:=N_ uW (N_ za (L_ kY) Z_) (L_ nj)
abbrev Sr:=N_ za tT (L_ qY)
abbrev Ss:=N_ ze (N_ pF (L_ ze) Z_) (L_ lf)
abbrev Su:=N_ uY (N_ pD (L_ k_) Z_) (L_ nl)
abbrev Sv:=N_ za (N_ nI (L_ za) Z_) (L_ nr)
abbrev Sw:=N_ sJ (N_ pH (L_ fM) Z_) (L_ zn)
abbrev Sx:=N_ za tT (L_ m_)
abbrev Sy:=N_ u6 (N_ pJ (L_ jf) Z_) (L_ q8)
abbrev Sz:=N_ u0 (N_ za (L_ jb) Z_) (L_ za)
abbrev SA:=N_ za (N_ nG (L_ za) Z_) (L_ za)
abbrev SB:=N_ u4 (N_ za (L_ jd) Z_) (L_ nn)
abbrev SC:=N_ pW (N_ jv (L_ Zl) Z_) (L_ za)
abbrev SD:=N_ pS (N_ fQ (L_ za) Z_) (L_ ZS)
abbrev SE:=N_ pX p6 (L_ g6)
abbrev SF:=N_ ze (N_ ni (L_ Zo) Z_) (L_ gY)
abbrev SG:=N_ pU (N_ jt (L_ Zj) Z_) (L_ cS)
abbrev SH:=N_ za (N_ jx (L_ WS) Z_) (L_ g8)
abbrev SI:=N_ nL (N_ jq (L_ ze) Z_) (L_ cQ)
abbrev SJ:=N_ qf (N_ mY (L_ Zq) Z_) (L_ za)
abbrev SK:=N_ zn (N_ z_ (L_ Zh) Z_) (L_ zn)
abbrev SL:=N_ qd xi (L_ cW)
abbrev SM:=N_ za (N_ fR (L_ WQ) Z_) (L_ cU)
abbrev SN:=N_ qh (N_ m9 (L_ Zs) Z_) (L_ za)
abbrev SO:=N_ nM p6 (L_ cV)
abbrev SQ:=N_ pT (N_ jp (L_ Zi) Z_) (L_ ZT)
abbrev Yt:=N_ za xi (L_ ze)
abbrev SR:=N_ nK (N_ zn (L_ Zg) Z_) (L_ ZR)
abbrev SS:=N_ za (N_ jw (L_ WR) Z_) (L_ gZ)
abbrev ST:=N_ ze (N_ ju (L_ Zk) Z_) (L_ cT)
abbrev SU:=N_ qg xi (L_ cX)
abbrev SV:=N_ qc (N_ mW (L_ Zm) Z_) (L_ za)
abbrev SW:=N_ za (N_ jr (L_ za) Z_) (L_ cR)
abbrev SY:=N_ ze (N_ mZ (L_ Zr) Z_) (L_ g7)
abbrev SZ:=N_ za (N_ fP (L_ WP) Z_) (L_ z_)
abbrev S0:=N_ qe (N_ mX (L_ Zp) Z_) (L_ za)
abbrev S1:=N_ pV xi (L_ ZU)
abbrev Y99:=N_ pY p6 (L_ g9)
abbrev Y98:=N_ nE (N_ za (L_ WB) Z_) (L_ ZM)
abbrev Y97:=N_ ze (N_ fv (L_ Wn) Z_) (L_ za)
abbrev Y96:=N_ pI (N_ ze (L_ WH) Z_) (L_ cF)
abbrev Y95:=N_ lu xi (L_ ze)
abbrev Y94:=N_ za (N_ ja (L_ UE) Z_) (L_ za)
abbrev Y93:=N_ za p6 (L_ ZF)
abbrev Y92:=N_ ph (N_ fI (L_ Wx) Z_) (L_ cv)
abbrev Y91:=N_ za (N_ kZ (L_ ze) Z_) (L_ za)
abbrev Y90:=N_ lq (N_ fA (L_ Wp) Z_) (L_ ZD)
abbrev Y89:=N_ pK (N_ fN (L_ WJ) Z_) (L_ cH)
abbrev Y88:=N_ cP xi (L_ cp)
abbrev Y87:=N_ pG (N_ jc (L_ WG) Z_) (L_ cD)
abbrev Y86:=N_ za (N_ c7 (L_ UA) Z_) (L_ ZH)
abbrev Y85:=N_ ze (N_ kU (L_ Wz) Z_) (L_ ze)
abbrev Y84:=N_ pC tT (L_ cz)
abbrev Y83:=N_ nA xi (L_ ze)
abbrev Y82:=N_ za (N_ je (L_ UG) Z_) (L_ za)
abbrev Y81:=N_ q_ (N_ fF (L_ Wv) Z_) (L_ ZJ)
abbrev Y80:=N_ ze xi (L_ ze)
abbrev Y79:=N_ jz (N_ fC (L_ Wr) Z_) (L_ za)
abbrev Y78:=N_ za (N_ kS (L_ UC) Z_) (L_ za)
abbrev Y77:=N_ pE (N_ fL (L_ WD) Z_) (L_ cB)
abbrev Y76:=N_ nC xi (L_ WV)
abbrev Y75:=N_ za (N_ zn (L_ ze) Z_) (L_ cr)
abbrev Y74:=N_ nH yR (L_ ZO)
abbrev Y73:=N_ zn (N_ fE (L_ Wt) Z_) (L_ za)
abbrev Y72:=N_ pq (N_ kX (L_ za) Z_) (L_ cx)
abbrev Y71:=N_ za (N_ kY (L_ UD) Z_) (L_ za)
abbrev Y70:=N_ za p6 (L_ ZC)
abbrev Y69:=N_ ze (N_ za (L_ WI) Z_) (L_ ze)
abbrev Y68:=N_ lv (N_ c8 (L_ Wu) Z_) (L_ za)
abbrev Y67:=N_ pF p6 (L_ cC)
abbrev Y66:=N_ jy xi (L_ ze)
abbrev Y65:=N_ nD (N_ fJ (L_ Wy) Z_) (L_ ZL)
abbrev Y64:=N_ pD (N_ k_ (L_ za) Z_) (L_ cA)
abbrev Y63:=N_ za (N_ c6 (L_ Uz) Z_) (L_ ZE)
abbrev Y62:=N_ pe (N_ fH (L_ Ww) Z_) (L_ cq)
abbrev Y61:=N_ pH (N_ fM (L_ UF) Z_) (L_ cE)
abbrev Y60:=N_ jB xi (L_ WW)
abbrev Y59:=N_ za (N_ kW (L_ ze) Z_) (L_ za)
abbrev Y58:=N_ ze (N_ za (L_ WC) Z_) (L_ ze)
abbrev Y57:=N_ nB (N_ fw (L_ Wo) Z_) (L_ za)
abbrev Y56:=N_ pJ (N_ jf (L_ za) Z_) (L_ cG)
abbrev Y55:=N_ pd (N_ fG (L_ UB) Z_) (L_ ZK)
abbrev Y54:=N_ za (N_ jb (L_ WF) Z_) (L_ za)
abbrev Y53:=N_ jA (N_ fD (L_ Ws) Z_) (L_ ZG)
abbrev Y52:=N_ pj (N_ kT (L_ za) Z_) (L_ cw)
abbrev Y51:=N_ nG (N_ za (L_ WE) Z_) (L_ ZN)
abbrev Y50:=N_ ze (N_ fB (L_ Wq) Z_) (L_ za)
abbrev Y49:=N_ pf (N_ z_ (L_ za) Z_) (L_ cu)
abbrev Y48:=N_ za (N_ jd (L_ za) Z_) (L_ za)
abbrev Y47:=N_ z_ p6 (L_ ZI)
abbrev Y46:=N_ nw xi (L_ WU)
abbrev Y45:=N_ pr (N_ fK (L_ WA) Z_) (L_ cy)
abbrev Y44:=N_ tu (N_ pX (L_ ze) Z_) (N_ ph (L_ fI) Z_)
abbrev Y43:=N_ za (N_ za (L_ jx) Z_) (N_ ze (L_ kU) Z_)
abbrev Y42:=N_ ui (N_ qf (L_ mY) Z_) (N_ za (L_ kS) Z_)
abbrev Y41:=N_ tz (N_ qh (L_ m9) Z_) (N_ pq (L_ kX) Z_)
abbrev Y40:=N_ tw xi (N_ nD (L_ fJ) Z_)
abbrev Y39:=N_ tx (N_ qg (L_ za) Z_) (N_ za (L_ kW) Z_)
abbrev Y38:=N_ uj (N_ ze (L_ mZ) Z_) (N_ pj (L_ kT) Z_)
abbrev Y37:=N_ ze (N_ pY (L_ ze) Z_) (N_ pr (L_ fK) Z_)
abbrev Y36:=N_ sO (N_ za (L_ jl) Z_) (N_ ze (L_ fv) Z_)
abbrev Y35:=N_ za tT (N_ nt (L_ cZ) Z_)
abbrev Y34:=N_ za (N_ za (L_ jo) Z_) (N_ lq (L_ fA) Z_)
abbrev Y33:=N_ za (N_ nJ (L_ za) Z_) (N_ nv (L_ ft) Z_)
abbrev Y32:=N_ u7 (N_ pQ (L_ jn) Z_) (N_ nA (L_ za) Z_)
abbrev Y31:=N_ sN (N_ pM (L_ ji) Z_) (N_ za (L_ fm) Z_)
abbrev Y30:=N_ sR (N_ zn (L_ z_) Z_) (N_ nC (L_ za) Z_)
abbrev Y29:=N_ ze (N_ pO (L_ ze) Z_) (N_ za (L_ c5) Z_)
abbrev Y28:=N_ sP (N_ pP (L_ jm) Z_) yR
abbrev Y27:=N_ sM (N_ za (L_ jh) Z_) (N_ ze (L_ fk) Z_)
abbrev Y26:=N_ sQ (N_ nK (L_ zn) Z_) (N_ za (L_ c6) Z_)
abbrev Y25:=N_ qj (N_ za (L_ jk) Z_) (N_ lp (L_ fu) Z_)
abbrev Y24:=N_ u8 (N_ pR (L_ za) Z_) (N_ nB (L_ fw) Z_)
abbrev Y23:=N_ qi (N_ pN (L_ fO) Z_) (N_ nu (L_ fq) Z_)
abbrev Y22:=N_ ze (N_ za (L_ fP) Z_) (N_ ze (L_ fB) Z_)
abbrev Y21:=N_ ze (N_ pL (L_ ze) Z_) (N_ za (L_ cY) Z_)
abbrev Y20:=N_ za tT (N_ nw (L_ za) Z_)
abbrev Y19:=N_ za (N_ pW (L_ jv) (L_ za)) (N_ lu (L_ za) Z_)
abbrev Y18:=N_ za (N_ pS (L_ fQ) (L_ ZS)) yR
abbrev Y17:=N_ sS (N_ pU (L_ jt) (L_ cS)) (N_ za (L_ c7) Z_)
abbrev Y16:=N_ zn (N_ nL (L_ jq) (L_ cQ)) (N_ jz (L_ fC) Z_)
abbrev Y15:=N_ u_ (N_ za (L_ fR) (L_ cU)) (N_ zn (L_ fE) Z_)
abbrev Y14:=N_ sU (N_ nM (L_ ze) (L_ cV)) (N_ lv (L_ c8) Z_)
abbrev Y13:=N_ qk (N_ pT (L_ jp) (L_ ZT)) (N_ jy (L_ za) Z_)
abbrev Y12:=N_ sT (N_ ze (L_ ju) (L_ cT)) (N_ jB (L_ za) Z_)
abbrev Y11:=N_ zD (N_ za (L_ jr) (L_ cR)) (N_ jA (L_ fD) Z_)
abbrev Y10:=N_ tj (N_ pV (L_ za) (L_ ZU)) Yr
abbrev Y9:=N_ za (N_ ze (N_ za (L_ WL) Z_) (L_ ze)) (N_ nt (N_ cZ (L_ za) Z_) (L_ WT))
abbrev Y8:=N_ za (N_ nJ yR (L_ ZQ)) (N_ nv (N_ ft (L_ Wl) Z_) (L_ za))
abbrev Y7:=N_ sN (N_ pM (N_ ji (L_ za) Z_) (L_ cJ)) (N_ za (N_ fm (L_ ze) Z_) (L_ Zz))
abbrev Y6:=N_ sL (N_ za (N_ jg (L_ za) Z_) (L_ za)) (N_ ln (N_ z_ (L_ Wj) Z_) (L_ Zw))
abbrev Y5:=N_ ze (N_ pO (N_ ze (L_ WN) Z_) (L_ cL)) (N_ za (N_ c5 (L_ Uy) Z_) (L_ ZB))
abbrev Y4:=N_ sM (N_ za (N_ jh (L_ UH) Z_) (L_ za)) (N_ ze (N_ fk (L_ Wk) Z_) (L_ za))
abbrev Y3:=N_ za (N_ nI yR (L_ ZP)) (N_ nr (N_ zn (L_ Wi) Z_) (L_ za))
abbrev Y2:=N_ qj (N_ za (N_ jk (L_ za) Z_) (L_ za)) (N_ lp (N_ fu (L_ Wm) Z_) (L_ ZA))
abbrev Y1:=N_ qi (N_ pN (N_ fO (L_ WM) Z_) (L_ cK)) (N_ nu (N_ fq (L_ za) Z_) (L_ ze))
abbrev Y0:=N_ ze (N_ pL (N_ ze (L_ WK) Z_) (L_ cI)) (N_ za (N_ cY (L_ Ux) Z_) (L_ Zy))
def myAs:List Nat:=((nat_lit 2)::(nat_lit 3)::(nat_lit 15)::(nat_lit 17)::(nat_lit 18)::(nat_lit 20)::(nat_lit 21)::(nat_lit 22)::(nat_lit 29)::(nat_lit 30)::(nat_lit 31)::(nat_lit 32)::(nat_lit 35)::(nat_lit 42)::(nat_lit 43)::(nat_lit 44)::(nat_lit 47)::(nat_lit 54)::(nat_lit 55)::(nat_lit 56)::(nat_lit 59)::(nat_lit 66)::(nat_lit 67)::(nat_lit 68)::(nat_lit 71)::(nat_lit 78)::(nat_lit 79)::(nat_lit 80)::(nat_lit 83)::(nat_lit 90)::(nat_lit 91)::(nat_lit 92)::(nat_lit 95)::(nat_lit 97)::(nat_lit 98)::(nat_lit 100)::(nat_lit 101)::(nat_lit 102)::(nat_lit 104)::(nat_lit 105)::(nat_lit 107)::(nat_lit 108)::(nat_lit 109)::(nat_lit 111)::(nat_lit 112)::(nat_lit 114)::(nat_lit 115)::(nat_lit 116)::(nat_lit 118)::(nat_lit 119)::(nat_lit 121)::(nat_lit 122)::(nat_lit 123)::(nat_lit 125)::(nat_lit 126)::(nat_lit 128)::(nat_lit 129)::(nat_lit 130)::(nat_lit 132)::(nat_lit 133)::(nat_lit 135)::(nat_lit 136)::(nat_lit 137)::(nat_lit 139)::(nat_lit 140)::(nat_lit 142)::(nat_lit 143)::(nat_lit 144)::(nat_lit 146)::(nat_lit 147)::(nat_lit 149)::(nat_lit 150)::(nat_lit 158)::(nat_lit 160)::(nat_lit 161)::(nat_lit 163)::(nat_lit 164)::(nat_lit 165)::(nat_lit 167)::(nat_lit 168)::(nat_lit 170)::(nat_lit 171)::(nat_lit 172)::(nat_lit 174)::(nat_lit 175)::(nat_lit 177)::(nat_lit 178)::(nat_lit 179)::(nat_lit 181)::(nat_lit 182)::(nat_lit 184)::(nat_lit 185)::(nat_lit 186)::(nat_lit 188)::(nat_lit 189)::(nat_lit 191)::(nat_lit 192)::(nat_lit 193)::(nat_lit 195)::(nat_lit 196)::(nat_lit 198)::(nat_lit 199)::(nat_lit 200)::(nat_lit 201)::(nat_lit 202)::(nat_lit 203)::(nat_lit 204)::(nat_lit 207)::(nat_lit 214)::(nat_lit 216)::(nat_lit 217)::(nat_lit 219)::(nat_lit 220)::(nat_lit 221)::(nat_lit 223)::(nat_lit 224)::(nat_lit 226)::(nat_lit 227)::(nat_lit 228)::(nat_lit 230)::(nat_lit 231)::(nat_lit 233)::(nat_lit 234)::(nat_lit 235)::(nat_lit 236)::(nat_lit 237)::(nat_lit 240)::(nat_lit 247)::(nat_lit 249)::(nat_lit 250)::(nat_lit 252)::(nat_lit 253)::(nat_lit 254)::(nat_lit 256)::(nat_lit 257)::(nat_lit 259)::(nat_lit 260)::(nat_lit 261)::(nat_lit 263)::(nat_lit 264)::(nat_lit 266)::(nat_lit 267)::(nat_lit 268)::(nat_lit 270)::(nat_lit 271)::(nat_lit 273)::(nat_lit 274)::(nat_lit 275)::(nat_lit 276)::(nat_lit 277)::(nat_lit 280)::(nat_lit 287)::(nat_lit 289)::(nat_lit 290)::(nat_lit 292)::(nat_lit 293)::(nat_lit 294)::(nat_lit 296)::(nat_lit 297)::(nat_lit 299)::(nat_lit 300)::(nat_lit 301)::(nat_lit 303)::(nat_lit 304)::(nat_lit 306)::(nat_lit 307)::(nat_lit 308)::(nat_lit 310)::(nat_lit 311)::(nat_lit 313)::(nat_lit 314)::(nat_lit 315)::(nat_lit 317)::(nat_lit 318)::(nat_lit 320)::(nat_lit 321)::(nat_lit 322)::(nat_lit 323)::(nat_lit 324)::(nat_lit 327)::(nat_lit 334)::(nat_lit 336)::(nat_lit 337)::(nat_lit 339)::(nat_lit 340)::(nat_lit 341)::(nat_lit 343)::(nat_lit 344)::(nat_lit 346)::(nat_lit 347)::(nat_lit 348)::(nat_lit 350)::(nat_lit 351)::(nat_lit 353)::(nat_lit 354)::(nat_lit 355)::(nat_lit 356)::(nat_lit 357)::(nat_lit 360)::(nat_lit 367)::(nat_lit 369)::(nat_lit 370)::(nat_lit 372)::(nat_lit 373)::(nat_lit 374)::(nat_lit 376)::(nat_lit 377)::(nat_lit 379)::(nat_lit 380)::(nat_lit 381)::(nat_lit 383)::(nat_lit 384)::(nat_lit 386)::(nat_lit 387)::(nat_lit 388)::(nat_lit 390)::(nat_lit 391)::(nat_lit 393)::(nat_lit 394)::(nat_lit 395)::(nat_lit 397)::(nat_lit 398)::(nat_lit 400)::(nat_lit 401)::(nat_lit 402)::(nat_lit 403)::(nat_lit 404)::(nat_lit 407)::(nat_lit 414)::(nat_lit 416)::(nat_lit 417)::(nat_lit 419)::(nat_lit 420)::(nat_lit 421)::(nat_lit 423)::(nat_lit 424)::(nat_lit 426)::(nat_lit 427)::(nat_lit 428)::(nat_lit 430)::(nat_lit 431)::(nat_lit 433)::(nat_lit 434)::(nat_lit 435)::(nat_lit 437)::(nat_lit 438)::(nat_lit 440)::(nat_lit 441)::(nat_lit 442)::(nat_lit 444)::(nat_lit 445)::(nat_lit 447)::(nat_lit 448)::(nat_lit 449)::(nat_lit 451)::(nat_lit 452)::(nat_lit 454)::(nat_lit 455)::(nat_lit 456)::(nat_lit 457)::(nat_lit 458)::(nat_lit 461)::(nat_lit 463)::(nat_lit 464)::(nat_lit 466)::(nat_lit 467)::(nat_lit 468)::(nat_lit 470)::(nat_lit 471)::(nat_lit 473)::(nat_lit 474)::(nat_lit 475)::(nat_lit 477)::(nat_lit 478)::(nat_lit 480)::(nat_lit 481)::(nat_lit 482)::(nat_lit 484)::(nat_lit 485)::(nat_lit 487)::(nat_lit 488)::(nat_lit 489)::(nat_lit 491)::(nat_lit 492)::(nat_lit 494)::(nat_lit 495)::(nat_lit 496)::(nat_lit 498)::(nat_lit 499)::(nat_lit 501)::(nat_lit 502)::(nat_lit 503)::(nat_lit 505)::(nat_lit 506)::(nat_lit 508)::(nat_lit 509)::(nat_lit 510)::(nat_lit 512)::(nat_lit 513)::(nat_lit 515)::(nat_lit 516)::(nat_lit 517)::(nat_lit 519)::(nat_lit 520)::(nat_lit 522)::(nat_lit 523)::(nat_lit 524)::(nat_lit 526)::(nat_lit 527)::(nat_lit 529)::(nat_lit 530)::(nat_lit 531)::(nat_lit 533)::(nat_lit 534)::(nat_lit 536)::(nat_lit 537)::(nat_lit 538)::(nat_lit 540)::(nat_lit 541)::(nat_lit 543)::(nat_lit 544)::(nat_lit 545)::(nat_lit 547)::(nat_lit 548)::(nat_lit 550)::(nat_lit 551)::(nat_lit 552)::(nat_lit 554)::(nat_lit 555)::(nat_lit 557)::(nat_lit 558)::(nat_lit 559)::(nat_lit 562)::(nat_lit 563)::(nat_lit 564)::(nat_lit 567)::(nat_lit 568)::(nat_lit 569)::(nat_lit 571)::(nat_lit 572)::(nat_lit 574)::(nat_lit 575)::(nat_lit 576)::(nat_lit 578)::(nat_lit 579)::(nat_lit 581)::(nat_lit 582)::(nat_lit 583)::(nat_lit 585)::(nat_lit 586)::(nat_lit 588)::(nat_lit 589)::(nat_lit 590)::(nat_lit 592)::(nat_lit 593)::(nat_lit 595)::(nat_lit 596)::(nat_lit 597)::(nat_lit 599)::(nat_lit 600)::(nat_lit 602)::(nat_lit 603)::(nat_lit 604)::(nat_lit 606)::(nat_lit 607)::(nat_lit 609)::(nat_lit 610)::(nat_lit 611)::(nat_lit 613)::(nat_lit 614)::(nat_lit 616)::(nat_lit 617)::(nat_lit 618)::(nat_lit 620)::(nat_lit 621)::(nat_lit 623)::(nat_lit 624)::(nat_lit 625)::(nat_lit 627)::(nat_lit 628)::(nat_lit 630)::(nat_lit 631)::(nat_lit 632)::(nat_lit 634)::(nat_lit 635)::(nat_lit 637)::(nat_lit 638)::(nat_lit 639)::(nat_lit 641)::(nat_lit 642)::(nat_lit 644)::(nat_lit 645)::(nat_lit 646)::(nat_lit 648)::(nat_lit 649)::(nat_lit 651)::(nat_lit 652)::(nat_lit 653)::(nat_lit 656)::(nat_lit 657)::(nat_lit 658)::(nat_lit 660)::(nat_lit 661)::(nat_lit 663)::(nat_lit 664)::(nat_lit 665)::(nat_lit 667)::(nat_lit 668)::(nat_lit 670)::(nat_lit 671)::[])
def h_heap_39:PySem.Params→PySem.W.Frag:=fun x=>
(nat_lit 2,(@W.boot_o_2 x))::
(nat_lit 3,(Wh x))::
(nat_lit 15,(za x))::
(nat_lit 17,(o53 x))::
(nat_lit 18,(za x))::
(nat_lit 20,(o56 x))::
(nat_lit 21,(o57 x))::
(nat_lit 22,(o58 x))::
(nat_lit 29,(za x))::
(nat_lit 30,(o66 x))::
(nat_lit 31,(u9 x))::
(nat_lit 32,(o68 x))::
(nat_lit 35,(zD x))::
(nat_lit 42,(za x))::
(nat_lit 43,(o82 x))::
(nat_lit 44,(o83 x))::
(nat_lit 47,(zD x))::
(nat_lit 54,(za x))::
(nat_lit 55,(o97 x))::
(nat_lit 56,(o98 x))::
(nat_lit 59,(zD x))::
(nat_lit 66,(za x))::
(nat_lit 67,(uj x))::
(nat_lit 68,(ui x))::
(nat_lit 71,(zD x))::
(nat_lit 78,(za x))::
(nat_lit 79,(tj x))::
(nat_lit 80,(u_ x))::
(nat_lit 83,(zD x))::
(nat_lit 90,(za x))::
(nat_lit 91,(u8 x))::
(nat_lit 92,(u7 x))::
(nat_lit 95,(za x))::
(nat_lit 97,(qj x))::
(nat_lit 98,(za x))::
(nat_lit 100,(sN x))::
(nat_lit 101,(sM x))::
(nat_lit 102,(za x))::
(nat_lit 104,(sL x))::
(nat_lit 105,(za x))::
(nat_lit 107,(u6 x))::
(nat_lit 108,(u5 x))::
(nat_lit 109,(za x))::
(nat_lit 111,(u4 x))::
(nat_lit 112,(za x))::
(nat_lit 114,(u3 x))::
(nat_lit 115,(u0 x))::
(nat_lit 116,(za x))::
(nat_lit 118,(uZ x))::
(nat_lit 119,(za x))::
(nat_lit 121,(uY x))::
(nat_lit 122,(uX x))::
(nat_lit 123,(za x))::
(nat_lit 125,(uW x))::
(nat_lit 126,(za x))::
(nat_lit 128,(qh x))::
(nat_lit 129,(qg x))::
(nat_lit 130,(za x))::
(nat_lit 132,(qf x))::
(nat_lit 133,(za x))::
(nat_lit 135,(qe x))::
(nat_lit 136,(qd x))::
(nat_lit 137,(za x))::
(nat_lit 139,(qc x))::
(nat_lit 140,(za x))::
(nat_lit 142,(pW x))::
(nat_lit 143,(pV x))::
(nat_lit 144,(za x))::
(nat_lit 146,(pU x))::
(nat_lit 147,(za x))::
(nat_lit 149,(pT x))::
(nat_lit 150,(pS x))::
(nat_lit 158,(za x))::
(nat_lit 160,(pO x))::
(nat_lit 161,(za x))::
(nat_lit 163,(pN x))::
(nat_lit 164,(pM x))::
(nat_lit 165,(za x))::
(nat_lit 167,(pL x))::
(nat_lit 168,(za x))::
(nat_lit 170,(pK x))::
(nat_lit 171,(pJ x))::
(nat_lit 172,(za x))::
(nat_lit 174,(pI x))::
(nat_lit 175,(za x))::
(nat_lit 177,(pH x))::
(nat_lit 178,(pG x))::
(nat_lit 179,(za x))::
(nat_lit 181,(pF x))::
(nat_lit 182,(za x))::
(nat_lit 184,(pE x))::
(nat_lit 185,(pD x))::
(nat_lit 186,(za x))::
(nat_lit 188,(pC x))::
(nat_lit 189,(za x))::
(nat_lit 191,(pr x))::
(nat_lit 192,(pq x))::
(nat_lit 193,(za x))::
(nat_lit 195,(pj x))::
(nat_lit 196,(za x))::
(nat_lit 198,(ph x))::
(nat_lit 199,(pf x))::
(nat_lit 200,(za x))::
(nat_lit 201,(pe x))::
(nat_lit 202,(cP x))::
(nat_lit 203,(pd x))::
(nat_lit 204,(q_ x))::
(nat_lit 207,(z_ x))::
(nat_lit 214,(za x))::
(nat_lit 216,(nC x))::
(nat_lit 217,(za x))::
(nat_lit 219,(nB x))::
(nat_lit 220,(nA x))::
(nat_lit 221,(za x))::
(nat_lit 223,(nw x))::
(nat_lit 224,(za x))::
(nat_lit 226,(nv x))::
(nat_lit 227,(nu x))::
(nat_lit 228,(za x))::
(nat_lit 230,(nt x))::
(nat_lit 231,(za x))::
(nat_lit 233,(nr x))::
(nat_lit 234,(q9 x))::
(nat_lit 235,(q8 x))::
(nat_lit 236,(qZ x))::
(nat_lit 237,(qY x))::
(nat_lit 240,(z_ x))::
(nat_lit 247,(za x))::
(nat_lit 249,(nl x))::
(nat_lit 250,(za x))::
(nat_lit 252,(nk x))::
(nat_lit 253,(nj x))::
(nat_lit 254,(za x))::
(nat_lit 256,(m9 x))::
(nat_lit 257,(za x))::
(nat_lit 259,(mZ x))::
(nat_lit 260,(mY x))::
(nat_lit 261,(za x))::
(nat_lit 263,(mX x))::
(nat_lit 264,(za x))::
(nat_lit 266,(ni x))::
(nat_lit 267,(mW x))::
(nat_lit 268,(za x))::
(nat_lit 270,(jv x))::
(nat_lit 271,(za x))::
(nat_lit 273,(ju x))::
(nat_lit 274,(jt x))::
(nat_lit 275,(jr x))::
(nat_lit 276,(jq x))::
(nat_lit 277,(jp x))::
(nat_lit 280,(z_ x))::
(nat_lit 287,(za x))::
(nat_lit 289,(jk x))::
(nat_lit 290,(za x))::
(nat_lit 292,(ji x))::
(nat_lit 293,(jh x))::
(nat_lit 294,(za x))::
(nat_lit 296,(jg x))::
(nat_lit 297,(za x))::
(nat_lit 299,(jf x))::
(nat_lit 300,(je x))::
(nat_lit 301,(za x))::
(nat_lit 303,(jd x))::
(nat_lit 304,(za x))::
(nat_lit 306,(jc x))::
(nat_lit 307,(jb x))::
(nat_lit 308,(za x))::
(nat_lit 310,(ja x))::
(nat_lit 311,(za x))::
(nat_lit 313,(k_ x))::
(nat_lit 314,(kZ x))::
(nat_lit 315,(za x))::
(nat_lit 317,(kY x))::
(nat_lit 318,(za x))::
(nat_lit 320,(kX x))::
(nat_lit 321,(kW x))::
(nat_lit 322,(kU x))::
(nat_lit 323,(kT x))::
(nat_lit 324,(kS x))::
(nat_lit 327,(z_ x))::
(nat_lit 334,(za x))::
(nat_lit 336,(fE x))::
(nat_lit 337,(za x))::
(nat_lit 339,(fD x))::
(nat_lit 340,(fC x))::
(nat_lit 341,(za x))::
(nat_lit 343,(fB x))::
(nat_lit 344,(za x))::
(nat_lit 346,(fA x))::
(nat_lit 347,(fw x))::
(nat_lit 348,(za x))::
(nat_lit 350,(fv x))::
(nat_lit 351,(za x))::
(nat_lit 353,(fu x))::
(nat_lit 354,(ft x))::
(nat_lit 355,(fq x))::
(nat_lit 356,(fm x))::
(nat_lit 357,(fk x))::
(nat_lit 360,(z_ x))::
(nat_lit 367,(za x))::
(nat_lit 369,(kR x))::
(nat_lit 370,(za x))::
(nat_lit 372,(kQ x))::
(nat_lit 373,(kP x))::
(nat_lit 374,(za x))::
(nat_lit 376,(kO x))::
(nat_lit 377,(za x))::
(nat_lit 379,(kN x))::
(nat_lit 380,(kM x))::
(nat_lit 381,(za x))::
(nat_lit 383,(g9 x))::
(nat_lit 384,(za x))::
(nat_lit 386,(g8 x))::
(nat_lit 387,(g7 x))::
(nat_lit 388,(za x))::
(nat_lit 390,(g6 x))::
(nat_lit 391,(za x))::
(nat_lit 393,(gZ x))::
(nat_lit 394,(gY x))::
(nat_lit 395,(za x))::
(nat_lit 397,(cV x))::
(nat_lit 398,(za x))::
(nat_lit 400,(cU x))::
(nat_lit 401,(cT x))::
(nat_lit 402,(cS x))::
(nat_lit 403,(cR x))::
(nat_lit 404,(cQ x))::
(nat_lit 407,(z_ x))::
(nat_lit 414,(za x))::
(nat_lit 416,(cL x))::
(nat_lit 417,(za x))::
(nat_lit 419,(cK x))::
(nat_lit 420,(cJ x))::
(nat_lit 421,(za x))::
(nat_lit 423,(cI x))::
(nat_lit 424,(za x))::
(nat_lit 426,(cH x))::
(nat_lit 427,(cG x))::
(nat_lit 428,(za x))::
(nat_lit 430,(cF x))::
(nat_lit 431,(za x))::
(nat_lit 433,(cE x))::
(nat_lit 434,(cD x))::
(nat_lit 435,(za x))::
(nat_lit 437,(cC x))::
(nat_lit 438,(za x))::
(nat_lit 440,(cB x))::
(nat_lit 441,(cA x))::
(nat_lit 442,(za x))::
(nat_lit 444,(cz x))::
(nat_lit 445,(za x))::
(nat_lit 447,(cy x))::
(nat_lit 448,(cx x))::
(nat_lit 449,(za x))::
(nat_lit 451,(cw x))::
(nat_lit 452,(za x))::
(nat_lit 454,(cv x))::
(nat_lit 455,(cu x))::
(nat_lit 456,(cr x))::
(nat_lit 457,(cq x))::
(nat_lit 458,(cp x))::
(nat_lit 461,(za x))::
(nat_lit 463,(ZI x))::
(nat_lit 464,(za x))::
(nat_lit 466,(ZH x))::
(nat_lit 467,(ZG x))::
(nat_lit 468,(za x))::
(nat_lit 470,(ZF x))::
(nat_lit 471,(za x))::
(nat_lit 473,(ZE x))::
(nat_lit 474,(ZD x))::
(nat_lit 475,(za x))::
(nat_lit 477,(ZC x))::
(nat_lit 478,(za x))::
(nat_lit 480,(ZB x))::
(nat_lit 481,(ZA x))::
(nat_lit 482,(za x))::
(nat_lit 484,(Zz x))::
(nat_lit 485,(za x))::
(nat_lit 487,(Zy x))::
(nat_lit 488,(Zw x))::
(nat_lit 489,(za x))::
(nat_lit 491,(cn x))::
(nat_lit 492,(za x))::
(nat_lit 494,(cm x))::
(nat_lit 495,(ck x))::
(nat_lit 496,(za x))::
(nat_lit 498,(cj x))::
(nat_lit 499,(za x))::
(nat_lit 501,(ci x))::
(nat_lit 502,(cg x))::
(nat_lit 503,(za x))::
(nat_lit 505,(cf x))::
(nat_lit 506,(za x))::
(nat_lit 508,(ce x))::
(nat_lit 509,(cc x))::
(nat_lit 510,(za x))::
(nat_lit 512,(Zs x))::
(nat_lit 513,(za x))::
(nat_lit 515,(Zr x))::
(nat_lit 516,(Zq x))::
(nat_lit 517,(za x))::
(nat_lit 519,(Zp x))::
(nat_lit 520,(za x))::
(nat_lit 522,(Zo x))::
(nat_lit 523,(Zm x))::
(nat_lit 524,(za x))::
(nat_lit 526,(Zl x))::
(nat_lit 527,(za x))::
(nat_lit 529,(Zk x))::
(nat_lit 530,(Zj x))::
(nat_lit 531,(za x))::
(nat_lit 533,(Zi x))::
(nat_lit 534,(za x))::
(nat_lit 536,(Zh x))::
(nat_lit 537,(Zg x))::
(nat_lit 538,(za x))::
(nat_lit 540,(Zf x))::
(nat_lit 541,(za x))::
(nat_lit 543,(Ze x))::
(nat_lit 544,(WN x))::
(nat_lit 545,(za x))::
(nat_lit 547,(WM x))::
(nat_lit 548,(za x))::
(nat_lit 550,(WL x))::
(nat_lit 551,(WK x))::
(nat_lit 552,(za x))::
(nat_lit 554,(WJ x))::
(nat_lit 555,(za x))::
(nat_lit 557,(WI x))::
(nat_lit 558,(WH x))::
(nat_lit 559,(za x))::
(nat_lit 562,(WG x))::
(nat_lit 563,(WF x))::
(nat_lit 564,(za x))::
(nat_lit 567,(WE x))::
(nat_lit 568,(WD x))::
(nat_lit 569,(za x))::
(nat_lit 571,(WC x))::
(nat_lit 572,(za x))::
(nat_lit 574,(WB x))::
(nat_lit 575,(WA x))::
(nat_lit 576,(za x))::
(nat_lit 578,(Wz x))::
(nat_lit 579,(za x))::
(nat_lit 581,(Wy x))::
(nat_lit 582,(Wx x))::
(nat_lit 583,(za x))::
(nat_lit 585,(Ww x))::
(nat_lit 586,(za x))::
(nat_lit 588,(Wv x))::
(nat_lit 589,(Wu x))::
(nat_lit 590,(za x))::
(nat_lit 592,(Wt x))::
(nat_lit 593,(za x))::
(nat_lit 595,(Ws x))::
(nat_lit 596,(Wr x))::
(nat_lit 597,(za x))::
(nat_lit 599,(Wq x))::
(nat_lit 600,(za x))::
(nat_lit 602,(Wp x))::
(nat_lit 603,(Wo x))::
(nat_lit 604,(za x))::
(nat_lit 606,(Wn x))::
(nat_lit 607,(za x))::
(nat_lit 609,(Wm x))::
(nat_lit 610,(Wl x))::
(nat_lit 611,(za x))::
(nat_lit 613,(Wk x))::
(nat_lit 614,(za x))::
(nat_lit 616,(Wj x))::
(nat_lit 617,(Wi x))::
(nat_lit 618,(za x))::
(nat_lit 620,(Wg x))::
(nat_lit 621,(za x))::
(nat_lit 623,(Wf x))::
(nat_lit 624,(We x))::
(nat_lit 625,(za x))::
(nat_lit 627,(Wd x))::
(nat_lit 628,(za x))::
(nat_lit 630,(Wc x))::
(nat_lit 631,(Wb x))::
(nat_lit 632,(za x))::
(nat_lit 634,(Wa x))::
(nat_lit 635,(za x))::
(nat_lit 637,(X_ x))::
(nat_lit 638,(X9 x))::
(nat_lit 639,(za x))::
(nat_lit 641,(X8 x))::
(nat_lit 642,(za x))::
(nat_lit 644,(X7 x))::
(nat_lit 645,(X6 x))::
(nat_lit 646,(za x))::
(nat_lit 648,(X5 x))::
(nat_lit 649,(za x))::
(nat_lit 651,(X4 x))::
(nat_lit 652,(X3 x))::
(nat_lit 653,(za x))::
(nat_lit 656,(X2 x))::
(nat_lit 657,(X1 x))::
(nat_lit 658,(za x))::
(nat_lit 660,(X0 x))::
(nat_lit 661,(za x))::
(nat_lit 663,(XZ x))::
(nat_lit 664,(XY x))::
(nat_lit 665,(za x))::
(nat_lit 667,(XX x))::
(nat_lit 668,(za x))::
(nat_lit 670,(XW x))::
(nat_lit 671,(XV x))::[]
def h_view_39:PySem.Program:={ PySem.Challenge.pw_oddbases_k33_products with main:={ PySem.Challenge.pw_oddbases_k33_products.main with body:=[My.top 0,My.top 2,My.top 3,My.top 4,My.top 5,My.top 6,My.top 7,My.top 9,My.top 10,My.top 11,My.top 12,My.top 13,My.top 15,My.top 16,My.top 18,My.top 19,My.top 20,My.top 21,My.top 22,My.top 23,My.top 24,My.top 25,My.top 27,My.top 28,My.top 29,My.top 30,My.top 31,My.top 32,My.top 33,My.top 35,My.top 36,My.top 38,My.top 39,My.top 40,My.top 41,My.top 42,My.top 44,My.top 45,My.top 46,My.top 47,My.top 48,My.top 50,My.top 51,My.top 52,My.top 53,My.top 54,My.top 55,My.top 56,My.top 57,My.top 58,My.top 59,My.top 60,My.top 61] } }
def xw:((x:@Params)→@Heap):=(fun x=>(@Heap.mk (@Array.mk @Obj ((@W.boot_o_0 x)::(@W.boot_o_1 x)::(@W.boot_o_2 x)::(Wh x)::(@W.boot_o_4 x)::(@W.boot_o_5 x)::(@W.boot_o_6 x)::(@W.boot_o_7 x)::(@W.boot_o_8 x)::(@W.boot_o_9 x)::(@W.boot_o_10 x)::(za x)::(Uw x)::(o45 x)::(o46 x)::(za x)::(ze x)::(o53 x)::(za x)::(o55 x)::(o56 x)::(o57 x)::(o58 x)::(zn x)::(o60 x)::(za x)::(ze x)::(o63 x)::(o64 x)::(za x)::(o66 x)::(u9 x)::(o68 x)::(o69 x)::(o70 x)::(zD x)::(zn x)::(o76 x)::(za x)::(ze x)::(o79 x)::(o80 x)::(za x)::(o82 x)::(o83 x)::(o84 x)::(o85 x)::(zD x)::(zn x)::(o91 x)::(za x)::(ze x)::(o94 x)::(o95 x)::(za x)::(o97 x)::(o98 x)::(o99 x)::(vI x)::(zD x)::(zn x)::(vV x)::(za x)::(ze x)::(tz x)::(tx x)::(za x)::(uj x)::(ui x)::(tw x)::(tu x)::(zD x)::(zn x)::(tq x)::(za x)::(ze x)::(tm x)::(sU x)::(za x)::(tj x)::(u_ x)::(sT x)::(sS x)::(zD x)::(zn x)::(qk x)::(za x)::(ze x)::(sR x)::(sQ x)::(za x)::(u8 x)::(u7 x)::(sP x)::(sO x)::(za x)::(ze x)::(qj x)::(za x)::(qi x)::(sN x)::(sM x)::(za x)::(ze x)::(sL x)::(za x)::(sK x)::(u6 x)::(u5 x)::(za x)::(ze x)::(u4 x)::(za x)::(sJ x)::(u3 x)::(u0 x)::(za x)::(ze x)::(uZ x)::(za x)::(sI x)::(uY x)::(uX x)::(za x)::(ze x)::(uW x)::(za x)::(pY x)::(qh x)::(qg x)::(za x)::(ze x)::(qf x)::(za x)::(pX x)::(qe x)::(qd x)::(za x)::(ze x)::(qc x)::(za x)::(nM x)::(pW x)::(pV x)::(za x)::(ze x)::(pU x)::(za x)::(nL x)::(pT x)::(pS x)::(za x)::(zn x)::(nK x)::(za x)::(pR x)::(pQ x)::(pP x)::(za x)::(ze x)::(pO x)::(za x)::(nJ x)::(pN x)::(pM x)::(za x)::(ze x)::(pL x)::(za x)::(nI x)::(pK x)::(pJ x)::(za x)::(ze x)::(pI x)::(za x)::(nH x)::(pH x)::(pG x)::(za x)::(ze x)::(pF x)::(za x)::(nG x)::(pE x)::(pD x)::(za x)::(ze x)::(pC x)::(za x)::(nE x)::(pr x)::(pq x)::(za x)::(ze x)::(pj x)::(za x)::(nD x)::(ph x)::(pf x)::(za x)::(pe x)::(cP x)::(pd x)::(q_ x)::(lv x)::(lu x)::(z_ x)::(zn x)::(jB x)::(za x)::(jA x)::(jz x)::(jy x)::(za x)::(ze x)::(nC x)::(za x)::(lq x)::(nB x)::(nA x)::(za x)::(ze x)::(nw x)::(za x)::(lp x)::(nv x)::(nu x)::(za x)::(ze x)::(nt x)::(za x)::(ln x)::(nr x)::(q9 x)::(q8 x)::(qZ x)::(qY x)::(nq x)::(nn x)::(z_ x)::(zn x)::(lj x)::(za x)::(lh x)::(lf x)::(ld x)::(za x)::(ze x)::(nl x)::(za x)::(m_ x)::(nk x)::(nj x)::(za x)::(ze x)::(m9 x)::(za x)::(jx x)::(mZ x)::(mY x)::(za x)::(ze x)::(mX x)::(za x)::(jw x)::(ni x)::(mW x)::(za x)::(ze x)::(jv x)::(za x)::(fR x)::(ju x)::(jt x)::(jr x)::(jq x)::(jp x)::(fQ x)::(fP x)::(z_ x)::(zn x)::(jo x)::(za x)::(jn x)::(jm x)::(jl x)::(za x)::(ze x)::(jk x)::(za x)::(fO x)::(ji x)::(jh x)::(za x)::(ze x)::(jg x)::(za x)::(fN x)::(jf x)::(je x)::(za x)::(ze x)::(jd x)::(za x)::(fM x)::(jc x)::(jb x)::(za x)::(ze x)::(ja x)::(za x)::(fL x)::(k_ x)::(kZ x)::(za x)::(ze x)::(kY x)::(za x)::(fK x)::(kX x)::(kW x)::(kU x)::(kT x)::(kS x)::(fJ x)::(fI x)::(z_ x)::(zn x)::(fH x)::(za x)::(fG x)::(fF x)::(c8 x)::(za x)::(ze x)::(fE x)::(za x)::(c7 x)::(fD x)::(fC x)::(za x)::(ze x)::(fB x)::(za x)::(c6 x)::(fA x)::(fw x)::(za x)::(ze x)::(fv x)::(za x)::(c5 x)::(fu x)::(ft x)::(fq x)::(fm x)::(fk x)::(cZ x)::(cY x)::(z_ x)::(zn x)::(fj x)::(za x)::(fh x)::(fg x)::(ff x)::(za x)::(ze x)::(kR x)::(za x)::(fe x)::(kQ x)::(kP x)::(za x)::(ze x)::(kO x)::(za x)::(fc x)::(kN x)::(kM x)::(za x)::(ze x)::(g9 x)::(za x)::(cX x)::(g8 x)::(g7 x)::(za x)::(ze x)::(g6 x)::(za x)::(cW x)::(gZ x)::(gY x)::(za x)::(ze x)::(cV x)::(za x)::(ZU x)::(cU x)::(cT x)::(cS x)::(cR x)::(cQ x)::(ZT x)::(ZS x)::(z_ x)::(zn x)::(ZR x)::(za x)::(cO x)::(cN x)::(cM x)::(za x)::(ze x)::(cL x)::(za x)::(ZQ x)::(cK x)::(cJ x)::(za x)::(ze x)::(cI x)::(za x)::(ZP x)::(cH x)::(cG x)::(za x)::(ze x)::(cF x)::(za x)::(ZO x)::(cE x)::(cD x)::(za x)::(ze x)::(cC x)::(za x)::(ZN x)::(cB x)::(cA x)::(za x)::(ze x)::(cz x)::(za x)::(ZM x)::(cy x)::(cx x)::(za x)::(ze x)::(cw x)::(za x)::(ZL x)::(cv x)::(cu x)::(cr x)::(cq x)::(cp x)::(ZK x)::(ZJ x)::(za x)::(ze x)::(ZI x)::(za x)::(WW x)::(ZH x)::(ZG x)::(za x)::(ze x)::(ZF x)::(za x)::(WV x)::(ZE x)::(ZD x)::(za x)::(ze x)::(ZC x)::(za x)::(WU x)::(ZB x)::(ZA x)::(za x)::(ze x)::(Zz x)::(za x)::(WT x)::(Zy x)::(Zw x)::(za x)::(ze x)::(cn x)::(za x)::(Zv x)::(cm x)::(ck x)::(za x)::(ze x)::(cj x)::(za x)::(Zu x)::(ci x)::(cg x)::(za x)::(ze x)::(cf x)::(za x)::(Zt x)::(ce x)::(cc x)::(za x)::(ze x)::(Zs x)::(za x)::(WS x)::(Zr x)::(Zq x)::(za x)::(ze x)::(Zp x)::(za x)::(WR x)::(Zo x)::(Zm x)::(za x)::(ze x)::(Zl x)::(za x)::(WQ x)::(Zk x)::(Zj x)::(za x)::(ze x)::(Zi x)::(za x)::(WP x)::(Zh x)::(Zg x)::(za x)::(ze x)::(Zf x)::(za x)::(WO x)::(Ze x)::(WN x)::(za x)::(ze x)::(WM x)::(za x)::(UH x)::(WL x)::(WK x)::(za x)::(ze x)::(WJ x)::(za x)::(UG x)::(WI x)::(WH x)::(za x)::(ze x)::(UF x)::(WG x)::(WF x)::(za x)::(ze x)::(UE x)::(WE x)::(WD x)::(za x)::(ze x)::(WC x)::(za x)::(UD x)::(WB x)::(WA x)::(za x)::(ze x)::(Wz x)::(za x)::(UC x)::(Wy x)::(Wx x)::(za x)::(ze x)::(Ww x)::(za x)::(UB x)::(Wv x)::(Wu x)::(za x)::(ze x)::(Wt x)::(za x)::(UA x)::(Ws x)::(Wr x)::(za x)::(ze x)::(Wq x)::(za x)::(Uz x)::(Wp x)::(Wo x)::(za x)::(ze x)::(Wn x)::(za x)::(Uy x)::(Wm x)::(Wl x)::(za x)::(ze x)::(Wk x)::(za x)::(Ux x)::(Wj x)::(Wi x)::(za x)::(ze x)::(Wg x)::(za x)::(Uv x)::(Wf x)::(We x)::(za x)::(ze x)::(Wd x)::(za x)::(Uu x)::(Wc x)::(Wb x)::(za x)::(ze x)::(Wa x)::(za x)::(Ut x)::(X_ x)::(X9 x)::(za x)::(ze x)::(X8 x)::(za x)::(Us x)::(X7 x)::(X6 x)::(za x)::(ze x)::(X5 x)::(za x)::(Ur x)::(X4 x)::(X3 x)::(za x)::(ze x)::(Uq x)::(X2 x)::(X1 x)::(za x)::(ze x)::(X0 x)::(za x)::(Up x)::(XZ x)::(XY x)::(za x)::(ze x)::(XX x)::(za x)::(Uo x)::(XW x)::(XV x)::[])) (@Life.mk [] [] [] 0 (@List.nil (@Prod @Nat @Nat)) [] @Bool.false #[] [] 0 @Bool.false @Bool.false @Bool.false (0:Int) [(2000:Int),(10:Int),(10:Int)] @Bool.false 0 @Bool.true [] [] 0 @Bool.false)))
def zu:@Env:=(@Env.mk (@Module.scope (@Program.main ((@W.OpenRow.toRowW (@W.OpenLaw.row @Challenge.rw_oddbases_k33_products))).1)) @mainNs @mainNs (@List.nil (@Prod @Str @Addr)) @Str.empty (@Option.none @Addr) (r_ 13) (@some @Addr (@OfNat.ofNat @Addr 14 (@instOfNatNat 14))) (@OfNat.ofNat @Addr 0 (@instOfNatNat 0)))
def jM:=N_ W.boot_o_0 (N_ W.boot_o_1 (N_ Wh (N_ W.boot_o_7 (N_ za (N_ u9 (N_ ze (N_ pY p6 (N_ g9 (L_ za) Z_)) Y45) (N_ za (N_ ze (N_ za (L_ Ze) Z_) (N_ ze (L_ XV) Z_)) Y46)) (N_ zD (N_ tj (N_ pV xi (N_ ZU (L_ Uq) Z_)) Y47) (N_ u4 Y48 (N_ nn (N_ za (L_ Wf) Z_) (L_ ck))))) (N_ zn (N_ ze (N_ zD (N_ qe (N_ mX (L_ Zp) Z_) yR) Y49) Y0) (N_ o97 (N_ ze (N_ za (N_ fP (L_ WP) Z_) (N_ z_ (L_ XZ) Z_)) Y50) (N_ za Y51 (N_ za (N_ ze (L_ Wb) Z_) (L_ za)))))) (N_ za (N_ o55 (N_ zD (N_ uj (N_ ze (N_ mZ (L_ Zr) Z_) (N_ g7 (L_ Us) Z_)) Y52) Y1) (N_ ze (N_ zD (N_ za (N_ jr (L_ za) Z_) (N_ cR (L_ ze) Z_)) Y53) (N_ u0 Y54 (N_ za (N_ fe (L_ Wd) Z_) (L_ za))))) (N_ o63 (N_ o82 (N_ ze (N_ qc (N_ mW (L_ Zm) Z_) (N_ za (L_ X4) Z_)) Y55) (N_ u6 Y56 (N_ q8 yR (L_ cn)))) (N_ zD (N_ u8 (N_ pR yR (N_ cO (L_ XX) Z_)) Y57) (N_ za Y58 (N_ m_ (N_ kN (L_ za) Z_) (L_ Zt))))))) (N_ W.boot_o_5 (N_ W.boot_o_9 (N_ o53 (N_ o69 (N_ tx (N_ qg xi (N_ cX (L_ X8) Z_)) Y59) Y2) (N_ o91 (N_ sT (N_ ze (N_ ju (L_ Zk) Z_) (N_ cT (L_ X1) Z_)) Y60) (N_ sJ Y61 (N_ zn (N_ kR (L_ za) Z_) (L_ ze))))) (N_ za (N_ o80 (N_ tq (N_ za (N_ jw (L_ WR) Z_) (N_ gZ (L_ za) Z_)) Y62) Y3) (N_ o99 (N_ sQ (N_ nK (N_ zn (L_ Zg) Z_) (N_ ZR (L_ za) Z_)) Y63) (N_ uY Y64 (N_ nl yR (L_ cf)))))) (N_ o45 (N_ o57 (N_ o76 (N_ tw (N_ za xi (N_ ze (L_ X6) Z_)) Y65) Y4) (N_ o95 (N_ qk (N_ pT (N_ jp (L_ Zi) Z_) (N_ ZT (L_ za) Z_)) Y66) (N_ ze Y67 (N_ lf (N_ kP (L_ Uu) Z_) (L_ ci))))) (N_ za (N_ o84 (N_ sU (N_ nM p6 (N_ cV (L_ za) Z_)) Y68) (N_ za Y69 (N_ qY (N_ fg (L_ za) Z_) (L_ Zv)))) (N_ vV (N_ sP (N_ pP (N_ jm (L_ za) Z_) (N_ cM (L_ Uo) Z_)) Y70) (N_ uW Y71 (N_ nj (N_ za (L_ X_) Z_) (L_ cc)))))))) (N_ W.boot_o_2 (N_ W.boot_o_4 (N_ W.boot_o_8 (N_ ze (N_ o68 (N_ tz (N_ qh (N_ m9 (L_ Zs) Z_) yR) Y72) Y5) (N_ zn (N_ u_ (N_ za (N_ fR (L_ WQ) Z_) (N_ cU (L_ X2) Z_)) Y73) (N_ za Y74 (N_ z_ (N_ ze (L_ We) Z_) (L_ za))))) (N_ o60 (N_ o79 (N_ zn (N_ qd xi (N_ cW (L_ X5) Z_)) Y75) Y6) (N_ o98 (N_ sR (N_ zn (N_ z_ (L_ Zh) Z_) (N_ zn (L_ XY) Z_)) Y76) (N_ sI Y77 (N_ ze (N_ kO (L_ za) Z_) (L_ ze)))))) (N_ Uw (N_ o56 (N_ zn (N_ ui (N_ qf (N_ mY (L_ Zq) Z_) (N_ za (L_ X7) Z_)) Y78) Y7) (N_ o94 (N_ zn (N_ nL (N_ jq (L_ ze) Z_) (N_ cQ (L_ X0) Z_)) Y79) (N_ za Y80 (N_ lh (N_ kQ (L_ za) Z_) (L_ Zu))))) (N_ o64 (N_ o83 (N_ tm (N_ za xi (N_ ze (L_ X3) Z_)) Y81) (N_ u5 Y82 (N_ qZ (N_ fh (L_ Wg) Z_) (L_ za)))) (N_ zn (N_ u7 (N_ pQ (N_ jn (L_ Zf) Z_) (N_ cN (L_ za) Z_)) Y83) (N_ ze Y84 (N_ nk (N_ kM (L_ Ut) Z_) (L_ ce))))))) (N_ W.boot_o_6 (N_ W.boot_o_10 (N_ za (N_ o70 (N_ za (N_ za (N_ jx (L_ WS) Z_) (N_ g8 (L_ za) Z_)) Y85) Y8) (N_ za (N_ sS (N_ pU (N_ jt (L_ Zj) Z_) (N_ cS (L_ za) Z_)) Y86) (N_ u3 Y87 (N_ lj yR (L_ cj))))) (N_ ze (N_ za (N_ za (N_ ze (N_ ni (L_ Zo) Z_) (N_ gY (L_ Ur) Z_)) Y88) (N_ sK Y89 (N_ q9 (N_ fj (L_ za) Z_) (L_ ze)))) (N_ vI (N_ za (N_ za (N_ jo (L_ za) Z_) yR) Y90) (N_ uX Y91 (N_ za (N_ fc (L_ Wa) Z_) (L_ za)))))) (N_ o46 (N_ o58 (N_ za (N_ tu (N_ pX p6 (N_ g6 (L_ za) Z_)) Y92) Y9) (N_ za (N_ za (N_ pS (N_ fQ (L_ za) Z_) (N_ ZS (L_ Up) Z_)) Y93) (N_ uZ Y94 (N_ ld (N_ za (L_ Wc) Z_) (L_ cg))))) (N_ o66 (N_ o85 (N_ za (N_ pW (N_ jv (L_ Zl) Z_) yR) Y95) (N_ ze Y96 (N_ nq (N_ ff (L_ Uv) Z_) (L_ cm)))) (N_ za (N_ sO (N_ za (N_ jl (L_ WO) Z_) (N_ za (L_ XW) Z_)) Y97) (N_ za Y98 (N_ za (N_ ze (L_ X9) Z_) (L_ za))))))))
def xk:(@List @Stmt):=[My.top 54,My.top 55,My.top 56,My.top 57,My.top 58,My.top 59,My.top 60,My.top 61]
def jN:=N_ W.boot_o_0 (N_ W.boot_o_1 (N_ Rx (N_ W.boot_o_7 (N_ za (N_ u9 (N_ ze Y99 Y45) (N_ za (N_ ze (N_ za (L_ Ze) Z_) (L_ ze)) Y46)) (N_ zD (N_ tj S1 Y47) (N_ u4 Y48 (N_ nn (L_ za) (L_ ck))))) (N_ zn (N_ ze (N_ zD S0 Y49) Y0) (N_ o97 (N_ ze SZ Y50) (N_ za Y51 Ys)))) (N_ za (N_ o55 (N_ zD (N_ uj SY Y52) Y1) (N_ ze (N_ zD SW Y53) (N_ u0 Y54 (N_ za (L_ fe) (L_ za))))) (N_ o63 (N_ o82 (N_ ze SV Y55) (N_ u6 Y56 (N_ q8 (L_ za) (L_ cn)))) (N_ zD (N_ u8 (N_ pR yR (L_ cO)) Y57) (N_ za Y58 (N_ m_ (L_ kN) (L_ Zt))))))) (N_ W.boot_o_5 (N_ W.boot_o_9 (N_ o53 (N_ o69 (N_ tx SU Y59) Y2) (N_ o91 (N_ sT ST Y60) (N_ sJ Y61 (N_ zn (L_ kR) (L_ ze))))) (N_ za (N_ o80 (N_ tq SS Y62) Y3) (N_ o99 (N_ sQ SR Y63) (N_ uY Y64 (N_ nl (L_ za) (L_ cf)))))) (N_ o45 (N_ o57 (N_ o76 (N_ tw Yt Y65) Y4) (N_ o95 (N_ qk SQ Y66) (N_ ze Y67 (N_ lf (L_ kP) (L_ ci))))) (N_ za (N_ o84 (N_ sU SO Y68) (N_ za Y69 (N_ qY (L_ fg) (L_ Zv)))) (N_ vV (N_ sP (N_ pP (N_ jm (L_ za) Z_) (L_ cM)) Y70) (N_ uW Y71 (N_ nj (L_ za) (L_ cc)))))))) (N_ W.boot_o_2 (N_ W.boot_o_4 (N_ W.boot_o_8 (N_ ze (N_ o68 (N_ tz SN Y72) Y5) (N_ zn (N_ u_ SM Y73) (N_ za Y74 (N_ z_ (L_ ze) (L_ za))))) (N_ o60 (N_ o79 (N_ zn SL Y75) Y6) (N_ o98 (N_ sR SK Y76) (N_ sI Y77 (N_ ze (L_ kO) (L_ ze)))))) (N_ Rw (N_ o56 (N_ zn (N_ ui SJ Y78) Y7) (N_ o94 (N_ zn SI Y79) (N_ za Y80 (N_ lh (L_ kQ) (L_ Zu))))) (N_ o64 (N_ o83 (N_ tm Yt Y81) (N_ u5 Y82 (N_ qZ (L_ fh) (L_ za)))) (N_ zn (N_ u7 (N_ pQ (N_ jn (L_ Zf) Z_) (L_ cN)) Y83) (N_ ze Y84 (N_ nk (L_ kM) (L_ ce))))))) (N_ W.boot_o_6 (N_ W.boot_o_10 (N_ za (N_ o70 (N_ za SH Y85) Y8) (N_ za (N_ sS SG Y86) (N_ u3 Y87 (N_ lj (L_ za) (L_ cj))))) (N_ ze (N_ za (N_ za SF Y88) (N_ sK Y89 (N_ q9 (L_ fj) (L_ ze)))) (N_ vI (N_ za (N_ za (N_ jo (L_ za) Z_) (L_ za)) Y90) (N_ uX Y91 (N_ za (L_ fc) (L_ za)))))) (N_ o46 (N_ o58 (N_ za (N_ tu SE Y92) Y9) (N_ za (N_ za SD Y93) (N_ uZ Y94 (N_ ld (L_ za) (L_ cg))))) (N_ o66 (N_ o85 (N_ za SC Y95) (N_ ze Y96 (N_ nq (L_ ff) (L_ cm)))) (N_ za (N_ sO (N_ za (N_ jl (L_ WO) Z_) (L_ za)) Y97) (N_ za Y98 Ys))))))
def xW:(@List @Stmt):=[My.top 40,My.top 41,My.top 42,My.top 43,My.top 44,My.top 45,My.top 46,My.top 47,My.top 48,My.top 49,My.top 50,My.top 51,My.top 52,My.top 53]
def jO:=N_ W.boot_o_0 (N_ W.boot_o_1 (N_ RA (N_ W.boot_o_7 (N_ za (N_ u9 (N_ ze Y99 (N_ pr (L_ fK) (L_ cy))) (N_ za qD (N_ nw (L_ za) (L_ WU)))) (N_ zD (N_ tj S1 (N_ z_ (L_ ze) (L_ ZI))) (N_ u4 (N_ za (L_ jd) (L_ za)) (N_ nn (L_ za) (L_ ck))))) (N_ zn (N_ ze (N_ zD S0 (N_ pf (L_ z_) (L_ cu))) (N_ ze (N_ pL (L_ ze) (L_ cI)) (N_ za (L_ cY) (L_ Zy)))) (N_ o97 (N_ ze SZ (N_ ze (L_ fB) (L_ za))) (N_ za (N_ nG (L_ za) (L_ ZN)) Ys)))) (N_ za (N_ o55 (N_ zD (N_ uj SY (N_ pj (L_ kT) (L_ cw))) (N_ qi (N_ pN (L_ fO) (L_ cK)) (N_ nu (L_ fq) (L_ ze)))) (N_ ze (N_ zD SW (N_ jA (L_ fD) (L_ ZG))) (N_ u0 (N_ za (L_ jb) (L_ za)) (N_ za (L_ fe) (L_ za))))) (N_ o63 (N_ o82 (N_ ze SV (N_ pd (L_ fG) (L_ ZK))) (N_ u6 (N_ pJ (L_ jf) (L_ cG)) (N_ q8 (L_ za) (L_ cn)))) (N_ zD (N_ u8 (N_ pR (L_ za) (L_ cO)) (N_ nB (L_ fw) (L_ za))) (N_ za qD (N_ m_ (L_ kN) (L_ Zt))))))) (N_ W.boot_o_5 (N_ W.boot_o_9 (N_ o53 (N_ o69 (N_ tx SU (N_ za (L_ kW) (L_ za))) (N_ qj (N_ za (L_ jk) (L_ za)) (N_ lp (L_ fu) (L_ ZA)))) (N_ o91 (N_ sT ST (N_ jB (L_ za) (L_ WW))) (N_ sJ (N_ pH (L_ fM) (L_ cE)) (N_ zn (L_ kR) (L_ ze))))) (N_ za (N_ o80 (N_ tq SS (N_ pe (L_ fH) (L_ cq))) (N_ za (N_ nI (L_ za) (L_ ZP)) (N_ nr (L_ zn) (L_ za)))) (N_ o99 (N_ sQ SR (N_ za (L_ c6) (L_ ZE))) (N_ uY (N_ pD (L_ k_) (L_ cA)) (N_ nl (L_ za) (L_ cf)))))) (N_ o45 (N_ o57 (N_ o76 (N_ tw Yt (N_ nD (L_ fJ) (L_ ZL))) (N_ sM (N_ za (L_ jh) (L_ za)) (N_ ze (L_ fk) (L_ za)))) (N_ o95 (N_ qk SQ (N_ jy (L_ za) (L_ ze))) (N_ ze (N_ pF (L_ ze) (L_ cC)) (N_ lf (L_ kP) (L_ ci))))) (N_ za (N_ o84 (N_ sU SO (N_ lv (L_ c8) (L_ za))) (N_ za qD (N_ qY (L_ fg) (L_ Zv)))) (N_ vV (N_ sP (N_ pP (L_ jm) (L_ cM)) (N_ za (L_ ze) (L_ ZC))) (N_ uW (N_ za (L_ kY) (L_ za)) (N_ nj (L_ za) (L_ cc)))))))) (N_ W.boot_o_2 (N_ W.boot_o_4 (N_ W.boot_o_8 (N_ ze (N_ o68 (N_ tz SN (N_ pq (L_ kX) (L_ cx))) (N_ ze (N_ pO (L_ ze) (L_ cL)) (N_ za (L_ c5) (L_ ZB)))) (N_ zn (N_ u_ SM (N_ zn (L_ fE) (L_ za))) (N_ za (N_ nH (L_ za) (L_ ZO)) (N_ z_ (L_ ze) (L_ za))))) (N_ o60 (N_ o79 (N_ zn SL (N_ za (L_ zn) (L_ cr))) (N_ sL (N_ za (L_ jg) (L_ za)) (N_ ln (L_ z_) (L_ Zw)))) (N_ o98 (N_ sR SK (N_ nC (L_ za) (L_ WV))) (N_ sI (N_ pE (L_ fL) (L_ cB)) (N_ ze (L_ kO) (L_ ze)))))) (N_ Ry (N_ o56 (N_ zn (N_ ui SJ (N_ za (L_ kS) (L_ za))) (N_ sN (N_ pM (L_ ji) (L_ cJ)) (N_ za (L_ fm) (L_ Zz)))) (N_ o94 (N_ zn SI (N_ jz (L_ fC) (L_ za))) (N_ za qD (N_ lh (L_ kQ) (L_ Zu))))) (N_ o64 (N_ o83 (N_ tm Yt (N_ q_ (L_ fF) (L_ ZJ))) (N_ u5 (N_ za (L_ je) (L_ za)) (N_ qZ (L_ fh) (L_ za)))) (N_ zn (N_ u7 (N_ pQ (L_ jn) (L_ cN)) (N_ nA (L_ za) (L_ ze))) (N_ ze (N_ pC (L_ ze) (L_ cz)) (N_ nk (L_ kM) (L_ ce))))))) (N_ W.boot_o_6 (N_ W.boot_o_10 (N_ za (N_ o70 (N_ za SH (N_ ze (L_ kU) (L_ ze))) (N_ za (N_ nJ (L_ za) (L_ ZQ)) (N_ nv (L_ ft) (L_ za)))) (N_ za (N_ sS SG (N_ za (L_ c7) (L_ ZH))) (N_ u3 (N_ pG (L_ jc) (L_ cD)) (N_ lj (L_ za) (L_ cj))))) (N_ ze (N_ za (N_ za SF (N_ cP (L_ za) (L_ cp))) (N_ sK (N_ pK (L_ fN) (L_ cH)) (N_ q9 (L_ fj) (L_ ze)))) (N_ vI (N_ za (N_ za (L_ jo) (L_ za)) (N_ lq (L_ fA) (L_ ZD))) (N_ uX (N_ za (L_ kZ) (L_ za)) (N_ za (L_ fc) (L_ za)))))) (N_ o46 (N_ o58 (N_ za (N_ tu SE (N_ ph (L_ fI) (L_ cv))) (N_ za qD (N_ nt (L_ cZ) (L_ WT)))) (N_ za (N_ za SD (N_ za (L_ ze) (L_ ZF))) (N_ uZ (N_ za (L_ ja) (L_ za)) (N_ ld (L_ za) (L_ cg))))) (N_ o66 (N_ o85 (N_ za SC (N_ lu (L_ za) (L_ ze))) (N_ ze (N_ pI (L_ ze) (L_ cF)) (N_ nq (L_ ff) (L_ cm)))) (N_ za (N_ sO (N_ za (L_ jl) (L_ za)) (N_ ze (L_ fv) (L_ za))) (N_ za (N_ nE (L_ za) (L_ ZM)) Ys))))))
def xX:(@List @Stmt):=[My.top 26,My.top 27,My.top 28,My.top 29,My.top 30,My.top 31,My.top 32,My.top 33,My.top 34,My.top 35,My.top 36,My.top 37,My.top 38,My.top 39]
def jP:=N_ W.boot_o_0 (N_ W.boot_o_1 (N_ RC (N_ W.boot_o_7 (N_ za (N_ u9 (N_ ze (N_ pY (L_ ze) (L_ g9)) (N_ pr (L_ fK) (L_ cy))) (N_ za qD (N_ nw (L_ za) Z_))) (N_ zD Y10 (N_ u4 (N_ za (L_ jd) (L_ za)) (N_ nn (L_ za) Z_)))) (N_ zn (N_ ze (N_ zD (N_ qe (L_ mX) (L_ za)) (N_ pf (L_ z_) (L_ cu))) (N_ ze (N_ pL (L_ ze) (L_ cI)) (N_ za (L_ cY) Z_))) (N_ o97 (N_ ze (N_ za (L_ fP) (L_ z_)) (N_ ze (L_ fB) Z_)) (N_ za (N_ nG (L_ za) (L_ ZN)) yR)))) (N_ za (N_ o55 (N_ zD (N_ uj (N_ ze (L_ mZ) (L_ g7)) (N_ pj (L_ kT) (L_ cw))) (N_ qi (N_ pN (L_ fO) (L_ cK)) (N_ nu (L_ fq) Z_))) (N_ ze Y11 (N_ u0 (N_ za (L_ jb) (L_ za)) (N_ za (L_ fe) Z_)))) (N_ o63 (N_ o82 (N_ ze (N_ qc (L_ mW) (L_ za)) (N_ pd (L_ fG) (L_ ZK))) (N_ u6 (N_ pJ (L_ jf) (L_ cG)) (N_ q8 (L_ za) Z_))) (N_ zD (N_ u8 (N_ pR (L_ za) (L_ cO)) (N_ nB (L_ fw) Z_)) (N_ za qD (N_ m_ (L_ kN) Z_)))))) (N_ W.boot_o_5 (N_ W.boot_o_9 (N_ o53 (N_ o69 (N_ tx (N_ qg (L_ za) (L_ cX)) (N_ za (L_ kW) (L_ za))) (N_ qj (N_ za (L_ jk) (L_ za)) (N_ lp (L_ fu) Z_))) (N_ o91 Y12 (N_ sJ (N_ pH (L_ fM) (L_ cE)) (N_ zn (L_ kR) Z_)))) (N_ za (N_ o80 (N_ tq (N_ za (L_ jw) (L_ gZ)) (N_ pe (L_ fH) (L_ cq))) (N_ za (N_ nI (L_ za) (L_ ZP)) (N_ nr (L_ zn) Z_))) (N_ o99 (N_ sQ (N_ nK (L_ zn) (L_ ZR)) (N_ za (L_ c6) Z_)) (N_ uY (N_ pD (L_ k_) (L_ cA)) (N_ nl (L_ za) Z_))))) (N_ o45 (N_ o57 (N_ o76 (N_ tw eU (N_ nD (L_ fJ) (L_ ZL))) (N_ sM (N_ za (L_ jh) (L_ za)) (N_ ze (L_ fk) Z_))) (N_ o95 Y13 (N_ ze (N_ pF (L_ ze) (L_ cC)) (N_ lf (L_ kP) Z_)))) (N_ za (N_ o84 Y14 (N_ za qD (N_ qY (L_ fg) Z_))) (N_ vV (N_ sP (N_ pP (L_ jm) (L_ cM)) yR) (N_ uW (N_ za (L_ kY) (L_ za)) (N_ nj (L_ za) Z_))))))) (N_ W.boot_o_2 (N_ W.boot_o_4 (N_ W.boot_o_8 (N_ ze (N_ o68 (N_ tz (N_ qh (L_ m9) (L_ za)) (N_ pq (L_ kX) (L_ cx))) (N_ ze (N_ pO (L_ ze) (L_ cL)) (N_ za (L_ c5) Z_))) (N_ zn Y15 (N_ za (N_ nH (L_ za) (L_ ZO)) Yr))) (N_ o60 (N_ o79 (N_ zn (N_ qd (L_ za) (L_ cW)) (N_ za (L_ zn) (L_ cr))) (N_ sL (N_ za (L_ jg) (L_ za)) (N_ ln (L_ z_) Z_))) (N_ o98 (N_ sR (N_ zn (L_ z_) (L_ zn)) (N_ nC (L_ za) Z_)) (N_ sI (N_ pE (L_ fL) (L_ cB)) (N_ ze (L_ kO) Z_))))) (N_ RB (N_ o56 (N_ zn (N_ ui (N_ qf (L_ mY) (L_ za)) (N_ za (L_ kS) (L_ za))) (N_ sN (N_ pM (L_ ji) (L_ cJ)) (N_ za (L_ fm) Z_))) (N_ o94 Y16 (N_ za qD (N_ lh (L_ kQ) Z_)))) (N_ o64 (N_ o83 (N_ tm eU (N_ q_ (L_ fF) (L_ ZJ))) (N_ u5 (N_ za (L_ je) (L_ za)) (N_ qZ (L_ fh) Z_))) (N_ zn (N_ u7 (N_ pQ (L_ jn) (L_ cN)) (N_ nA (L_ za) Z_)) (N_ ze (N_ pC (L_ ze) (L_ cz)) (N_ nk (L_ kM) Z_)))))) (N_ W.boot_o_6 (N_ W.boot_o_10 (N_ za (N_ o70 (N_ za (N_ za (L_ jx) (L_ g8)) (N_ ze (L_ kU) (L_ ze))) (N_ za (N_ nJ (L_ za) (L_ ZQ)) (N_ nv (L_ ft) Z_))) (N_ za Y17 (N_ u3 (N_ pG (L_ jc) (L_ cD)) (N_ lj (L_ za) Z_)))) (N_ ze (N_ za (N_ za (N_ ze (L_ ni) (L_ gY)) (N_ cP (L_ za) (L_ cp))) (N_ sK (N_ pK (L_ fN) (L_ cH)) (N_ q9 (L_ fj) Z_))) (N_ vI (N_ za (N_ za (L_ jo) (L_ za)) (N_ lq (L_ fA) Z_)) (N_ uX (N_ za (L_ kZ) (L_ za)) (N_ za (L_ fc) Z_))))) (N_ o46 (N_ o58 (N_ za (N_ tu (N_ pX (L_ ze) (L_ g6)) (N_ ph (L_ fI) (L_ cv))) (N_ za qD (N_ nt (L_ cZ) Z_))) (N_ za Y18 (N_ uZ (N_ za (L_ ja) (L_ za)) (N_ ld (L_ za) Z_)))) (N_ o66 (N_ o85 Y19 (N_ ze (N_ pI (L_ ze) (L_ cF)) (N_ nq (L_ ff) Z_))) (N_ za (N_ sO (N_ za (L_ jl) (L_ za)) (N_ ze (L_ fv) Z_)) (N_ za (N_ nE (L_ za) (L_ ZM)) yR))))))
def vo:(@List @Stmt):=[My.top 25]
def jQ:=N_ W.boot_o_0 (N_ W.boot_o_1 (N_ RF (N_ W.boot_o_7 (N_ za (N_ u9 (N_ ze (N_ pY (L_ ze) (L_ g9)) (N_ pr (L_ fK) Z_)) Y20) (N_ zD Y10 (N_ u4 (N_ za (L_ jd) Z_) (N_ nn (L_ za) Z_)))) (N_ zn (N_ ze (N_ zD (N_ qe (L_ mX) (L_ za)) (N_ pf (L_ z_) Z_)) Y21) (N_ o97 Y22 (N_ za (N_ nG (L_ za) Z_) yR)))) (N_ za (N_ o55 (N_ zD (N_ uj (N_ ze (L_ mZ) (L_ g7)) (N_ pj (L_ kT) Z_)) Y23) (N_ ze Y11 (N_ u0 (N_ za (L_ jb) Z_) (N_ za (L_ fe) Z_)))) (N_ o63 (N_ o82 (N_ ze (N_ qc (L_ mW) (L_ za)) (N_ pd (L_ fG) Z_)) (N_ u6 (N_ pJ (L_ jf) Z_) (N_ q8 (L_ za) Z_))) (N_ zD Y24 (N_ za tT (N_ m_ (L_ kN) Z_)))))) (N_ W.boot_o_5 (N_ W.boot_o_9 (N_ o53 (N_ o69 (N_ tx (N_ qg (L_ za) (L_ cX)) (N_ za (L_ kW) Z_)) Y25) (N_ o91 Y12 (N_ sJ (N_ pH (L_ fM) Z_) (N_ zn (L_ kR) Z_)))) (N_ za (N_ o80 (N_ tq (N_ za (L_ jw) (L_ gZ)) (N_ pe (L_ fH) Z_)) (N_ za (N_ nI (L_ za) Z_) (N_ nr (L_ zn) Z_))) (N_ o99 Y26 (N_ uY (N_ pD (L_ k_) Z_) (N_ nl (L_ za) Z_))))) (N_ o45 (N_ o57 (N_ o76 (N_ tw eU (N_ nD (L_ fJ) Z_)) Y27) (N_ o95 Y13 (N_ ze (N_ pF (L_ ze) Z_) (N_ lf (L_ kP) Z_)))) (N_ za (N_ o84 Y14 (N_ za tT (N_ qY (L_ fg) Z_))) (N_ vV Y28 (N_ uW (N_ za (L_ kY) Z_) (N_ nj (L_ za) Z_))))))) (N_ W.boot_o_2 (N_ W.boot_o_4 (N_ W.boot_o_8 (N_ ze (N_ o68 (N_ tz (N_ qh (L_ m9) (L_ za)) (N_ pq (L_ kX) Z_)) Y29) (N_ zn Y15 (N_ za (N_ nH (L_ za) Z_) Yr))) (N_ o60 (N_ o79 (N_ zn (N_ qd (L_ za) (L_ cW)) (N_ za (L_ zn) Z_)) (N_ sL (N_ za (L_ jg) Z_) (N_ ln (L_ z_) Z_))) (N_ o98 Y30 (N_ sI (N_ pE (L_ fL) Z_) (N_ ze (L_ kO) Z_))))) (N_ RE (N_ o56 (N_ zn (N_ ui (N_ qf (L_ mY) (L_ za)) (N_ za (L_ kS) Z_)) Y31) (N_ o94 Y16 (N_ za tT (N_ lh (L_ kQ) Z_)))) (N_ o64 (N_ o83 (N_ tm eU (N_ q_ (L_ fF) Z_)) (N_ u5 (N_ za (L_ je) Z_) (N_ qZ (L_ fh) Z_))) (N_ zn Y32 (N_ ze (N_ pC (L_ ze) Z_) (N_ nk (L_ kM) Z_)))))) (N_ W.boot_o_6 (N_ W.boot_o_10 (N_ za (N_ o70 (N_ za (N_ za (L_ jx) (L_ g8)) (N_ ze (L_ kU) Z_)) Y33) (N_ za Y17 (N_ u3 (N_ pG (L_ jc) Z_) (N_ lj (L_ za) Z_)))) (N_ ze (N_ za (N_ za (N_ ze (L_ ni) (L_ gY)) (N_ RD (L_ za) Z_)) (N_ sK (N_ pK (L_ fN) Z_) (N_ q9 (L_ fj) Z_))) (N_ vI Y34 (N_ uX (N_ za (L_ kZ) Z_) (N_ za (L_ fc) Z_))))) (N_ o46 (N_ o58 (N_ za (N_ tu (N_ pX (L_ ze) (L_ g6)) (N_ ph (L_ fI) Z_)) Y35) (N_ za Y18 (N_ uZ (N_ za (L_ ja) Z_) (N_ ld (L_ za) Z_)))) (N_ o66 (N_ o85 Y19 (N_ ze (N_ pI (L_ ze) Z_) (N_ nq (L_ ff) Z_))) (N_ za Y36 (N_ za (N_ nE (L_ za) Z_) yR))))))
def xY:(@List @Stmt):=[My.top 24]
def jR:=N_ W.boot_o_0 (N_ W.boot_o_1 (N_ RI (N_ W.boot_o_7 (N_ za (N_ u9 Y37 Y20) (N_ zD (N_ tj (N_ pV (L_ za) Z_) Yr) SB)) (N_ zn (N_ ze (N_ zD (N_ qe (L_ mX) Z_) (N_ pf (L_ z_) Z_)) Y21) (N_ o97 Y22 SA))) (N_ za (N_ o55 (N_ zD Y38 Y23) (N_ ze (N_ zD (N_ za (L_ jr) Z_) (N_ jA (L_ fD) Z_)) Sz)) (N_ o63 (N_ o82 (N_ ze (N_ qc (L_ mW) Z_) (N_ pd (L_ fG) Z_)) Sy) (N_ zD Y24 Sx)))) (N_ W.boot_o_5 (N_ W.boot_o_9 (N_ o53 (N_ o69 Y39 Y25) (N_ o91 (N_ sT (N_ ze (L_ ju) Z_) (N_ jB (L_ za) Z_)) Sw)) (N_ za (N_ o80 (N_ tq (N_ za (L_ jw) Z_) (N_ pe (L_ fH) Z_)) Sv) (N_ o99 Y26 Su))) (N_ o45 (N_ o57 (N_ o76 Y40 Y27) (N_ o95 (N_ qk (N_ pT (L_ jp) Z_) (N_ jy (L_ za) Z_)) Ss)) (N_ za (N_ o84 (N_ sU (N_ nM (L_ ze) Z_) (N_ lv (L_ c8) Z_)) Sr) (N_ vV Y28 Sq))))) (N_ W.boot_o_2 (N_ W.boot_o_4 (N_ W.boot_o_8 (N_ ze (N_ o68 Y41 Y29) (N_ zn (N_ u_ (N_ za (L_ fR) Z_) (N_ zn (L_ fE) Z_)) So)) (N_ o60 (N_ o79 (N_ zn (N_ qd (L_ za) Z_) (N_ za (L_ zn) Z_)) Sn) (N_ o98 Y30 Sm))) (N_ RH (N_ o56 (N_ zn Y42 Y31) (N_ o94 (N_ zn (N_ nL (L_ jq) Z_) (N_ jz (L_ fC) Z_)) Sk)) (N_ o64 (N_ o83 (N_ tm xi (N_ q_ (L_ fF) Z_)) Sj) (N_ zn Y32 Si)))) (N_ W.boot_o_6 (N_ W.boot_o_10 (N_ za (N_ o70 Y43 Y33) (N_ za (N_ sS (N_ pU (L_ jt) Z_) (N_ za (L_ c7) Z_)) Sh)) (N_ ze (N_ za (N_ za (N_ ze (L_ ni) Z_) (N_ RG (L_ za) Z_)) Sg) (N_ vI Y34 Sf))) (N_ o46 (N_ o58 (N_ za Y44 Y35) (N_ za (N_ za (N_ pS (L_ fQ) Z_) yR) Se)) (N_ o66 (N_ o85 (N_ za (N_ pW (L_ jv) Z_) (N_ lu (L_ za) Z_)) Sd) (N_ za Y36 Sc)))))
def vp:(@List @Stmt):=[My.top 23]
def jS:=N_ W.boot_o_0 (N_ W.boot_o_1 (N_ RL (N_ W.boot_o_7 (N_ za (N_ u9 Y37 (N_ za tT (L_ nw))) (N_ zD Sb SB)) (N_ zn (N_ ze Sa (N_ ze (N_ pL (L_ ze) Z_) (L_ za))) (N_ o97 T_ SA))) (N_ za (N_ o55 (N_ zD Y38 (N_ qi (N_ pN (L_ fO) Z_) (L_ nu))) (N_ ze T9 Sz)) (N_ o63 (N_ o82 T8 Sy) (N_ zD (N_ u8 (N_ pR (L_ za) Z_) (L_ nB)) Sx)))) (N_ W.boot_o_5 (N_ W.boot_o_9 (N_ o53 (N_ o69 Y39 (N_ qj (N_ za (L_ jk) Z_) (L_ lp))) (N_ o91 T7 Sw)) (N_ za (N_ o80 T6 Sv) (N_ o99 (N_ sQ (N_ nK (L_ zn) Z_) (L_ za)) Su))) (N_ o45 (N_ o57 (N_ o76 Y40 (N_ sM (N_ za (L_ jh) Z_) (L_ ze))) (N_ o95 T5 Ss)) (N_ za (N_ o84 T4 Sr) (N_ vV (N_ sP (N_ pP (L_ jm) Z_) (L_ za)) Sq))))) (N_ W.boot_o_2 (N_ W.boot_o_4 (N_ W.boot_o_8 (N_ ze (N_ o68 Y41 (N_ ze (N_ pO (L_ ze) Z_) (L_ za))) (N_ zn T3 So)) (N_ o60 (N_ o79 T0 Sn) (N_ o98 (N_ sR (N_ zn (L_ z_) Z_) (L_ nC)) Sm))) (N_ RK (N_ o56 (N_ zn Y42 (N_ sN (N_ pM (L_ ji) Z_) (L_ za))) (N_ o94 TZ Sk)) (N_ o64 (N_ o83 TY Sj) (N_ zn (N_ u7 (N_ pQ (L_ jn) Z_) (L_ nA)) Si)))) (N_ W.boot_o_6 (N_ W.boot_o_10 (N_ za (N_ o70 Y43 (N_ za (N_ nJ (L_ za) Z_) (L_ nv))) (N_ za TX Sh)) (N_ ze (N_ za (N_ za (N_ ze (L_ ni) Z_) (L_ RJ)) Sg) (N_ vI (N_ za (N_ za (L_ jo) Z_) (L_ lq)) Sf))) (N_ o46 (N_ o58 (N_ za Y44 (N_ za tT (L_ nt))) (N_ za TW Se)) (N_ o66 (N_ o85 TV Sd) (N_ za (N_ sO (N_ za (L_ jl) Z_) (L_ ze)) Sc)))))
def vq:(@List @Stmt):=[My.top 22]
def jT:=N_ W.boot_o_0 (N_ W.boot_o_1 (N_ RO (N_ W.boot_o_7 (N_ za (N_ u9 (N_ ze (N_ pY (L_ ze) Z_) (L_ pr)) (N_ za (L_ ze) (L_ nw))) (N_ zD Sb (N_ u4 (L_ za) (L_ nn)))) (N_ zn (N_ ze Sa (N_ ze (L_ pL) (L_ za))) (N_ o97 T_ (N_ za (L_ nG) (L_ za))))) (N_ za (N_ o55 (N_ zD (N_ uj (N_ ze (L_ mZ) Z_) (L_ pj)) (N_ qi (L_ pN) (L_ nu))) (N_ ze T9 (N_ u0 (L_ za) (L_ za)))) (N_ o63 (N_ o82 T8 (N_ u6 (L_ pJ) (L_ q8))) (N_ zD (N_ u8 (L_ pR) (L_ nB)) (N_ za (L_ ze) (L_ m_)))))) (N_ W.boot_o_5 (N_ W.boot_o_9 (N_ o53 (N_ o69 (N_ tx (N_ qg (L_ za) Z_) (L_ za)) (N_ qj (L_ za) (L_ lp))) (N_ o91 T7 (N_ sJ (L_ pH) (L_ zn)))) (N_ za (N_ o80 T6 (N_ za (L_ nI) (L_ nr))) (N_ o99 (N_ sQ (L_ nK) (L_ za)) (N_ uY (L_ pD) (L_ nl))))) (N_ o45 (N_ o57 (N_ o76 (N_ tw xi (L_ nD)) (N_ sM (L_ za) (L_ ze))) (N_ o95 T5 (N_ ze (L_ pF) (L_ lf)))) (N_ za (N_ o84 T4 (N_ za (L_ ze) (L_ qY))) (N_ vV (N_ sP (L_ pP) (L_ za)) (N_ uW (L_ za) (L_ nj))))))) (N_ W.boot_o_2 (N_ W.boot_o_4 (N_ W.boot_o_8 (N_ ze (N_ o68 (N_ tz (N_ qh (L_ m9) Z_) (L_ pq)) (N_ ze (L_ pO) (L_ za))) (N_ zn T3 (N_ za (L_ nH) (L_ z_)))) (N_ o60 (N_ o79 T0 (N_ sL (L_ za) (L_ ln))) (N_ o98 (N_ sR (L_ zn) (L_ nC)) (N_ sI (L_ pE) (L_ ze))))) (N_ RN (N_ o56 (N_ zn (N_ ui (N_ qf (L_ mY) Z_) (L_ za)) (N_ sN (L_ pM) (L_ za))) (N_ o94 TZ (N_ za (L_ ze) (L_ lh)))) (N_ o64 (N_ o83 TY (N_ u5 (L_ za) (L_ qZ))) (N_ zn (N_ u7 (L_ pQ) (L_ nA)) (N_ ze (L_ pC) (L_ nk)))))) (N_ W.boot_o_6 (N_ W.boot_o_10 (N_ za (N_ o70 (N_ za (N_ za (L_ jx) Z_) (L_ ze)) (N_ za (L_ nJ) (L_ nv))) (N_ za TX (N_ u3 (L_ pG) (L_ lj)))) (N_ ze (N_ za (N_ za (N_ ze (L_ ni) Z_) (L_ RM)) (N_ sK (L_ pK) (L_ q9))) (N_ vI (N_ za (L_ za) (L_ lq)) (N_ uX (L_ za) (L_ za))))) (N_ o46 (N_ o58 (N_ za (N_ tu (N_ pX (L_ ze) Z_) (L_ ph)) (N_ za (L_ ze) (L_ nt))) (N_ za TW (N_ uZ (L_ za) (L_ ld)))) (N_ o66 (N_ o85 TV (N_ ze (L_ pI) (L_ nq))) (N_ za (N_ sO (L_ za) (L_ ze)) (N_ za (L_ nE) (L_ za)))))))
def tJ:(@List @Stmt):=[My.top 21]
def jU:=N_ W.boot_o_0 (N_ W.boot_o_1 (N_ RS (N_ W.boot_o_7 (N_ za (N_ u9 (N_ ze (L_ pY) (L_ pr)) (N_ za (L_ ze) (L_ nw))) (N_ zD (N_ tj (L_ pV) (L_ z_)) (N_ u4 (L_ za) (L_ nn)))) (N_ zn (N_ ze (N_ zD (L_ qe) (L_ pf)) (N_ ze (L_ pL) (L_ za))) (N_ o97 qD (N_ za (L_ nG) Z_)))) (N_ za (N_ o55 (N_ zD (N_ uj (L_ ze) (L_ pj)) (N_ qi (L_ pN) (L_ nu))) (N_ ze (N_ zD (L_ za) (L_ jA)) (N_ u0 (L_ za) Z_))) (N_ o63 (N_ o82 (N_ ze (L_ qc) (L_ pd)) (N_ u6 (L_ pJ) (L_ q8))) (N_ zD (N_ u8 (L_ pR) (L_ nB)) yR)))) (N_ W.boot_o_5 (N_ W.boot_o_9 (N_ o53 (N_ o69 (N_ tx (L_ qg) (L_ za)) (N_ qj (L_ za) (L_ lp))) (N_ o91 (N_ sT (L_ ze) (L_ jB)) (N_ sJ (L_ pH) Z_))) (N_ za (N_ o80 (N_ tq (L_ za) (L_ pe)) (N_ za (L_ nI) (L_ nr))) (N_ o99 (N_ sQ (L_ nK) (L_ za)) (N_ uY (L_ pD) Z_)))) (N_ o45 (N_ o57 (N_ o76 (N_ tw (L_ za) (L_ nD)) (N_ sM (L_ za) (L_ ze))) (N_ o95 (N_ qk (L_ pT) (L_ jy)) (N_ ze (L_ pF) Z_))) (N_ za (N_ o84 (N_ sU (L_ nM) (L_ lv)) (N_ za (L_ ze) (L_ qY))) (N_ vV (N_ sP (L_ pP) (L_ za)) (N_ uW (L_ za) Z_)))))) (N_ W.boot_o_2 (N_ W.boot_o_4 (N_ W.boot_o_8 (N_ ze (N_ o68 (N_ tz (L_ qh) (L_ pq)) (N_ ze (L_ pO) (L_ za))) (N_ zn (N_ u_ (L_ za) (L_ zn)) (N_ za (L_ nH) Z_))) (N_ o60 (N_ o79 (N_ zn (L_ qd) (L_ za)) (N_ sL (L_ za) (L_ ln))) (N_ o98 (N_ sR (L_ zn) (L_ nC)) (N_ sI (L_ pE) Z_)))) (N_ RQ (N_ o56 (N_ zn (N_ ui (L_ qf) (L_ za)) (N_ sN (L_ pM) (L_ za))) (N_ o94 (N_ zn (L_ nL) (L_ jz)) yR)) (N_ o64 (N_ o83 (N_ tm (L_ za) (L_ q_)) (N_ u5 (L_ za) (L_ qZ))) (N_ zn (N_ u7 (L_ pQ) (L_ nA)) (N_ ze (L_ pC) Z_))))) (N_ W.boot_o_6 (N_ W.boot_o_10 (N_ za (N_ o70 eU (N_ za (L_ nJ) (L_ nv))) (N_ za (N_ sS (L_ pU) (L_ za)) (N_ u3 (L_ pG) Z_))) (N_ ze (N_ za (N_ za (L_ ze) (L_ RP)) (N_ sK (L_ pK) (L_ q9))) (N_ vI (N_ za (L_ za) (L_ lq)) (N_ uX (L_ za) Z_)))) (N_ o46 (N_ o58 (N_ za (N_ tu (L_ pX) (L_ ph)) (N_ za (L_ ze) (L_ nt))) (N_ za (N_ za (L_ pS) (L_ za)) (N_ uZ (L_ za) Z_))) (N_ o66 (N_ o85 (N_ za (L_ pW) (L_ lu)) (N_ ze (L_ pI) (L_ nq))) (N_ za (N_ sO (L_ za) (L_ ze)) (N_ za (L_ nE) Z_))))))
def xZ:(@List @Stmt):=[My.top 20]
def jV:=N_ W.boot_o_0 (N_ W.boot_o_1 (N_ RV (N_ W.boot_o_7 (N_ za (N_ u9 (N_ ze (L_ pY) (L_ pr)) yR) (N_ zD (N_ tj (L_ pV) Z_) (N_ u4 (L_ za) Z_))) (N_ zn (N_ ze (N_ zD (L_ qe) (L_ pf)) (N_ ze (L_ pL) Z_)) (N_ o97 tT (N_ za (L_ nG) Z_)))) (N_ za (N_ o55 (N_ zD (N_ uj (L_ ze) (L_ pj)) (N_ qi (L_ pN) Z_)) (N_ ze (N_ zD (L_ za) Z_) (N_ u0 (L_ za) Z_))) (N_ o63 (N_ o82 (N_ ze (L_ qc) (L_ pd)) (N_ u6 (L_ pJ) Z_)) (N_ zD (N_ u8 (L_ pR) Z_) yR)))) (N_ W.boot_o_5 (N_ W.boot_o_9 (N_ o53 (N_ o69 (N_ tx (L_ qg) (L_ za)) (N_ qj (L_ za) Z_)) (N_ o91 (N_ sT (L_ ze) Z_) (N_ sJ (L_ pH) Z_))) (N_ za (N_ o80 (N_ tq (L_ za) (L_ pe)) (N_ za (L_ nI) Z_)) (N_ o99 (N_ sQ (L_ nK) Z_) (N_ uY (L_ pD) Z_)))) (N_ o45 (N_ o57 (N_ o76 (N_ tw (L_ za) (L_ nD)) (N_ sM (L_ za) Z_)) (N_ o95 (N_ qk (L_ pT) Z_) (N_ ze (L_ pF) Z_))) (N_ za (N_ o84 (N_ sU (L_ nM) (L_ lv)) yR) (N_ vV (N_ sP (L_ pP) Z_) (N_ uW (L_ za) Z_)))))) (N_ W.boot_o_2 (N_ W.boot_o_4 (N_ W.boot_o_8 (N_ ze (N_ o68 (N_ tz (L_ qh) (L_ pq)) (N_ ze (L_ pO) Z_)) (N_ zn (N_ u_ (L_ za) Z_) (N_ za (L_ nH) Z_))) (N_ o60 (N_ o79 (N_ zn (L_ qd) (L_ za)) (N_ sL (L_ za) Z_)) (N_ o98 (N_ sR (L_ zn) Z_) (N_ sI (L_ pE) Z_)))) (N_ RU (N_ o56 (N_ zn (N_ ui (L_ qf) (L_ za)) (N_ sN (L_ pM) Z_)) (N_ o94 (N_ zn (L_ nL) Z_) yR)) (N_ o64 (N_ o83 (N_ tm (L_ za) (L_ q_)) (N_ u5 (L_ za) Z_)) (N_ zn (N_ u7 (L_ pQ) Z_) (N_ ze (L_ pC) Z_))))) (N_ W.boot_o_6 (N_ W.boot_o_10 (N_ za (N_ o70 eU (N_ za (L_ nJ) Z_)) (N_ za (N_ sS (L_ pU) Z_) (N_ u3 (L_ pG) Z_))) (N_ ze (N_ za (N_ za (L_ ze) (L_ RT)) (N_ sK (L_ pK) Z_)) (N_ vI xi (N_ uX (L_ za) Z_)))) (N_ o46 (N_ o58 (N_ za (N_ tu (L_ pX) (L_ ph)) yR) (N_ za (N_ za (L_ pS) Z_) (N_ uZ (L_ za) Z_))) (N_ o66 (N_ o85 (N_ za (L_ pW) (L_ lu)) (N_ ze (L_ pI) Z_)) (N_ za (N_ sO (L_ za) Z_) (N_ za (L_ nE) Z_))))))
def vt:(@List @Stmt):=[My.top 19]
def jW:=N_ W.boot_o_0 (N_ W.boot_o_1 (N_ RX (N_ W.boot_o_7 (N_ za TU (N_ zD (N_ tj (L_ pV) Z_) (L_ u4))) (N_ zn (N_ ze (N_ zD (L_ qe) Z_) (L_ ze)) (N_ o97 (L_ ze) (L_ za)))) (N_ za (N_ o55 (N_ zD (N_ uj (L_ ze) Z_) (L_ qi)) (N_ ze (N_ zD (L_ za) Z_) (L_ u0))) (N_ o63 (N_ o82 (N_ ze (L_ qc) Z_) (L_ u6)) (N_ zD (L_ u8) (L_ za))))) (N_ W.boot_o_5 (N_ W.boot_o_9 (N_ o53 TR (N_ o91 (N_ sT (L_ ze) Z_) (L_ sJ))) (N_ za (N_ o80 (N_ tq (L_ za) Z_) (L_ za)) (N_ o99 (L_ sQ) (L_ uY)))) (N_ o45 (N_ o57 (N_ o76 (N_ tw (L_ za) Z_) (L_ sM)) (N_ o95 (N_ qk (L_ pT) Z_) (L_ ze))) (N_ za (N_ o84 (N_ sU (L_ nM) Z_) (L_ za)) (N_ vV (L_ sP) (L_ uW)))))) (N_ W.boot_o_2 (N_ W.boot_o_4 (N_ W.boot_o_8 (N_ ze TQ (N_ zn (N_ u_ (L_ za) Z_) (L_ za))) (N_ o60 (N_ o79 (N_ zn (L_ qd) Z_) (L_ sL)) (N_ o98 (L_ sR) (L_ sI)))) (N_ RW (N_ o56 (N_ zn (N_ ui (L_ qf) Z_) (L_ sN)) (N_ o94 (N_ zn (L_ nL) Z_) (L_ za))) (N_ o64 (N_ o83 (N_ tm (L_ za) Z_) (L_ u5)) (N_ zn (L_ u7) (L_ ze))))) (N_ W.boot_o_6 (N_ W.boot_o_10 (N_ za (N_ o70 xi (L_ za)) (N_ za (N_ sS (L_ pU) Z_) (L_ u3))) (N_ ze (N_ za yR (L_ sK)) (N_ vI (L_ za) (L_ uX)))) (N_ o46 (N_ o58 (N_ za (N_ tu (L_ pX) Z_) (L_ za)) (N_ za (N_ za (L_ pS) Z_) (L_ uZ))) (N_ o66 (N_ o85 (N_ za (L_ pW) Z_) (L_ ze)) (N_ za (L_ sO) (L_ za))))))
def vv:(@List @Stmt):=[My.top 15,My.top 16,My.top 17,My.top 18]
def jX:=N_ W.boot_o_0 (N_ W.boot_o_1 (N_ RZ (N_ W.boot_o_7 (N_ za TU (N_ zD (L_ tj) (L_ u4))) (N_ zn (N_ ze (L_ zD) (L_ ze)) (N_ o97 (L_ ze) (L_ za)))) (N_ za (N_ o55 (N_ zD (L_ uj) (L_ qi)) (N_ ze (L_ zD) (L_ u0))) (N_ o63 (N_ o82 (L_ ze) (L_ u6)) (N_ zD (L_ u8) (L_ za))))) (N_ W.boot_o_5 (N_ W.boot_o_9 (N_ o53 TR (N_ o91 (L_ sT) (L_ sJ))) (N_ za (N_ o80 (L_ tq) (L_ za)) (N_ o99 (L_ sQ) (L_ uY)))) (N_ o45 (N_ o57 (N_ o76 (L_ tw) (L_ sM)) (N_ o95 (L_ qk) (L_ ze))) (N_ za (N_ o84 (L_ sU) (L_ za)) (N_ vV (L_ sP) (L_ uW)))))) (N_ W.boot_o_2 (N_ W.boot_o_4 (N_ W.boot_o_8 (N_ ze TQ (N_ zn (L_ u_) (L_ za))) (N_ o60 (N_ o79 (L_ zn) (L_ sL)) (N_ o98 (L_ sR) (L_ sI)))) (N_ RY (N_ o56 (N_ zn (L_ ui) (L_ sN)) (N_ o94 (L_ zn) (L_ za))) (N_ o64 (N_ o83 (L_ tm) (L_ u5)) (N_ zn (L_ u7) (L_ ze))))) (N_ W.boot_o_6 (N_ W.boot_o_10 (N_ za (N_ o70 (L_ za) (L_ za)) (N_ za (L_ sS) (L_ u3))) (N_ ze (N_ za (L_ za) (L_ sK)) (N_ vI (L_ za) (L_ uX)))) (N_ o46 (N_ o58 (N_ za (L_ tu) (L_ za)) (N_ za (L_ za) (L_ uZ))) (N_ o66 (N_ o85 (L_ za) (L_ ze)) (N_ za (L_ sO) (L_ za))))))
def tK:(@List @Stmt):=[My.top 7,My.top 8,My.top 9,My.top 10,My.top 11,My.top 12,My.top 13,My.top 14]
def jY:=N_ W.boot_o_0 (N_ W.boot_o_1 (N_ R3 (N_ W.boot_o_7 (N_ za (N_ R0 (L_ ze) Z_) (N_ zD (L_ tj) Z_)) (N_ zn (N_ ze (L_ zD) Z_) (L_ o97))) (N_ za TN (N_ o63 (N_ o82 (L_ ze) Z_) (L_ zD)))) (N_ W.boot_o_5 (N_ W.boot_o_9 (N_ o53 (N_ o69 (L_ tx) Z_) (N_ o91 (L_ sT) Z_)) (N_ za (N_ o80 (L_ tq) Z_) (L_ o99))) (N_ o45 TK (N_ za (N_ o84 (L_ sU) Z_) (L_ vV))))) (N_ W.boot_o_2 (N_ W.boot_o_4 (N_ W.boot_o_8 (N_ ze (N_ o68 (L_ tz) Z_) (N_ zn (L_ u_) Z_)) (N_ o60 (N_ o79 (L_ zn) Z_) (L_ o98))) (N_ R1 TL (N_ o64 (N_ o83 (L_ tm) Z_) (L_ zn)))) (N_ W.boot_o_6 (N_ W.boot_o_10 (N_ za (N_ o70 (L_ za) Z_) (N_ za (L_ sS) Z_)) (N_ ze xi (L_ vI))) (N_ o46 TM (N_ o66 (N_ o85 (L_ za) Z_) (L_ za)))))
def vw:(@List @Stmt):=[My.top 6]
def jZ:=N_ W.boot_o_0 (N_ W.boot_o_1 (N_ R6 (N_ W.boot_o_7 (N_ za (N_ R4 (L_ ze) Z_) (L_ zD)) (N_ zn (L_ ze) (L_ o97))) (N_ za TN (N_ o63 (L_ o82) (L_ zD)))) (N_ W.boot_o_5 (N_ W.boot_o_9 (N_ o53 (N_ o69 (L_ tx) Z_) (L_ o91)) (N_ za (L_ o80) (L_ o99))) (N_ o45 TK (N_ za (L_ o84) (L_ vV))))) (N_ W.boot_o_2 (N_ W.boot_o_4 (N_ W.boot_o_8 (N_ ze (N_ o68 (L_ tz) Z_) (L_ zn)) (N_ o60 (L_ o79) (L_ o98))) (N_ R5 TL (N_ o64 (L_ o83) (L_ zn)))) (N_ W.boot_o_6 (N_ W.boot_o_10 (N_ za (N_ o70 (L_ za) Z_) (L_ za)) (N_ ze (L_ za) (L_ vI))) (N_ o46 TM (N_ o66 (L_ o85) (L_ za)))))
def tL:(@List @Stmt):=[My.top 5]
def j0:=N_ W.boot_o_0 (N_ W.boot_o_1 (N_ o86 (N_ W.boot_o_7 (N_ za (L_ o88) (L_ zD)) (N_ zn (L_ ze) (L_ o97))) (N_ za (N_ o55 (L_ zD) (L_ ze)) (N_ o63 (L_ o82) Z_))) (N_ W.boot_o_5 (N_ W.boot_o_9 (N_ o53 (L_ o69) (L_ o91)) (N_ za (L_ o80) (L_ o99))) (N_ o45 (N_ o57 (L_ o76) (L_ o95)) (N_ za (L_ o84) Z_)))) (N_ W.boot_o_2 (N_ W.boot_o_4 (N_ W.boot_o_8 (N_ ze (L_ o68) (L_ zn)) (N_ o60 (L_ o79) (L_ o98))) (N_ o87 (N_ o56 (L_ zn) (L_ o94)) (N_ o64 (L_ o83) Z_))) (N_ W.boot_o_6 (N_ W.boot_o_10 (N_ za (L_ o70) (L_ za)) (N_ ze (L_ za) (L_ vI))) (N_ o46 (N_ o58 (L_ za) (L_ za)) (N_ o66 (L_ o85) Z_))))
def uo:(@List @Stmt):=[My.top 4]
def eE:=N_ W.boot_o_0 (N_ W.boot_o_1 (N_ o71 (N_ W.boot_o_7 (N_ za (L_ o73) Z_) (N_ zn (L_ ze) Z_)) (N_ za (N_ o55 (L_ zD) Z_) (N_ o63 (L_ o82) Z_))) (N_ W.boot_o_5 (N_ W.boot_o_9 (N_ o53 (L_ o69) Z_) (N_ za (L_ o80) Z_)) (N_ o45 (N_ o57 (L_ o76) Z_) (N_ za (L_ o84) Z_)))) (N_ W.boot_o_2 (N_ W.boot_o_4 (N_ W.boot_o_8 (N_ ze (L_ o68) Z_) (N_ o60 (L_ o79) Z_)) (N_ o72 (N_ o56 (L_ zn) Z_) (N_ o64 (L_ o83) Z_))) (N_ W.boot_o_6 (N_ W.boot_o_10 (N_ za (L_ o70) Z_) tT) (N_ o46 (N_ o58 (L_ za) Z_) (N_ o66 (L_ o85) Z_))))
def qr:(@List @Stmt):=[My.top 3]
def eG:=N_ W.boot_o_0 (N_ W.boot_o_1 (N_ o49 (N_ W.boot_o_7 (N_ za (L_ o67) Z_) (L_ zn)) (N_ za (L_ o55) (L_ o63))) (N_ W.boot_o_5 (N_ W.boot_o_9 (N_ o53 (L_ o69) Z_) (L_ za)) (N_ o45 (L_ o57) (L_ za)))) (N_ W.boot_o_2 (N_ W.boot_o_4 (N_ W.boot_o_8 (N_ ze (L_ o68) Z_) (L_ o60)) (N_ o50 (L_ o56) (L_ o64))) (N_ W.boot_o_6 (N_ W.boot_o_10 (N_ za (L_ o70) Z_) (L_ ze)) (N_ o46 (L_ o58) (L_ o66))))
def lG:(@List @Stmt):=[My.top 0,My.top 1,My.top 2]
def eI:=N_ W.boot_o_0 (N_ W.boot_o_1 (N_ W.boot_o_3 (L_ W.boot_o_7) (L_ za)) (N_ W.boot_o_5 (L_ W.boot_o_9) (L_ o45))) (N_ W.boot_o_2 (N_ W.boot_o_4 (L_ W.boot_o_8) (L_ ze)) (N_ W.boot_o_6 (L_ W.boot_o_10) (L_ o46)))
def eJ:((x:@Params)→@Heap):=(fun x=>(@Heap.mk (@Array.mk @Obj [(@W.boot_o_0 x),(@W.boot_o_1 x),(@W.boot_o_2 x),(@W.boot_o_3 x),(@W.boot_o_4 x),(@W.boot_o_5 x),(@W.boot_o_6 x),(@W.boot_o_7 x),(@W.boot_o_8 x),(@W.boot_o_9 x),(@W.boot_o_10 x),(za x),(ze x),(o45 x),(o46 x)]) (@Life.mk [] [] [] 0 (@List.nil (@Prod @Nat @Nat)) [] @Bool.false #[] [] 0 @Bool.false @Bool.false @Bool.false (0:Int) [(2000:Int),(10:Int),(10:Int)] @Bool.false 0 @Bool.true [] [] 0 @Bool.false)))
abbrev k0:=(@Life.mk [] [] [] 0 (@List.nil (@Prod @Nat @Nat)) [] @Bool.false #[] [] 0 @Bool.false @Bool.false @Bool.false (0:Int) [(2000:Int),(10:Int),(10:Int)] @Bool.false 0 @Bool.true [] [] 0 @Bool.false)
abbrev S_ (t:Params→W.BT) (n k:Nat) (w:World) (o:OsState):W.SharedT:=W.SharedT.mk (t w.params) n k0 g_ d_ k o
abbrev k1:=(@Code.body (@W.behindTheImports ((@W.OpenRow.toRowW (@W.OpenLaw.row @Challenge.rw_oddbases_k33_products))).1) @zu)
abbrev k2 (x0:World) (x1:OsState):=(@Shared.mk (@xw x0.params) g_ d_ 1071 x1)
abbrev k3:=(@HAppend.hAppend (@List @Stmt) (@List @Stmt) (@List @Stmt) (@instHAppendOfAppend (@List @Stmt) (@List.instAppend @Stmt)) @tJ (@HAppend.hAppend (@List @Stmt) (@List @Stmt) (@List @Stmt) (@instHAppendOfAppend (@List @Stmt) (@List.instAppend @Stmt)) @vq (@HAppend.hAppend (@List @Stmt) (@List @Stmt) (@List @Stmt) (@instHAppendOfAppend (@List @Stmt) (@List.instAppend @Stmt)) @vp (@HAppend.hAppend (@List @Stmt) (@List @Stmt) (@List @Stmt) (@instHAppendOfAppend (@List @Stmt) (@List.instAppend @Stmt)) @xY (@HAppend.hAppend (@List @Stmt) (@List @Stmt) (@List @Stmt) (@instHAppendOfAppend (@List @Stmt) (@List.instAppend @Stmt)) @vo (@HAppend.hAppend (@List @Stmt) (@List @Stmt) (@List @Stmt) (@instHAppendOfAppend (@List @Stmt) (@List.instAppend @Stmt)) @xX (@HAppend.hAppend (@List @Stmt) (@List @Stmt) (@List @Stmt) (@instHAppendOfAppend (@List @Stmt) (@List.instAppend @Stmt)) @xW (@HAppend.hAppend (@List @Stmt) (@List @Stmt) (@List @Stmt) (@instHAppendOfAppend (@List @Stmt) (@List.instAppend @Stmt)) @xk []))))))))
abbrev k4:=(@W.OpenRow.toRowW (@W.OpenLaw.row @Challenge.rw_oddbases_k33_products))
abbrev k5:=(@Prod (@Prod (@List (@Option @FnShape)) @Bool) (@Prod (@List (@Option @PyProof.Rows.PlainShape)) (@Prod (@List (@Option (@Prod @PyProof.Rows.PlainShape @Bool))) (@Prod (@Prod (@List (@Option @FnShape)) @Bool) (@List (@Prod (@Option (@Prod (@List (@Option @FnShape)) @Bool)) (@Option (@Prod @PyProof.Rows.PlainShape @Bool))))))))
abbrev k6:=(@Prod @Flow (@Prod @Shared (@Prod @Code @Pos)))
abbrev k7:=(@Prod @Flow (@Prod @W.SharedT (@Prod @Code @Pos)))
abbrev k8:=(@instHAppendOfAppend (@List @Stmt) (@List.instAppend @Stmt))
abbrev k9:=(@Nat.add 383 (@Nat.add 101 (@Nat.add 385 (@Nat.add 310 (@Nat.add 342 (@Nat.add 374 (@Nat.add 310 (@Nat.add 375 (@Nat.add 410 (@Nat.add 382 (@Nat.add 384 (@Nat.add 267 2))))))))))))
abbrev k10:=(@HAppend.hAppend (@List @Stmt) (@List @Stmt) (@List @Stmt) k8 @tK (@HAppend.hAppend (@List @Stmt) (@List @Stmt) (@List @Stmt) k8 @vv (@HAppend.hAppend (@List @Stmt) (@List @Stmt) (@List @Stmt) k8 @vt (@HAppend.hAppend (@List @Stmt) (@List @Stmt) (@List @Stmt) k8 @xZ k3))))
abbrev k11 (x0:World) (x1:OsState):=(@ite @Bool (@Eq @Bool @Bool.true @Bool.true) (@instDecidableEqBool @Bool.true @Bool.true) (@BEq.beq @Nat (@instBEqOfDecidableEq @Nat @instDecidableEqNat) (@Array.size @GenState (@Shared.gens (k2 x0 x1))) 0) (@Bool.not (@leftWithCleanup (@Shared.gens (k2 x0 x1)))))
abbrev k12:=(@HAppend.hAppend (@List @Stmt) (@List @Stmt) (@List @Stmt) k8 @vo (@HAppend.hAppend (@List @Stmt) (@List @Stmt) (@List @Stmt) k8 @xX (@HAppend.hAppend (@List @Stmt) (@List @Stmt) (@List @Stmt) k8 @xW (@HAppend.hAppend (@List @Stmt) (@List @Stmt) (@List @Stmt) k8 @xk []))))
abbrev k13:=(@Bool.true,((@pinGoodD (@PyProof.Rows.drecsOf @h_view_39)),((@PyProof.Rows.plainGoodE @h_view_39 (@W.looseW @h_view_39 [])),((@PyProof.Rows.plainGoodD @h_view_39 []),((@W.wideGood @h_view_39),(@W.clsGoodW @h_view_39 []))))))
abbrev k14:=(@List (@Prod (@Option (@Prod (@List (@Option @FnShape)) @Bool)) (@Option (@Prod @PyProof.Rows.PlainShape @Bool))))
abbrev k15 (x0:World) (x1:OsState):=(@Bool.and (@Bool.and (@Bool.and (@W.staticsOk (@importedModules (@Module.body (@Program.main (k4).1))) (@W.boot_heap x0.params) (@xw x0.params)) (@W.namesBound (k4).1 (@xw x0.params))) (@W.gensDone (k2 x0 x1))) (@W.laidKept (@W.boot_heap x0.params) (@xw x0.params)))
abbrev k16:=(@Prod (@Prod (@Option @Str) (@List (@Prod @Str @Value))) (@Prod @Bool (@Prod @Bool k5)))
abbrev k17 (x0:World) (x1:OsState):=(@PyProof.Rows.plainSeenE @h_view_39 (@W.looseW @h_view_39 []) (k2 x0 x1))
abbrev k18:=(@Eq.refl (@List @Addr) My.myAs)
abbrev k19:=(@importedModules (@Module.body (@Program.main (k4).1)))
abbrev k20 (x0:World) (x1:OsState):=(@pinSeenD @h_view_39 (@PyProof.Rows.drecsOf @h_view_39) (k2 x0 x1))
abbrev k21 (x0:World) (x1:OsState):=(@PyProof.Rows.plainSeenD @h_view_39 [] (k2 x0 x1))
abbrev k22:=(@Nat.add 1 (@Nat.add 225 (@Nat.add 214 (@Nat.add 214 (@Nat.add 214 (@Nat.add 214 k9))))))
abbrev k23:=(@Prod (@List (@Option @FnShape)) @Bool)
abbrev k24 (x0:World) (x1:OsState):=(@W.clsSeenW @h_view_39 [] (k2 x0 x1))
abbrev k25:=(@List.nil (@Prod @Str @W.WData))
abbrev k26 (x0:World) (x1:OsState):=(@W.wideSeen @h_view_39 (k2 x0 x1))
abbrev k27:=(@HAppend.hAppend (@List @Stmt) (@List @Stmt) (@List @Stmt) k8 @tL (@HAppend.hAppend (@List @Stmt) (@List @Stmt) (@List @Stmt) k8 @vw k10))
abbrev k28:=(@Nat.add 310 (@Nat.add 375 (@Nat.add 410 (@Nat.add 382 (@Nat.add 384 (@Nat.add 267 2))))))
abbrev k29:=(@W.piecesOf @xk @zu k1 (P_ 302 0 313 25) [(@W.topFrame (P_ 0 0 0 0))])
abbrev k30:=(@W.piecesOf @xW @zu k1 (P_ 239 0 243 15) [(@W.topFrame (P_ 0 0 0 0))])
abbrev k31:=(@W.piecesOf @xX @zu k1 (P_ 140 0 162 30) [(@W.topFrame (P_ 0 0 0 0))])
abbrev k32:=(@W.piecesOf @vo @zu k1 (P_ 124 0 139 63) [(@W.topFrame (P_ 0 0 0 0))])
abbrev k33:=(@W.piecesOf @xY @zu k1 (P_ 114 0 123 33) [(@W.topFrame (P_ 0 0 0 0))])
abbrev k34:=(@W.piecesOf @vp @zu k1 (P_ 98 0 113 31) [(@W.topFrame (P_ 0 0 0 0))])
abbrev k35:=(@W.piecesOf @vq @zu k1 (P_ 85 0 97 31) [(@W.topFrame (P_ 0 0 0 0))])
abbrev k36:=(@W.piecesOf @tJ @zu k1 (P_ 75 0 84 24) [(@W.topFrame (P_ 0 0 0 0))])
abbrev k37:=(@W.piecesOf @xZ @zu k1 (P_ 53 0 74 47) [(@W.topFrame (P_ 0 0 0 0))])
abbrev k38:=(@W.piecesOf @vt @zu k1 (P_ 49 0 52 17) [(@W.topFrame (P_ 0 0 0 0))])
abbrev k39:=(@W.piecesOf @vv @zu k1 (P_ 38 0 38 8) [(@W.topFrame (P_ 0 0 0 0))])
abbrev k40:=(@W.piecesOf @tK @zu k1 (P_ 13 0 14 8) [(@W.topFrame (P_ 0 0 0 0))])
abbrev k41:=(@W.piecesOf @vw @zu k1 (P_ 11 0 12 8) [(@W.topFrame (P_ 0 0 0 0))])
abbrev k42:=(@List (@Option (@Prod @PyProof.Rows.PlainShape @Bool)))
abbrev k43:=(@W.piecesOf @tL @zu k1 (P_ 9 0 10 8) [(@W.topFrame (P_ 0 0 0 0))])
abbrev k44:=(@W.piecesOf @uo @zu k1 (P_ 7 0 8 8) [(@W.topFrame (P_ 0 0 0 0))])
abbrev k45:=(@W.piecesOf @qr @zu k1 (P_ 5 0 6 8) [(@W.topFrame (P_ 0 0 0 0))])
abbrev k46:=(@W.piecesOf @lG @zu k1 (P_ 0 0 0 0) [(@W.topFrame (P_ 0 0 0 0))])
abbrev k47:=(@PyProof.Rows.plainGoodE @h_view_39 (@W.looseW @h_view_39 []))
abbrev k48 (x0:World) (x1:OsState):=(S_ jN 618 979 x0 x1)
abbrev k49 (x0:World) (x1:OsState):=(S_ jO 538 870 x0 x1)
abbrev k50 (x0:World) (x1:OsState):=(S_ jP 461 752 x0 x1)
abbrev k51 (x0:World) (x1:OsState):=(S_ jQ 407 683 x0 x1)
abbrev k52 (x0:World) (x1:OsState):=(S_ jR 360 625 x0 x1)
abbrev k53 (x0:World) (x1:OsState):=(S_ jS 327 584 x0 x1)
abbrev k54 (x0:World) (x1:OsState):=(S_ jT 280 527 x0 x1)
abbrev k55 (x0:World) (x1:OsState):=(S_ jU 240 478 x0 x1)
abbrev k56 (x0:World) (x1:OsState):=(S_ jV 207 437 x0 x1)
abbrev k57 (x0:World) (x1:OsState):=(S_ jW 151 366 x0 x1)
abbrev k58 (x0:World) (x1:OsState):=(S_ jX 130 339 x0 x1)
abbrev k59:=(@PyProof.Rows.clssOf @h_view_39 (@W.looseW @h_view_39 []))
abbrev k60 (x0:World) (x1:OsState):=(S_ jY 83 278 x0 x1)
abbrev k61 (x0:World) (x1:OsState):=(S_ jZ 71 262 x0 x1)
abbrev k62 (x0:World) (x1:OsState):=(S_ j0 59 246 x0 x1)
abbrev k63 (x0:World) (x1:OsState):=(S_ eE 47 230 x0 x1)
abbrev k64 (x0:World) (x1:OsState):=(S_ eG 35 214 x0 x1)
abbrev k65 (x0:World) (x1:OsState):=(S_ eI 15 187 x0 x1)
abbrev k66 (x0:World) (x1:OsState):=(@Shared.mk (@eJ x0.params) g_ d_ 187 x1)
abbrev k67 (x0:World) (x1:OsState):=(@PyProof.Rows.tablesOk @h_view_39 (@Shared.heap (k2 x0 x1)))
abbrev k68 (x0:World) (x1:OsState):=(@PyProof.Rows.tabsOk @h_view_39 (k2 x0 x1))
abbrev k69:=(@PyProof.Rows.plainGoodD @h_view_39 [])
abbrev k70 (x0:World) (x1:OsState):=(@Heap.accountedOkI (@Shared.heap (k2 x0 x1)) k19)
abbrev k71 (x0:World) (x1:OsState):=(S_ jM 672 1071 x0 x1)
abbrev k72 (x0:World) (x1:OsState):=(@Heap.isNs (@Shared.heap (k2 x0 x1)) @mainGlobals)
abbrev k73:=(@HAppend.hAppend (@List @Stmt) (@List @Stmt) (@List @Stmt) k8 @vp (@HAppend.hAppend (@List @Stmt) (@List @Stmt) (@List @Stmt) k8 @xY k12))
abbrev k74:=(@HAppend.hAppend (@List @Stmt) (@List @Stmt) (@List @Stmt) k8 @vt (@HAppend.hAppend (@List @Stmt) (@List @Stmt) (@List @Stmt) k8 @xZ k3))
abbrev k75 (x0:World) (x1:OsState):=(@Heap.isNs (@Shared.heap (k2 x0 x1)) @builtinsNs)
abbrev k76:=(@HAppend.hAppend (@List @Stmt) (@List @Stmt) (@List @Stmt) k8 @xW (@HAppend.hAppend (@List @Stmt) (@List @Stmt) (@List @Stmt) k8 @xk []))
abbrev k77 (x0:World) (x1:OsState):=(@Shared.mk (@W.boot_heap x0.params) g_ @W.boot_drawn @W.boot_toks x1)
abbrev k78:=(@Thread.mk (@denote @treeTable k1) k1 (P_ 0 0 0 0) [(@W.topFrame (P_ 0 0 0 0))])
abbrev kh0:=(@W.kHook @h_heap_39 My.myAs (fun x0=>(@id (@Eq (@List @Addr) My.myAs (@List.map (@Prod @Addr @Obj) @Addr (fun (x1:(@Prod @Addr @Obj))=>(@Prod.fst @Addr @Obj x1)) (@h_heap_39 x0))) k18)))
theorem pf_786:((x0:World)→(@Eq ((x1:OsState)→(@W.Hook.α kh0)) (fun x1=>(@W.Hook.obs kh0 (k2 x0 x1))) (fun x1=>(@W.Hook.val kh0 x0)))):=by intros; kernel_rfl
theorem pf_776:((x0:World)→(@Eq ((x1:OsState)→k14) (fun x1=>(k24 x0 x1)) (fun x1=>(@W.clsGoodW @h_view_39 [])))):=by intros; kernel_rfl
theorem pf_774:((x0:World)→(@Eq ((x1:OsState)→k23) (fun x1=>(k26 x0 x1)) (fun x1=>(@W.wideGood @h_view_39)))):=by intros; kernel_rfl
theorem pf_777:((x0:World)→((x1:OsState)→(@Eq (@Prod k23 k14) ((k26 x0 x1),(k24 x0 x1)) ((@W.wideGood @h_view_39),(@W.clsGoodW @h_view_39 []))))):=(fun x0=>(fun x1=>(@W.looks_pair k23 k14 (k26 x0 x1) (@W.wideGood @h_view_39) (k24 x0 x1) (@W.clsGoodW @h_view_39 []) ((fun x2=>(fun x3=>(congrFun (My.pf_774 x2) x3))) x0 x1) ((fun x2=>(fun x3=>(congrFun (My.pf_776 x2) x3))) x0 x1))))
theorem pf_772:((x0:World)→(@Eq ((x1:OsState)→k42) (fun x1=>(k21 x0 x1)) (fun x1=>k69))):=by intros; kernel_rfl
theorem pf_778:((x0:World)→((x1:OsState)→(@Eq (@Prod k42 (@Prod k23 k14)) ((k21 x0 x1),((k26 x0 x1),(k24 x0 x1))) (k69,((@W.wideGood @h_view_39),(@W.clsGoodW @h_view_39 [])))))):=(fun x0=>(fun x1=>(@W.looks_pair k42 (@Prod k23 k14) (k21 x0 x1) k69 ((k26 x0 x1),(k24 x0 x1)) ((@W.wideGood @h_view_39),(@W.clsGoodW @h_view_39 [])) ((fun x2=>(fun x3=>(congrFun (My.pf_772 x2) x3))) x0 x1) (@My.pf_777 x0 x1))))
theorem pf_770:((x0:World)→(@Eq ((x1:OsState)→(@List (@Option @PyProof.Rows.PlainShape))) (fun x1=>(k17 x0 x1)) (fun x1=>k47))):=by intros; kernel_rfl
theorem pf_779:((x0:World)→((x1:OsState)→(@Eq (@Prod (@List (@Option @PyProof.Rows.PlainShape)) (@Prod k42 (@Prod k23 k14))) ((k17 x0 x1),((k21 x0 x1),((k26 x0 x1),(k24 x0 x1)))) (k47,(k69,((@W.wideGood @h_view_39),(@W.clsGoodW @h_view_39 []))))))):=(fun x0=>(fun x1=>(@W.looks_pair (@List (@Option @PyProof.Rows.PlainShape)) (@Prod k42 (@Prod k23 k14)) (k17 x0 x1) k47 ((k21 x0 x1),((k26 x0 x1),(k24 x0 x1))) (k69,((@W.wideGood @h_view_39),(@W.clsGoodW @h_view_39 []))) ((fun x2=>(fun x3=>(congrFun (My.pf_770 x2) x3))) x0 x1) (@My.pf_778 x0 x1))))
theorem pf_768:((x0:World)→(@Eq ((x1:OsState)→k23) (fun x1=>(k20 x0 x1)) (fun x1=>(@pinGoodD (@PyProof.Rows.drecsOf @h_view_39))))):=by intros; kernel_rfl
theorem pf_780:((x0:World)→((x1:OsState)→(@Eq k5 ((k20 x0 x1),((k17 x0 x1),((k21 x0 x1),((k26 x0 x1),(k24 x0 x1))))) ((@pinGoodD (@PyProof.Rows.drecsOf @h_view_39)),(k47,(k69,((@W.wideGood @h_view_39),(@W.clsGoodW @h_view_39 [])))))))):=(fun x0=>(fun x1=>(@W.looks_pair k23 (@Prod (@List (@Option @PyProof.Rows.PlainShape)) (@Prod k42 (@Prod k23 k14))) (k20 x0 x1) (@pinGoodD (@PyProof.Rows.drecsOf @h_view_39)) ((k17 x0 x1),((k21 x0 x1),((k26 x0 x1),(k24 x0 x1)))) (k47,(k69,((@W.wideGood @h_view_39),(@W.clsGoodW @h_view_39 [])))) ((fun x2=>(fun x3=>(congrFun (My.pf_768 x2) x3))) x0 x1) (@My.pf_779 x0 x1))))
theorem pf_766:((x0:World)→(@Eq ((x1:OsState)→@Bool) (fun x1=>(k68 x0 x1)) (fun x1=>@Bool.true))):=by intros; kernel_rfl
theorem pf_781:((x0:World)→((x1:OsState)→(@Eq (@Prod @Bool k5) ((k68 x0 x1),((k20 x0 x1),((k17 x0 x1),((k21 x0 x1),((k26 x0 x1),(k24 x0 x1)))))) k13))):=(fun x0=>(fun x1=>(@W.looks_pair @Bool k5 (k68 x0 x1) @Bool.true ((k20 x0 x1),((k17 x0 x1),((k21 x0 x1),((k26 x0 x1),(k24 x0 x1))))) ((@pinGoodD (@PyProof.Rows.drecsOf @h_view_39)),(k47,(k69,((@W.wideGood @h_view_39),(@W.clsGoodW @h_view_39 []))))) ((fun x2=>(fun x3=>(congrFun (My.pf_766 x2) x3))) x0 x1) (@My.pf_780 x0 x1))))
theorem pf_764:((x0:World)→(@Eq ((x1:OsState)→@Bool) (fun x1=>(@Bool.and (@Bool.and (@Bool.and (@Bool.and (@Bool.and (@Bool.and (@Heap.keysOk (@Shared.heap (k2 x0 x1)) (@W.looseW @h_view_39 []) (@List.map @DefRec @Str (fun (x2:@DefRec)=>(@DefRec.name x2)) (@PyProof.Rows.recsOf @h_view_39)) (@List.map (@Prod @Str @PyData) @Str (fun (x2:(@Prod @Str @PyData))=>(@Prod.fst @Str @PyData x2)) (@PyProof.Rows.litsOf @h_view_39)) (@List.map @ClsRec @Str (fun (x2:@ClsRec)=>(@ClsRec.name x2)) k59)) (k70 x0 x1)) (k72 x0 x1)) (k75 x0 x1)) (k67 x0 x1)) ((fun (x2:@Shared)=>(@Bool.and (@W.xlAt @h_view_39 k25 x2) (@W.recOk (@W.RowW.records k4) x2))) (k2 x0 x1))) (k11 x0 x1))) (fun x1=>@Bool.true))):=by intros; kernel_rfl
theorem pf_782:((x0:World)→((x1:OsState)→(@Eq (@Prod @Bool (@Prod @Bool k5)) ((@Bool.and (@Bool.and (@Bool.and (@Bool.and (@Bool.and (@Bool.and (@Heap.keysOk (@Shared.heap (k2 x0 x1)) (@W.looseW @h_view_39 []) (@List.map @DefRec @Str (fun (x2:@DefRec)=>(@DefRec.name x2)) (@PyProof.Rows.recsOf @h_view_39)) (@List.map (@Prod @Str @PyData) @Str (fun (x2:(@Prod @Str @PyData))=>(@Prod.fst @Str @PyData x2)) (@PyProof.Rows.litsOf @h_view_39)) (@List.map @ClsRec @Str (fun (x2:@ClsRec)=>(@ClsRec.name x2)) k59)) (k70 x0 x1)) (k72 x0 x1)) (k75 x0 x1)) (k67 x0 x1)) ((fun (x2:@Shared)=>(@Bool.and (@W.xlAt @h_view_39 k25 x2) (@W.recOk (@W.RowW.records k4) x2))) (k2 x0 x1))) (k11 x0 x1)),((k68 x0 x1),((k20 x0 x1),((k17 x0 x1),((k21 x0 x1),((k26 x0 x1),(k24 x0 x1))))))) (@Bool.true,k13)))):=(fun x0=>(fun x1=>(@W.looks_pair @Bool (@Prod @Bool k5) (@Bool.and (@Bool.and (@Bool.and (@Bool.and (@Bool.and (@Bool.and (@Heap.keysOk (@Shared.heap (k2 x0 x1)) (@W.looseW @h_view_39 []) (@List.map @DefRec @Str (fun (x2:@DefRec)=>(@DefRec.name x2)) (@PyProof.Rows.recsOf @h_view_39)) (@List.map (@Prod @Str @PyData) @Str (fun (x2:(@Prod @Str @PyData))=>(@Prod.fst @Str @PyData x2)) (@PyProof.Rows.litsOf @h_view_39)) (@List.map @ClsRec @Str (fun (x2:@ClsRec)=>(@ClsRec.name x2)) k59)) (k70 x0 x1)) (k72 x0 x1)) (k75 x0 x1)) (k67 x0 x1)) ((fun (x2:@Shared)=>(@Bool.and (@W.xlAt @h_view_39 k25 x2) (@W.recOk (@W.RowW.records k4) x2))) (k2 x0 x1))) (k11 x0 x1)) @Bool.true ((k68 x0 x1),((k20 x0 x1),((k17 x0 x1),((k21 x0 x1),((k26 x0 x1),(k24 x0 x1)))))) k13 ((fun x2=>(fun x3=>(congrFun (My.pf_764 x2) x3))) x0 x1) (@My.pf_781 x0 x1))))
theorem pf_762:((x0:World)→(@Eq ((x1:OsState)→(@Prod (@Option @Str) (@List (@Prod @Str @Value)))) (fun x1=>(@Heap.bltView (@Shared.heap (k2 x0 x1)))) (fun x1=>@bltViewBooted))):=by intros; kernel_rfl
theorem pf_783:((x0:World)→((x1:OsState)→(@Eq k16 ((@Heap.bltView (@Shared.heap (k2 x0 x1))),((@Bool.and (@Bool.and (@Bool.and (@Bool.and (@Bool.and (@Bool.and (@Heap.keysOk (@Shared.heap (k2 x0 x1)) (@W.looseW @h_view_39 []) (@List.map @DefRec @Str (fun (x2:@DefRec)=>(@DefRec.name x2)) (@PyProof.Rows.recsOf @h_view_39)) (@List.map (@Prod @Str @PyData) @Str (fun (x2:(@Prod @Str @PyData))=>(@Prod.fst @Str @PyData x2)) (@PyProof.Rows.litsOf @h_view_39)) (@List.map @ClsRec @Str (fun (x2:@ClsRec)=>(@ClsRec.name x2)) k59)) (k70 x0 x1)) (k72 x0 x1)) (k75 x0 x1)) (k67 x0 x1)) ((fun (x2:@Shared)=>(@Bool.and (@W.xlAt @h_view_39 k25 x2) (@W.recOk (@W.RowW.records k4) x2))) (k2 x0 x1))) (k11 x0 x1)),((k68 x0 x1),((k20 x0 x1),((k17 x0 x1),((k21 x0 x1),((k26 x0 x1),(k24 x0 x1)))))))) (@bltViewBooted,(@Bool.true,k13))))):=(fun x0=>(fun x1=>(@W.looks_pair (@Prod (@Option @Str) (@List (@Prod @Str @Value))) (@Prod @Bool (@Prod @Bool k5)) (@Heap.bltView (@Shared.heap (k2 x0 x1))) @bltViewBooted ((@Bool.and (@Bool.and (@Bool.and (@Bool.and (@Bool.and (@Bool.and (@Heap.keysOk (@Shared.heap (k2 x0 x1)) (@W.looseW @h_view_39 []) (@List.map @DefRec @Str (fun (x2:@DefRec)=>(@DefRec.name x2)) (@PyProof.Rows.recsOf @h_view_39)) (@List.map (@Prod @Str @PyData) @Str (fun (x2:(@Prod @Str @PyData))=>(@Prod.fst @Str @PyData x2)) (@PyProof.Rows.litsOf @h_view_39)) (@List.map @ClsRec @Str (fun (x2:@ClsRec)=>(@ClsRec.name x2)) k59)) (k70 x0 x1)) (k72 x0 x1)) (k75 x0 x1)) (k67 x0 x1)) ((fun (x2:@Shared)=>(@Bool.and (@W.xlAt @h_view_39 k25 x2) (@W.recOk (@W.RowW.records k4) x2))) (k2 x0 x1))) (k11 x0 x1)),((k68 x0 x1),((k20 x0 x1),((k17 x0 x1),((k21 x0 x1),((k26 x0 x1),(k24 x0 x1))))))) (@Bool.true,k13) ((fun x2=>(fun x3=>(congrFun (My.pf_762 x2) x3))) x0 x1) (@My.pf_782 x0 x1))))
theorem pf_760:((x0:World)→(@Eq ((x1:OsState)→@PyProof.Rows.Seen) (fun x1=>(@PyProof.Rows.seen (@List.map @DefRec @Str (fun (x2:@DefRec)=>(@DefRec.name x2)) (@PyProof.Rows.recsOf @h_view_39)) (@PyProof.Rows.ownsOf @h_view_39) [] (@Shared.mk (@Shared.heap (k2 x0 x1)) #[] (@Shared.drawn (k2 x0 x1)) (@Shared.toks (k2 x0 x1)) (@Shared.os (k2 x0 x1))))) (fun x1=>(@PyProof.Rows.expectedOf @h_view_39)))):=by intros; kernel_rfl
theorem pf_784:((x0:World)→((x1:OsState)→(@Eq (@Prod @PyProof.Rows.Seen k16) (@W.openSeen @h_view_39 [] k19 (fun (x2:@Shared)=>(@Bool.and (@W.xlAt @h_view_39 k25 x2) (@W.recOk (@W.RowW.records k4) x2))) @Bool.true (k2 x0 x1)) (@W.openGood @h_view_39 [])))):=(fun x0=>(fun x1=>(@W.looks_pair @PyProof.Rows.Seen k16 (@PyProof.Rows.seen (@List.map @DefRec @Str (fun (x2:@DefRec)=>(@DefRec.name x2)) (@PyProof.Rows.recsOf @h_view_39)) (@PyProof.Rows.ownsOf @h_view_39) [] (@Shared.mk (@Shared.heap (k2 x0 x1)) #[] (@Shared.drawn (k2 x0 x1)) (@Shared.toks (k2 x0 x1)) (@Shared.os (k2 x0 x1)))) (@PyProof.Rows.expectedOf @h_view_39) ((@Heap.bltView (@Shared.heap (k2 x0 x1))),((@Bool.and (@Bool.and (@Bool.and (@Bool.and (@Bool.and (@Bool.and (@Heap.keysOk (@Shared.heap (k2 x0 x1)) (@W.looseW @h_view_39 []) (@List.map @DefRec @Str (fun (x2:@DefRec)=>(@DefRec.name x2)) (@PyProof.Rows.recsOf @h_view_39)) (@List.map (@Prod @Str @PyData) @Str (fun (x2:(@Prod @Str @PyData))=>(@Prod.fst @Str @PyData x2)) (@PyProof.Rows.litsOf @h_view_39)) (@List.map @ClsRec @Str (fun (x2:@ClsRec)=>(@ClsRec.name x2)) k59)) (k70 x0 x1)) (k72 x0 x1)) (k75 x0 x1)) (k67 x0 x1)) ((fun (x2:@Shared)=>(@Bool.and (@W.xlAt @h_view_39 k25 x2) (@W.recOk (@W.RowW.records k4) x2))) (k2 x0 x1))) (k11 x0 x1)),((k68 x0 x1),((k20 x0 x1),((k17 x0 x1),((k21 x0 x1),((k26 x0 x1),(k24 x0 x1)))))))) (@bltViewBooted,(@Bool.true,k13)) ((fun x2=>(fun x3=>(congrFun (My.pf_760 x2) x3))) x0 x1) (@My.pf_783 x0 x1))))
theorem pf_787:((x0:World)→((x1:OsState)→(@Eq (@Prod (@Prod @PyProof.Rows.Seen k16) (@W.Hook.α kh0)) ((@W.openSeen @h_view_39 [] k19 (fun (x2:@Shared)=>(@Bool.and (@W.xlAt @h_view_39 k25 x2) (@W.recOk (@W.RowW.records k4) x2))) @Bool.true (k2 x0 x1)),(@W.Hook.obs kh0 (k2 x0 x1))) ((@W.openGood @h_view_39 []),(@W.Hook.val kh0 x0))))):=(fun x0=>(fun x1=>(@W.looks_pair (@Prod @PyProof.Rows.Seen k16) (@W.Hook.α kh0) (@W.openSeen @h_view_39 [] k19 (fun (x2:@Shared)=>(@Bool.and (@W.xlAt @h_view_39 k25 x2) (@W.recOk (@W.RowW.records k4) x2))) @Bool.true (k2 x0 x1)) (@W.openGood @h_view_39 []) (@W.Hook.obs kh0 (k2 x0 x1)) (@W.Hook.val kh0 x0) (@My.pf_784 x0 x1) ((fun x2=>(fun x3=>(congrFun (My.pf_786 x2) x3))) x0 x1))))
theorem pf_758:((x0:World)→(@Eq ((x1:OsState)→@Bool) (fun x1=>(k15 x0 x1)) (fun x1=>@Bool.true))):=by intros; kernel_rfl
theorem pf_788:((x0:World)→((x1:OsState)→(@Eq (@Prod @Bool (@Prod (@Prod @PyProof.Rows.Seen k16) (@W.Hook.α kh0))) ((k15 x0 x1),((@W.openSeen @h_view_39 [] k19 (fun (x2:@Shared)=>(@Bool.and (@W.xlAt @h_view_39 k25 x2) (@W.recOk (@W.RowW.records k4) x2))) @Bool.true (k2 x0 x1)),(@W.Hook.obs kh0 (k2 x0 x1)))) (@Bool.true,((@W.openGood @h_view_39 []),(@W.Hook.val kh0 x0)))))):=(fun x0=>(fun x1=>(@W.looks_pair @Bool (@Prod (@Prod @PyProof.Rows.Seen k16) (@W.Hook.α kh0)) (k15 x0 x1) @Bool.true ((@W.openSeen @h_view_39 [] k19 (fun (x2:@Shared)=>(@Bool.and (@W.xlAt @h_view_39 k25 x2) (@W.recOk (@W.RowW.records k4) x2))) @Bool.true (k2 x0 x1)),(@W.Hook.obs kh0 (k2 x0 x1))) ((@W.openGood @h_view_39 []),(@W.Hook.val kh0 x0)) ((fun x2=>(fun x3=>(congrFun (My.pf_758 x2) x3))) x0 x1) (@My.pf_787 x0 x1))))
theorem pf_753:((x0:World)→(@Eq ((x1:OsState)→(@Option @Shared)) (fun x1=>(@W.topRun @treeTable (k4).1 x0 11 v_ 2 (@W.SharedT.abs (k71 x0 x1)) (@Thread.mk (@W.doneF @Flow.next) k1 (P_ 382 0 397 168) [(@W.topFrame (P_ 0 0 0 0))]))) (fun x1=>(@some @Shared (k2 x0 x1))))):=by intros; kernel_rfl
theorem pf_751:((x0:World)→(@Eq ((x1:OsState)→(@Option k7)) (fun x1=>(@W.segRunT @treeTable (k4).1 x0 11 v_ 1 267 (k48 x0 x1) k29)) (fun x1=>(@some k7 (@Flow.next,((k71 x0 x1),(k1,(P_ 382 0 397 168)))))))):=by intros; kernel_rfl
theorem pf_695:((x0:World)→(@Eq ((x1:OsState)→(@Option k7)) (fun x1=>(@W.segRunT @treeTable (k4).1 x0 11 v_ 1 384 (k49 x0 x1) k30)) (fun x1=>(@some k7 (@Flow.next,((k48 x0 x1),(k1,(P_ 302 0 313 25)))))))):=by intros; kernel_rfl
theorem pf_613:((x0:World)→(@Eq ((x1:OsState)→(@Option k7)) (fun x1=>(@W.segRunT @treeTable (k4).1 x0 11 v_ 1 382 (k50 x0 x1) k31)) (fun x1=>(@some k7 (@Flow.next,((k49 x0 x1),(k1,(P_ 239 0 243 15)))))))):=by intros; kernel_rfl
theorem pf_534:((x0:World)→(@Eq ((x1:OsState)→(@Option k7)) (fun x1=>(@W.segRunT @treeTable (k4).1 x0 11 v_ 1 410 (k51 x0 x1) k32)) (fun x1=>(@some k7 (@Flow.next,((k50 x0 x1),(k1,(P_ 140 0 162 30)))))))):=by intros; kernel_rfl
theorem pf_477:((x0:World)→(@Eq ((x1:OsState)→(@Option k7)) (fun x1=>(@W.segRunT @treeTable (k4).1 x0 11 v_ 1 375 (k52 x0 x1) k33)) (fun x1=>(@some k7 (@Flow.next,((k51 x0 x1),(k1,(P_ 124 0 139 63)))))))):=by intros; kernel_rfl
theorem pf_427:((x0:World)→(@Eq ((x1:OsState)→(@Option k7)) (fun x1=>(@W.segRunT @treeTable (k4).1 x0 11 v_ 1 310 (k53 x0 x1) k34)) (fun x1=>(@some k7 (@Flow.next,((k52 x0 x1),(k1,(P_ 114 0 123 33)))))))):=by intros; kernel_rfl
theorem pf_391:((x0:World)→(@Eq ((x1:OsState)→(@Option k7)) (fun x1=>(@W.segRunT @treeTable (k4).1 x0 11 v_ 1 374 (k54 x0 x1) k35)) (fun x1=>(@some k7 (@Flow.next,((k53 x0 x1),(k1,(P_ 98 0 113 31)))))))):=by intros; kernel_rfl
theorem pf_341:((x0:World)→(@Eq ((x1:OsState)→(@Option k7)) (fun x1=>(@W.segRunT @treeTable (k4).1 x0 11 v_ 1 342 (k55 x0 x1) k36)) (fun x1=>(@some k7 (@Flow.next,((k54 x0 x1),(k1,(P_ 85 0 97 31)))))))):=by intros; kernel_rfl
theorem pf_298:((x0:World)→(@Eq ((x1:OsState)→(@Option k7)) (fun x1=>(@W.segRunT @treeTable (k4).1 x0 11 v_ 1 310 (k56 x0 x1) k37)) (fun x1=>(@some k7 (@Flow.next,((k55 x0 x1),(k1,(P_ 75 0 84 24)))))))):=by intros; kernel_rfl
theorem pf_262:((x0:World)→(@Eq ((x1:OsState)→(@Option k7)) (fun x1=>(@W.segRunT @treeTable (k4).1 x0 11 v_ 1 385 (k57 x0 x1) k38)) (fun x1=>(@some k7 (@Flow.next,((k56 x0 x1),(k1,(P_ 53 0 74 47)))))))):=by intros; kernel_rfl
theorem pf_204:((x0:World)→(@Eq ((x1:OsState)→(@Option k7)) (fun x1=>(@W.segRunT @treeTable (k4).1 x0 11 v_ 1 101 (k58 x0 x1) k39)) (fun x1=>(@some k7 (@Flow.next,((k57 x0 x1),(k1,(P_ 49 0 52 17)))))))):=by intros; kernel_rfl
theorem pf_181:((x0:World)→(@Eq ((x1:OsState)→(@Option k7)) (fun x1=>(@W.segRunT @treeTable (k4).1 x0 11 v_ 1 383 (k60 x0 x1) k40)) (fun x1=>(@some k7 (@Flow.next,((k58 x0 x1),(k1,(P_ 38 0 38 8)))))))):=by intros; kernel_rfl
theorem pf_131:((x0:World)→(@Eq ((x1:OsState)→(@Option k7)) (fun x1=>(@W.segRunT @treeTable (k4).1 x0 11 v_ 1 214 (k61 x0 x1) k41)) (fun x1=>(@some k7 (@Flow.next,((k60 x0 x1),(k1,(P_ 13 0 14 8)))))))):=by intros; kernel_rfl
theorem pf_116:((x0:World)→(@Eq ((x1:OsState)→(@Option k7)) (fun x1=>(@W.segRunT @treeTable (k4).1 x0 11 v_ 1 214 (k62 x0 x1) k43)) (fun x1=>(@some k7 (@Flow.next,((k61 x0 x1),(k1,(P_ 11 0 12 8)))))))):=by intros; kernel_rfl
theorem pf_101:((x0:World)→(@Eq ((x1:OsState)→(@Option k7)) (fun x1=>(@W.segRunT @treeTable (k4).1 x0 11 v_ 1 214 (k63 x0 x1) k44)) (fun x1=>(@some k7 (@Flow.next,((k62 x0 x1),(k1,(P_ 9 0 10 8)))))))):=by intros; kernel_rfl
theorem pf_86:((x0:World)→(@Eq ((x1:OsState)→(@Option k7)) (fun x1=>(@W.segRunT @treeTable (k4).1 x0 11 v_ 1 214 (k64 x0 x1) k45)) (fun x1=>(@some k7 (@Flow.next,((k63 x0 x1),(k1,(P_ 7 0 8 8)))))))):=by intros; kernel_rfl
theorem pf_71:((x0:World)→(@Eq ((x1:OsState)→(@Option k7)) (fun x1=>(@W.segRunT @treeTable (k4).1 x0 11 v_ 1 225 (k65 x0 x1) k46)) (fun x1=>(@some k7 (@Flow.next,((k64 x0 x1),(k1,(P_ 5 0 6 8)))))))):=by intros; kernel_rfl
theorem pf_49:((x0:World)→(@Eq ((x1:OsState)→(@Option k6)) (fun x1=>(@W.segRun @treeTable (k4).1 x0 11 v_ 1 1 (k66 x0 x1) (@W.blockOf (@W.behindTheImports (k4).1) @zu k1 (P_ 0 0 0 0) [(@W.topFrame (P_ 0 0 0 0))]))) (fun x1=>(@some k6 (@Flow.next,((@W.SharedT.abs (k65 x0 x1)),(k1,(P_ 0 0 0 0)))))))):=by intros; kernel_rfl
theorem pf_47:((x0:World)→(@Eq ((x1:OsState)→(@Option (@Prod @Shared @Thread))) (fun x1=>(@W.topGo @treeTable (k4).1 x0 11 v_ 12 (k77 x0 x1) (@W.topStub (k4).1))) (fun x1=>(@some (@Prod @Shared @Thread) ((k66 x0 x1),k78))))):=by intros; kernel_rfl
theorem pf_754:((x0:World)→((x1:OsState)→(@Eq (@Option @Shared) (@W.topRun @treeTable (k4).1 x0 11 v_ (@Nat.add 12 k22) (k77 x0 x1) (@W.topStub (k4).1)) (@some @Shared (k2 x0 x1))))):=(fun x0=>(fun x1=>(@W.go_top @treeTable (k4).1 x0 11 v_ 12 k22 (k77 x0 x1) (k66 x0 x1) (k2 x0 x1) (@W.topStub (k4).1) k78 (congrFun (My.pf_47 x0) x1) (@W.piece_block @treeTable (k4).1 x0 11 v_ @zu (P_ 0 0 0 0) 1 (@Nat.add 225 (@Nat.add 214 (@Nat.add 214 (@Nat.add 214 (@Nat.add 214 k9))))) (k66 x0 x1) (@W.SharedT.abs (k65 x0 x1)) (k2 x0 x1) (@W.behindTheImports (k4).1) k1 (P_ 0 0 0 0) (P_ 0 0 0 0) (congrFun (My.pf_49 x0) x1) (@W.piece_app @treeTable (k4).1 x0 11 v_ @zu (P_ 0 0 0 0) 225 (@Nat.add 214 (@Nat.add 214 (@Nat.add 214 (@Nat.add 214 k9)))) (@W.SharedT.abs (k65 x0 x1)) (@W.SharedT.abs (k64 x0 x1)) (k2 x0 x1) @lG (@HAppend.hAppend (@List @Stmt) (@List @Stmt) (@List @Stmt) k8 @qr (@HAppend.hAppend (@List @Stmt) (@List @Stmt) (@List @Stmt) k8 @uo k27)) k1 (P_ 0 0 0 0) (P_ 5 0 6 8) (sg_ (congrFun (My.pf_71 x0) x1)) (@W.piece_app @treeTable (k4).1 x0 11 v_ @zu (P_ 0 0 0 0) 214 (@Nat.add 214 (@Nat.add 214 (@Nat.add 214 k9))) (@W.SharedT.abs (k64 x0 x1)) (@W.SharedT.abs (k63 x0 x1)) (k2 x0 x1) @qr (@HAppend.hAppend (@List @Stmt) (@List @Stmt) (@List @Stmt) k8 @uo k27) k1 (P_ 5 0 6 8) (P_ 7 0 8 8) (sg_ (congrFun (My.pf_86 x0) x1)) (@W.piece_app @treeTable (k4).1 x0 11 v_ @zu (P_ 0 0 0 0) 214 (@Nat.add 214 (@Nat.add 214 k9)) (@W.SharedT.abs (k63 x0 x1)) (@W.SharedT.abs (k62 x0 x1)) (k2 x0 x1) @uo k27 k1 (P_ 7 0 8 8) (P_ 9 0 10 8) (sg_ (congrFun (My.pf_101 x0) x1)) (@W.piece_app @treeTable (k4).1 x0 11 v_ @zu (P_ 0 0 0 0) 214 (@Nat.add 214 k9) (@W.SharedT.abs (k62 x0 x1)) (@W.SharedT.abs (k61 x0 x1)) (k2 x0 x1) @tL (@HAppend.hAppend (@List @Stmt) (@List @Stmt) (@List @Stmt) k8 @vw k10) k1 (P_ 9 0 10 8) (P_ 11 0 12 8) (sg_ (congrFun (My.pf_116 x0) x1)) (@W.piece_app @treeTable (k4).1 x0 11 v_ @zu (P_ 0 0 0 0) 214 k9 (@W.SharedT.abs (k61 x0 x1)) (@W.SharedT.abs (k60 x0 x1)) (k2 x0 x1) @vw k10 k1 (P_ 11 0 12 8) (P_ 13 0 14 8) (sg_ (congrFun (My.pf_131 x0) x1)) (@W.piece_app @treeTable (k4).1 x0 11 v_ @zu (P_ 0 0 0 0) 383 (@Nat.add 101 (@Nat.add 385 (@Nat.add 310 (@Nat.add 342 (@Nat.add 374 k28))))) (@W.SharedT.abs (k60 x0 x1)) (@W.SharedT.abs (k58 x0 x1)) (k2 x0 x1) @tK (@HAppend.hAppend (@List @Stmt) (@List @Stmt) (@List @Stmt) k8 @vv k74) k1 (P_ 13 0 14 8) (P_ 38 0 38 8) (sg_ (congrFun (My.pf_181 x0) x1)) (@W.piece_app @treeTable (k4).1 x0 11 v_ @zu (P_ 0 0 0 0) 101 (@Nat.add 385 (@Nat.add 310 (@Nat.add 342 (@Nat.add 374 k28)))) (@W.SharedT.abs (k58 x0 x1)) (@W.SharedT.abs (k57 x0 x1)) (k2 x0 x1) @vv k74 k1 (P_ 38 0 38 8) (P_ 49 0 52 17) (sg_ (congrFun (My.pf_204 x0) x1)) (@W.piece_app @treeTable (k4).1 x0 11 v_ @zu (P_ 0 0 0 0) 385 (@Nat.add 310 (@Nat.add 342 (@Nat.add 374 k28))) (@W.SharedT.abs (k57 x0 x1)) (@W.SharedT.abs (k56 x0 x1)) (k2 x0 x1) @vt (@HAppend.hAppend (@List @Stmt) (@List @Stmt) (@List @Stmt) k8 @xZ k3) k1 (P_ 49 0 52 17) (P_ 53 0 74 47) (sg_ (congrFun (My.pf_262 x0) x1)) (@W.piece_app @treeTable (k4).1 x0 11 v_ @zu (P_ 0 0 0 0) 310 (@Nat.add 342 (@Nat.add 374 k28)) (@W.SharedT.abs (k56 x0 x1)) (@W.SharedT.abs (k55 x0 x1)) (k2 x0 x1) @xZ k3 k1 (P_ 53 0 74 47) (P_ 75 0 84 24) (sg_ (congrFun (My.pf_298 x0) x1)) (@W.piece_app @treeTable (k4).1 x0 11 v_ @zu (P_ 0 0 0 0) 342 (@Nat.add 374 k28) (@W.SharedT.abs (k55 x0 x1)) (@W.SharedT.abs (k54 x0 x1)) (k2 x0 x1) @tJ (@HAppend.hAppend (@List @Stmt) (@List @Stmt) (@List @Stmt) k8 @vq k73) k1 (P_ 75 0 84 24) (P_ 85 0 97 31) (sg_ (congrFun (My.pf_341 x0) x1)) (@W.piece_app @treeTable (k4).1 x0 11 v_ @zu (P_ 0 0 0 0) 374 k28 (@W.SharedT.abs (k54 x0 x1)) (@W.SharedT.abs (k53 x0 x1)) (k2 x0 x1) @vq k73 k1 (P_ 85 0 97 31) (P_ 98 0 113 31) (sg_ (congrFun (My.pf_391 x0) x1)) (@W.piece_app @treeTable (k4).1 x0 11 v_ @zu (P_ 0 0 0 0) 310 (@Nat.add 375 (@Nat.add 410 (@Nat.add 382 (@Nat.add 384 (@Nat.add 267 2))))) (@W.SharedT.abs (k53 x0 x1)) (@W.SharedT.abs (k52 x0 x1)) (k2 x0 x1) @vp (@HAppend.hAppend (@List @Stmt) (@List @Stmt) (@List @Stmt) k8 @xY k12) k1 (P_ 98 0 113 31) (P_ 114 0 123 33) (sg_ (congrFun (My.pf_427 x0) x1)) (@W.piece_app @treeTable (k4).1 x0 11 v_ @zu (P_ 0 0 0 0) 375 (@Nat.add 410 (@Nat.add 382 (@Nat.add 384 (@Nat.add 267 2)))) (@W.SharedT.abs (k52 x0 x1)) (@W.SharedT.abs (k51 x0 x1)) (k2 x0 x1) @xY k12 k1 (P_ 114 0 123 33) (P_ 124 0 139 63) (sg_ (congrFun (My.pf_477 x0) x1)) (@W.piece_app @treeTable (k4).1 x0 11 v_ @zu (P_ 0 0 0 0) 410 (@Nat.add 382 (@Nat.add 384 (@Nat.add 267 2))) (@W.SharedT.abs (k51 x0 x1)) (@W.SharedT.abs (k50 x0 x1)) (k2 x0 x1) @vo (@HAppend.hAppend (@List @Stmt) (@List @Stmt) (@List @Stmt) k8 @xX k76) k1 (P_ 124 0 139 63) (P_ 140 0 162 30) (sg_ (congrFun (My.pf_534 x0) x1)) (@W.piece_app @treeTable (k4).1 x0 11 v_ @zu (P_ 0 0 0 0) 382 (@Nat.add 384 (@Nat.add 267 2)) (@W.SharedT.abs (k50 x0 x1)) (@W.SharedT.abs (k49 x0 x1)) (k2 x0 x1) @xX k76 k1 (P_ 140 0 162 30) (P_ 239 0 243 15) (sg_ (congrFun (My.pf_613 x0) x1)) (@W.piece_app @treeTable (k4).1 x0 11 v_ @zu (P_ 0 0 0 0) 384 (@Nat.add 267 2) (@W.SharedT.abs (k49 x0 x1)) (@W.SharedT.abs (k48 x0 x1)) (k2 x0 x1) @xW (@HAppend.hAppend (@List @Stmt) (@List @Stmt) (@List @Stmt) k8 @xk []) k1 (P_ 239 0 243 15) (P_ 302 0 313 25) (sg_ (congrFun (My.pf_695 x0) x1)) (@W.piece_app @treeTable (k4).1 x0 11 v_ @zu (P_ 0 0 0 0) 267 2 (@W.SharedT.abs (k48 x0 x1)) (@W.SharedT.abs (k71 x0 x1)) (k2 x0 x1) @xk [] k1 (P_ 302 0 313 25) (P_ 382 0 397 168) (sg_ (congrFun (My.pf_751 x0) x1)) (congrFun (My.pf_753 x0) x1))))))))))))))))))))))
theorem pf_756:((x0:World)→(@Eq (@Prod @Bool (@Prod @Nat (@Option @Value))) ((@Bool.and (@Heap.isNs (@W.boot_heap x0.params) @mainGlobals) (@BEq.beq @Nat (@instBEqOfDecidableEq @Nat @instDecidableEqNat) (@Array.size @GenState g_) 0)),((@Array.size @Obj (@Heap.objs (@W.boot_heap x0.params))),(@Heap.nsMap (@W.boot_heap x0.params) @mainGlobals (.ofString "__annotations__")))) (@Bool.true,(11,v_)))):=by intros; kernel_rfl
theorem pf_43:((x0:@Shared)→(@Eq (@Option @Shared) (@fenceModules? (k4).1 x0) (@some @Shared x0))):=by intros; kernel_rfl
theorem pf_42:(@Eq @Program (@W.opening (k4).1) (@W.plainProg (@Scope.names (@Module.scope (@Program.main (k4).1))))):=by intros; kernel_rfl
theorem left:(@W.LeftO (k4).1 @h_view_39 [] (fun (x0:@Shared)=>(@Bool.and (@W.xlAt @h_view_39 k25 x0) (@W.recOk (@W.RowW.records k4) x0))) (@W.Hook.α kh0) (@W.Hook.obs kh0) (@W.Hook.val kh0) 10300 @Bool.true):=(@W.LeftO.of_pieces (k4).1 @h_view_39 [] (fun (x0:@Shared)=>(@Bool.and (@W.xlAt @h_view_39 k25 x0) (@W.recOk (@W.RowW.records k4) x0))) (@W.Hook.α kh0) (@W.Hook.obs kh0) (@W.Hook.val kh0) 10300 @Bool.true @W.boot_heap @xw g_ g_ @W.boot_drawn d_ @W.boot_toks 1071 11 v_ (@Nat.add 12 k22) (@W.boot_open (k4).1 10300 @My.pf_42 (@of_decide_eq_true (@Eq @Bool (@Nat.ble 600 10300) @Bool.true) (@instDecidableEqBool (@Nat.ble 600 10300) @Bool.true) (@id (@Eq @Bool (@Decidable.decide (@Eq @Bool (@Nat.ble 600 10300) @Bool.true) (@instDecidableEqBool (@Nat.ble 600 10300) @Bool.true)) @Bool.true) (@Eq.refl @Bool @Bool.true))) @My.pf_43) @My.pf_756 @My.pf_754 (@of_decide_eq_true (@Eq @Bool (@Nat.ble (@Nat.add 12 k22) 10300) @Bool.true) (@instDecidableEqBool (@Nat.ble (@Nat.add 12 k22) 10300) @Bool.true) (@id (@Eq @Bool (@Decidable.decide (@Eq @Bool (@Nat.ble (@Nat.add 12 k22) 10300) @Bool.true) (@instDecidableEqBool (@Nat.ble (@Nat.add 12 k22) 10300) @Bool.true)) @Bool.true) (@Eq.refl @Bool @Bool.true))) (fun x0=>(@funext @OsState (fun x1=>(@Prod @Bool (@Prod (@Prod @PyProof.Rows.Seen k16) (@W.Hook.α kh0)))) (fun x1=>((k15 x0 x1),((@W.openSeen @h_view_39 [] k19 (fun (x2:@Shared)=>(@Bool.and (@W.xlAt @h_view_39 k25 x2) (@W.recOk (@W.RowW.records k4) x2))) @Bool.true (k2 x0 x1)),(@W.Hook.obs kh0 (k2 x0 x1))))) (fun x1=>(@Bool.true,((@W.openGood @h_view_39 []),(@W.Hook.val kh0 x0)))) (fun x1=>(@My.pf_788 x0 x1)))))
end My
end
theorem My.myE:∀ P,My.myAs=(My.h_heap_39 P).map (·.1):=fun _=>by kernel_rfl
set_option maxRecDepth 100000
set_option maxHeartbeats 4000000
namespace OD
open PySem PySem.Spec PyProof.Rows L2
abbrev St:=L2.St
noncomputable def Zx (X:Cx):Hp:=if X.stack.length=X.outer.length∨X.fn ""=false then (fun _=>none) else X.H₀
theorem eV {CX:CXT} {P:Program} {w:World} {K:PySem.W.Frag} {mg:Str→Option Value} {base:Heap} {N:List Str} {qual:Str} {scope:Scope} {f:Addr} {cd:Value} {A:Around} {outer:List Env} {s:Shared} {H:Hp} {E:XK}:Zx (yF CX P w K mg base N qual scope f cd A outer s H E)=H:=if_neg (fun z=>z.elim (Nat.succ_ne_self _) (fun z=>Bool.noConfusion z))
theorem rj {X:Cx} (h:X.stack.length≠X.outer.length) (hf:X.fn ""=true:=by rfl):Zx X=X.H₀:=if_neg (fun z=>z.elim h (fun z=>by rw [hf] at z; cases z))
variable {Z:Hp}
inductive Dt where
 | non | bl (b:Bool) | int (i:Int) | str (x:Str) | tup (ds:List Dt) | lst (ds:List Dt) | scr (ns:List Int) | way (C:Addr) (f:Str) (n:Int) | exc (C:Addr)
def YR (a C:Addr):Heap→Prop:=fun h=>∃ o,h.get? a=some o∧o.cls=.ref C
mutual
def Is (K:PySem.W.Frag) (H:Hp):Dt→V→Prop
 | .non,v=>v=.non
 | .bl b,v=>v=.bl b
 | .int i,v=>v=.int i
 | .str x,v=>v=.str x
 | .tup ds,v=>∃ a xs,v=.ref a∧H a=some (.tup xs)∧AllIs K H ds xs
 | .lst ds,v=>∃ a xs,v=.ref a∧H a=some (.lst xs)∧AllIs K H ds xs
 | .scr ns,v=>∃ a,v=.ref a∧SqL K H a (ns.map V.int)
 | .way C f n,v=>∃ a dx,v=.ref a∧H a=some (.ins C dx [(f,.int n)])
 | .exc C,v=>∃ a,v=.ref a∧H a=some (.ext (YR a C))
def AllIs (K:PySem.W.Frag) (H:Hp):List Dt→List V→Prop
 | [],xs=>xs=[]
 | d::ds,xs=>∃ x r,xs=x::r∧Is K H d x∧AllIs K H ds r
end
variable {K:PySem.W.Frag} {H H' H1 H2:Hp}
theorem is_non {v:V}:Is K H .non v↔v=.non:=by unfold Is; exact Iff.rfl
theorem is_bl {b:Bool} {v:V}:Is K H (.bl b) v↔v=.bl b:=by unfold Is; exact Iff.rfl
theorem is_int {i:Int} {v:V}:Is K H (.int i) v↔v=.int i:=by unfold Is; exact Iff.rfl
theorem is_str {x:Str} {v:V}:Is K H (.str x) v↔v=.str x:=by unfold Is; exact Iff.rfl
theorem is_tup {ds:List Dt} {v:V}:Is K H (.tup ds) v↔∃ a xs,v=.ref a∧H a=some (.tup xs)∧AllIs K H ds xs:=by
 constructor
 ·intro h; unfold Is at h; exact h
 ·intro h; unfold Is; exact h
theorem is_lst {ds:List Dt} {v:V}:Is K H (.lst ds) v↔∃ a xs,v=.ref a∧H a=some (.lst xs)∧AllIs K H ds xs:=by
 constructor
 ·intro h; unfold Is at h; exact h
 ·intro h; unfold Is; exact h
theorem is_scr {ns:List Int} {v:V}:Is K H (.scr ns) v↔∃ a,v=.ref a∧SqL K H a (ns.map V.int):=by
 constructor
 ·intro h; unfold Is at h; exact h
 ·intro h; unfold Is; exact h
theorem is_way {C:Addr} {f:Str} {n:Int} {v:V}:Is K H (.way C f n) v↔∃ a dx,v=.ref a∧H a=some (.ins C dx [(f,.int n)]):=by
 constructor
 ·intro h; unfold Is at h; exact h
 ·intro h; unfold Is; exact h
theorem is_exc {C:Addr} {v:V}:Is K H (.exc C) v↔∃ a,v=.ref a∧H a=some (.ext (YR a C)):=by
 constructor
 ·intro h; unfold Is at h; exact h
 ·intro h; unfold Is; exact h
theorem allIs_nil {xs:List V}:AllIs K H [] xs↔xs=[]:=by unfold AllIs; exact Iff.rfl
theorem allIs_cons {d:Dt} {ds:List Dt} {xs:List V}:AllIs K H (d::ds) xs↔∃ x r,xs=x::r∧Is K H d x∧AllIs K H ds r:=by
 constructor
 ·intro h; unfold AllIs at h; exact h
 ·intro h; unfold AllIs; exact h
mutual
theorem Is.mono0 (s:Same H H'):∀ {d:Dt} {v:V},Is K H d v→Is K H' d v
 | .non,_,h=>is_non.mpr (is_non.mp h)
 | .bl _,_,h=>is_bl.mpr (is_bl.mp h)
 | .int _,_,h=>is_int.mpr (is_int.mp h)
 | .str _,_,h=>is_str.mpr (is_str.mp h)
 | .tup ds,_,h=>by
  obtain ⟨a,xs,e,h1,h2⟩:=is_tup.mp h
  exact is_tup.mpr ⟨a,xs,e,s _ _ h1,AllIs.mono0 s h2⟩
 | .lst ds,_,h=>by
  obtain ⟨a,xs,e,h1,h2⟩:=is_lst.mp h
  exact is_lst.mpr ⟨a,xs,e,s _ _ h1,AllIs.mono0 s h2⟩
 | .scr ns,_,h=>by
  obtain ⟨a,e,h1⟩:=is_scr.mp h
  exact is_scr.mpr ⟨a,e,s.seq h1⟩
 | .way C f n,_,h=>by
  obtain ⟨a,dx,e,h1⟩:=is_way.mp h
  exact is_way.mpr ⟨a,dx,e,s _ _ h1⟩
 | .exc C,_,h=>by
  obtain ⟨a,e,h1⟩:=is_exc.mp h
  exact is_exc.mpr ⟨a,e,s _ _ h1⟩
theorem AllIs.mono0 (s:Same H H'):∀ {ds:List Dt} {xs:List V},AllIs K H ds xs→AllIs K H' ds xs
 | [],_,h=>allIs_nil.mpr (allIs_nil.mp h)
 | d::ds,_,h=>by
  obtain ⟨x,r,e,h1,h2⟩:=allIs_cons.mp h
  exact allIs_cons.mpr ⟨x,r,e,Is.mono0 s h1,AllIs.mono0 s h2⟩
end
theorem AllIs.length:∀ {ds:List Dt} {xs:List V},AllIs K H ds xs→ds.length=xs.length
 | [],_,h=>by rw [allIs_nil.mp h]; rfl
 | d::ds,_,h=>by
  obtain ⟨x,r,rfl,_,h2⟩:=allIs_cons.mp h
  rw [List.length_cons,List.length_cons,AllIs.length h2]
theorem AllIs.get:∀ {ds:List Dt} {xs:List V} {i:Nat} {d:Dt},AllIs K H ds xs→ds[i]? = some d→∃ v,xs[i]? = some v∧Is K H d v
 | [],_,_,_,_,e=>by simp at e
 | d::ds,_,0,d',h,e=>by
  obtain ⟨x,r,rfl,h1,h2⟩:=allIs_cons.mp h
  simp at e; subst e
  exact ⟨x,rfl,h1⟩
 | d::ds,_,i+1,d',h,e=>by
  obtain ⟨x,r,rfl,h1,h2⟩:=allIs_cons.mp h
  obtain ⟨v,e1,e2⟩:=AllIs.get (i:=i) h2 (by simpa using e)
  exact ⟨v,by simpa using e1,e2⟩
theorem AllIs.get':∀ {ds:List Dt} {xs:List V} {i:Nat} {v:V},AllIs K H ds xs→xs[i]? = some v→∃ d,ds[i]? = some d∧Is K H d v
 | [],_,_,_,h,e=>by rw [allIs_nil.mp h] at e; simp at e
 | d::ds,_,0,v,h,e=>by
  obtain ⟨x,r,rfl,h1,h2⟩:=allIs_cons.mp h
  simp at e; subst e
  exact ⟨d,rfl,h1⟩
 | d::ds,_,i+1,v,h,e=>by
  obtain ⟨x,r,rfl,h1,h2⟩:=allIs_cons.mp h
  obtain ⟨v,e1,e2⟩:=AllIs.get' (i:=i) h2 (by simpa using e)
  exact ⟨v,by simpa using e1,e2⟩
theorem AllIs.append:∀ {ds es:List Dt} {xs ys:List V},AllIs K H ds xs→AllIs K H es ys→AllIs K H (ds++es) (xs++ys)
 | [],_,_,_,h,h'=>by rw [allIs_nil.mp h]; exact h'
 | d::ds,_,_,_,h,h'=>by
  obtain ⟨x,r,rfl,h1,h2⟩:=allIs_cons.mp h
  exact allIs_cons.mpr ⟨x,_,rfl,h1,AllIs.append h2 h'⟩
theorem AllIs.drop:∀ {ds:List Dt} {xs:List V} (n:Nat),AllIs K H ds xs→AllIs K H (ds.drop n) (xs.drop n)
 | _,_,0,h=>h
 | [],_,n+1,h=>by rw [allIs_nil.mp h]; exact allIs_nil.mpr rfl
 | d::ds,_,n+1,h=>by
  obtain ⟨x,r,rfl,h1,h2⟩:=allIs_cons.mp h
  exact AllIs.drop n h2
theorem AllIs.take:∀ {ds:List Dt} {xs:List V} (n:Nat),AllIs K H ds xs→AllIs K H (ds.take n) (xs.take n)
 | _,_,0,_=>allIs_nil.mpr rfl
 | [],_,n+1,h=>by rw [allIs_nil.mp h]; exact allIs_nil.mpr rfl
 | d::ds,_,n+1,h=>by
  obtain ⟨x,r,rfl,h1,h2⟩:=allIs_cons.mp h
  exact allIs_cons.mpr ⟨x,_,rfl,h1,AllIs.take n h2⟩
theorem AllIs.ints:∀ {ns:List Int},AllIs K H (ns.map Dt.int) (ns.map V.int)
 | []=>allIs_nil.mpr rfl
 | n::ns=>allIs_cons.mpr ⟨.int n,_,rfl,is_int.mpr rfl,AllIs.ints⟩
theorem AllIs.atI {ds:List Dt} {xs:List V} {i:Int} {d:Dt} (h:AllIs K H ds xs) (e:L2.atI ds i=some d):∃ v,L2.atI xs i=some v∧Is K H d v:=by
 unfold L2.atI at e ⊢
 rw [← h.length]
 cases q:ixN ds.length i with
 | none=>rw [q] at e; cases e
 | some j=>
  rw [q] at e
  exact h.get e
theorem AllIs.one {d:Dt} {xs:List V} (h:AllIs K H [d] xs):∃ v,xs=[v]∧Is K H d v:=by
 obtain ⟨x,r,rfl,h1,h2⟩:=allIs_cons.mp h
 rw [allIs_nil.mp h2]
 exact ⟨x,rfl,h1⟩
theorem AllIs.two {d e:Dt} {xs:List V} (h:AllIs K H [d,e] xs):∃ v u,xs=[v,u]∧Is K H d v∧Is K H e u:=by
 obtain ⟨x,r,rfl,h1,h2⟩:=allIs_cons.mp h
 obtain ⟨u,rfl,h3⟩:=h2.one
 exact ⟨x,u,rfl,h1,h3⟩
theorem zU {p:Addr} (h:H p=none) (o:HO):Same H (upd H p o):=fun b u q=>by rw [zy (z7 q h)]; exact q
structure Vw where
 g:Hp
 h:Hp
 sub:Same g h
structure Le (W W':Vw):Prop where
 g:Same W.g W'.g
 h:Same W.h W'.h
 n:∀ a,W.h a≠none→W.g a=none→W'.g a=none
theorem Le.refl (W:Vw):Le W W:=⟨Same.refl _,Same.refl _,fun _ _ h=>h⟩
theorem Le.trans {W W1 W2:Vw} (a:Le W W1) (b:Le W1 W2):Le W W2:=
 ⟨a.g.trans b.g,a.h.trans b.h,fun c h1 h2=>b.n c (fun z=>h1 (a.h.free z)) (a.n c h1 h2)⟩
theorem Is.mono {W W':Vw} {d:Dt} {v:V} (h:Is K W.g d v) (s:Le W W'):Is K W'.g d v:=Is.mono0 s.g h
theorem AllIs.mono {W W':Vw} {d:List Dt} {v:List V} (h:AllIs K W.g d v) (s:Le W W'):AllIs K W'.g d v:=AllIs.mono0 s.g h
def Vw.new (W:Vw) (p:Addr) (o:HO):Vw:=⟨upd W.g p o,upd W.h p o,fun b u q=>by
 by_cases e:b=p
 ·subst e; rw [zx] at q ⊢; exact q
 ·rw [zy e] at q ⊢; exact W.sub _ _ q⟩
theorem qo {W:Vw} {p:Addr} (hp:W.h p=none) (o:HO):Le W (W.new p o):=
 ⟨zU (W.sub.free hp) o,zU hp o,fun a h1 h2=>by
  have:a≠p:=fun e=>h1 (e ▸ hp)
  show upd W.g p o a=none
  rw [zy this]; exact h2⟩
def Vw.mine (W:Vw) (p:Addr) (o:HO) (hp:W.g p=none):Vw:=⟨W.g,upd W.h p o,fun b u q=>by
 have:b≠p:=fun e=>by rw [e,hp] at q; cases q
 rw [zy this]; exact W.sub _ _ q⟩
theorem sZ {W:Vw} {p:Addr} (hp:W.h p=none) (o:HO):Le W (W.mine p o (W.sub.free hp)):=
 ⟨Same.refl _,zU hp o,fun _ _ h=>h⟩
def Vw.frz (W:Vw) (p:Addr) (o:HO) (hp:W.h p=some o):Vw:=⟨upd W.g p o,W.h,fun b u q=>by
 by_cases e:b=p
 ·subst e; rw [zx] at q; rw [hp]; exact q
 ·rw [zy e] at q; exact W.sub _ _ q⟩
inductive Sl where | none | some (d:Dt) | own (ds:List Dt) | arg (a:Addr) (ds:List Dt)
abbrev DS:=List Sl
structure Rl (K:PySem.W.Frag) (Z F:Hp) (W:Vw) (ρ:DS) (σ:St):Prop where
 len:ρ.length=σ.length
 at_:∀ (i:Nat) (d:Dt),ρ[i]? = some (.some d)→∃ v,σ[i]? = some (some v)∧Is K W.g d v
 ow:∀ (i:Nat) (ds:List Dt),ρ[i]? = some (.own ds)→∃ a xs,σ[i]? = some (some (.ref a))∧W.h a=some (.lst xs)∧W.g a=none∧F a=none∧AllIs K W.g ds xs
 ne:∀ (i j:Nat) (ds es:List Dt),i≠j→ρ[i]? = some (.own ds)→ρ[j]? = some (.own es)→σ[i]?≠σ[j]?
 fr:Same F W.h
 z:Same Z F
 ar:∀ (i:Nat) (a:Addr) (ds:List Dt),ρ[i]? = some (.arg a ds)→(∃ xs,σ[i]? = some (some (.ref a))∧W.h a=some (.lst xs)∧W.g a=none∧F a=none∧AllIs K W.g ds xs)∧(∀ (j:Nat) (es:List Dt),ρ[j]? = some (.own es)→σ[j]?≠some (some (.ref a)))∧∀ (j:Nat) (b:Addr) (es:List Dt),ρ[j]? = some (.arg b es)→j=i
variable {F:Hp} {W W':Vw}
theorem Rl.mono {ρ:DS} {σ:St} (r:Rl K Z F W ρ σ) (s:Le W W'):Rl K Z F W' ρ σ:=
 ⟨r.len,fun i d e=>let ⟨v,h1,h2⟩:=r.at_ i d e; ⟨v,h1,h2.mono s⟩,
  fun i ds e=>let ⟨a,xs,h1,h2,h3,h4,h5⟩:=r.ow i ds e; ⟨a,xs,h1,s.h _ _ h2,s.n a (by rw [h2]; intro z; cases z) h3,h4,h5.mono s⟩,r.ne,r.fr.trans s.h,r.z,
  fun i a ds e=>let ⟨⟨xs,h1,h2,h3,h4,h5⟩,k1,k2⟩:=r.ar i a ds e; ⟨⟨xs,h1,s.h _ _ h2,s.n a (by rw [h2]; intro z; cases z) h3,h4,h5.mono s⟩,k1,k2⟩⟩
theorem zo {α:Type} {l:List α} {i j:Nat} {x y:α} (q:(l.set i x)[j]? = some y):(i=j∧i<l.length∧x=y)∨(i≠j∧l[j]? = some y):=by
 by_cases hij:i=j
 ·subst hij
  by_cases hl:i<l.length
  ·rw [List.getElem?_set_self hl] at q
   exact .inl ⟨rfl,hl,Option.some.inj q⟩
  ·rw [List.getElem?_eq_none (by rw [List.length_set]; omega)] at q
   cases q
 ·rw [List.getElem?_set_ne hij] at q
  exact .inr ⟨hij,q⟩
theorem Rl.set {ρ:DS} {σ:St} (r:Rl K Z F W ρ σ) {d:Dt} {v:V} (i:Nat) (h:Is K W.g d v):Rl K Z F W (ρ.set i (.some d)) (σ.set i (some v)):=by
 refine ⟨by rw [List.length_set,List.length_set]; exact r.len,fun j e q=>?_,fun j ds q=>?_,fun j k ds es hjk q1 q2=>?_,r.fr,r.z,fun j a ds q=>?_⟩
 ·rcases zo q with ⟨rfl,hl,e1⟩ | ⟨hij,q⟩
  ·cases e1
   exact ⟨v,by rw [List.getElem?_set_self (by rw [← r.len]; exact hl)],h⟩
  ·rw [List.getElem?_set_ne hij]
   exact r.at_ j e q
 ·rcases zo q with ⟨_,_,e1⟩ | ⟨hij,q⟩
  ·cases e1
  ·rw [List.getElem?_set_ne hij]
   exact r.ow j ds q
 ·rcases zo q1 with ⟨_,_,e1⟩ | ⟨hij,q1⟩
  ·cases e1
  rcases zo q2 with ⟨_,_,e1⟩ | ⟨hik,q2⟩
  ·cases e1
  rw [List.getElem?_set_ne hij,List.getElem?_set_ne hik]
  exact r.ne j k ds es hjk q1 q2
 ·rcases zo q with ⟨_,_,e1⟩ | ⟨hij,q⟩
  ·cases e1
  obtain ⟨⟨xs,h1,h2⟩,k1,k2⟩:=r.ar j a ds q
  refine ⟨⟨xs,by rw [List.getElem?_set_ne hij]; exact h1,h2⟩,fun k es q'=>?_,fun k c es q'=>?_⟩
  ·rcases zo q' with ⟨_,_,e1⟩ | ⟨hik,q'⟩
   ·cases e1
   rw [List.getElem?_set_ne hik]
   exact k1 k es q'
  ·rcases zo q' with ⟨_,_,e1⟩ | ⟨hik,q'⟩
   ·cases e1
   exact k2 k c es q'
theorem Rl.own {ρ:DS} {σ:St} (r:Rl K Z F W ρ σ) (s:Le W W') {p:Addr} {xs:List V} {ds:List Dt} (i:Nat) (h0:W.h p=none) (h1:W'.h p=some (.lst xs)) (h2:W'.g p=none) (h3:AllIs K W'.g ds xs):
  Rl K Z F W' (ρ.set i (.own ds)) (σ.set i (some (.ref p))):=by
 have r':=r.mono s
 have nep:∀ (j:Nat) (es:List Dt),ρ[j]? = some (Sl.own es)→σ[j]?≠some (some (V.ref p)):=fun j es q z=>by
  obtain ⟨a,ys,e1,e2,_⟩:=r.ow j es q
  rw [z] at e1
  cases e1
  rw [h0] at e2
  cases e2
 refine ⟨by rw [List.length_set,List.length_set]; exact r.len,fun j e q=>?_,fun j es q=>?_,fun j k es es' hjk q1 q2=>?_,r'.fr,r.z,fun j a fs q=>?_⟩
 ·rcases zo q with ⟨_,_,e1⟩ | ⟨hij,q⟩
  ·cases e1
  ·rw [List.getElem?_set_ne hij]
   exact r'.at_ j e q
 ·rcases zo q with ⟨rfl,hl,e1⟩ | ⟨hij,q⟩
  ·cases e1
   exact ⟨p,xs,by rw [List.getElem?_set_self (by rw [← r.len]; exact hl)],h1,h2,r.fr.free h0,h3⟩
  ·rw [List.getElem?_set_ne hij]
   exact r'.ow j es q
 ·rcases zo q1 with ⟨rfl,hl,e1⟩ | ⟨hij,q1⟩
  ·rcases zo q2 with ⟨rfl,_,_⟩ | ⟨hik,q2⟩
   ·exact absurd rfl hjk
   ·rw [List.getElem?_set_self (by rw [← r.len]; exact hl),List.getElem?_set_ne hik]
    exact fun z=>nep k es' q2 z.symm
  ·rcases zo q2 with ⟨rfl,hl,_⟩ | ⟨hik,q2⟩
   ·rw [List.getElem?_set_self (by rw [← r.len]; exact hl),List.getElem?_set_ne hij]
    exact nep j es q1
   ·rw [List.getElem?_set_ne hij,List.getElem?_set_ne hik]
    exact r.ne j k es es' hjk q1 q2
 ·rcases zo q with ⟨_,_,e1⟩ | ⟨hij,q⟩
  ·cases e1
  obtain ⟨⟨ys,g1,g2⟩,k1,k2⟩:=r'.ar j a fs q
  obtain ⟨⟨_,_,g3,_⟩,_,_⟩:=r.ar j a fs q
  refine ⟨⟨ys,by rw [List.getElem?_set_ne hij]; exact g1,g2⟩,fun k es q'=>?_,fun k c es q'=>?_⟩
  ·rcases zo q' with ⟨rfl,hl,e1⟩ | ⟨hik,q'⟩
   ·rw [List.getElem?_set_self (by rw [← r.len]; exact hl)]
    intro z
    cases z
    rw [h0] at g3
    cases g3
   ·rw [List.getElem?_set_ne hik]
    exact k1 k es q'
  ·rcases zo q' with ⟨_,_,e1⟩ | ⟨hik,q'⟩
   ·cases e1
   exact k2 k c es q'
theorem Rl.put {ρ:DS} {σ:St} (r:Rl K Z F W ρ σ) {i:Nat} {ds es:List Dt} {a:Addr} {ys:List V} (hi:ρ[i]? = some (.own ds)) (ha:σ[i]? = some (some (.ref a))) (hg:W.g a=none) (hF:F a=none) (h3:AllIs K W.g es ys):
  Rl K Z F (W.mine a (.lst ys) hg) (ρ.set i (.own es)) σ:=by
 have hl:i<ρ.length:=by
  rcases Nat.lt_or_ge i ρ.length with h | h
  ·exact h
  ·rw [List.getElem?_eq_none h] at hi; cases hi
 have other:∀ j fs,j≠i→ρ[j]? = some (.own fs)→σ[j]?≠some (some (.ref a)):=fun j fs hj q z=>r.ne j i fs ds hj q hi (z.trans ha.symm)
 refine ⟨by rw [List.length_set]; exact r.len,fun j e q=>?_,fun j fs q=>?_,fun j k fs fs' hjk q1 q2=>?_,fun p o q=>?_,r.z,fun j c fs q=>?_⟩
 ·rcases zo q with ⟨_,_,e1⟩ | ⟨hij,q⟩
  ·cases e1
  ·exact r.at_ j e q
 ·rcases zo q with ⟨rfl,_,e1⟩ | ⟨hij,q⟩
  ·cases e1
   exact ⟨a,ys,ha,zx,hg,hF,h3⟩
  ·obtain ⟨b,xs,e1,e2,e3,e4,e5⟩:=r.ow j fs q
   have hb:b≠a:=fun z=>other j fs (fun z=>hij z.symm) q (z ▸ e1)
   exact ⟨b,xs,e1,(zy hb).trans e2,e3,e4,e5⟩
 ·have k1:∃ gs,ρ[j]? = some (.own gs):=by
   rcases zo q1 with ⟨rfl,_,_⟩ | ⟨_,q⟩
   ·exact ⟨_,hi⟩
   ·exact ⟨_,q⟩
  have k2:∃ gs,ρ[k]? = some (.own gs):=by
   rcases zo q2 with ⟨rfl,_,_⟩ | ⟨_,q⟩
   ·exact ⟨_,hi⟩
   ·exact ⟨_,q⟩
  obtain ⟨_,k1⟩:=k1
  obtain ⟨_,k2⟩:=k2
  exact r.ne j k _ _ hjk k1 k2
 ·have e:p≠a:=fun e=>by rw [e,hF] at q; cases q
  exact (zy (H:=W.h) (o:=.lst ys) e).trans (r.fr p o q)
 ·rcases zo q with ⟨_,_,e1⟩ | ⟨hij,q⟩
  ·cases e1
  obtain ⟨⟨ys',g1,g2,g3,g4,g5⟩,k1,k2⟩:=r.ar j c fs q
  have hc:c≠a:=fun z=>k1 i ds hi (by rw [z]; exact ha)
  refine ⟨⟨ys',g1,(zy hc).trans g2,g3,g4,g5⟩,fun k es' q'=>?_,fun k c' es' q'=>?_⟩
  ·rcases zo q' with ⟨rfl,_,_⟩ | ⟨_,q'⟩
   ·exact k1 i ds hi
   ·exact k1 k es' q'
  ·rcases zo q' with ⟨_,_,e1⟩ | ⟨hik,q'⟩
   ·cases e1
   exact k2 k c' es' q'
theorem Rl.frz {ρ:DS} {σ:St} (r:Rl K Z F W ρ σ) {i:Nat} {ds:List Dt} {a:Addr} {xs:List V} (hi:ρ[i]? = some (.own ds)) (ha:σ[i]? = some (some (.ref a))) (hh:W.h a=some (.lst xs)) (hg:W.g a=none) (h3:AllIs K W.g ds xs):
  Rl K Z F (W.frz a _ hh) (ρ.set i (.some (.lst ds))) σ:=by
 have sg:Same W.g (upd W.g a (.lst xs)):=zU hg _
 have other:∀ j fs,j≠i→ρ[j]? = some (.own fs)→σ[j]?≠some (some (.ref a)):=fun j fs hj q z=>r.ne j i fs ds hj q hi (z.trans ha.symm)
 refine ⟨by rw [List.length_set]; exact r.len,fun j e q=>?_,fun j fs q=>?_,fun j k fs fs' hjk q1 q2=>?_,r.fr,r.z,fun j c fs q=>?_⟩
 ·rcases zo q with ⟨rfl,_,e1⟩ | ⟨hij,q⟩
  ·cases e1
   exact ⟨_,ha,is_lst.mpr ⟨a,xs,rfl,zx,AllIs.mono0 sg h3⟩⟩
  ·obtain ⟨v,e1,e2⟩:=r.at_ j e q
   exact ⟨v,e1,Is.mono0 sg e2⟩
 ·rcases zo q with ⟨_,_,e1⟩ | ⟨hij,q⟩
  ·cases e1
  ·obtain ⟨b,ys,e1,e2,e3,e4,e5⟩:=r.ow j fs q
   have hb:b≠a:=fun z=>other j fs (fun z=>hij z.symm) q (z ▸ e1)
   exact ⟨b,ys,e1,e2,(zy hb).trans e3,e4,AllIs.mono0 sg e5⟩
 ·rcases zo q1 with ⟨_,_,e1⟩ | ⟨_,q1⟩
  ·cases e1
  rcases zo q2 with ⟨_,_,e1⟩ | ⟨_,q2⟩
  ·cases e1
  exact r.ne j k _ _ hjk q1 q2
 ·rcases zo q with ⟨_,_,e1⟩ | ⟨hij,q⟩
  ·cases e1
  obtain ⟨⟨ys',g1,g2,g3,g4,g5⟩,k1,k2⟩:=r.ar j c fs q
  have hc:c≠a:=fun z=>k1 i ds hi (by rw [z]; exact ha)
  refine ⟨⟨ys',g1,g2,(zy hc).trans g3,g4,AllIs.mono0 sg g5⟩,fun k es' q'=>?_,fun k c' es' q'=>?_⟩
  ·rcases zo q' with ⟨_,_,e1⟩ | ⟨_,q'⟩
   ·cases e1
   ·exact k1 k es' q'
  ·rcases zo q' with ⟨_,_,e1⟩ | ⟨hik,q'⟩
   ·cases e1
   exact k2 k c' es' q'
def yB (n:Nat) (ds:List Dt):DS:=ds.map Sl.some++List.replicate (n - ds.length) Sl.none
theorem Rl.start {N:List Str} {ds:List Dt} {vs:List V} (h:AllIs K W.g ds vs) (hz:Same Z W.h):Rl K Z W.h W (yB N.length ds) (L2.start N vs):=by
 have hl:=h.length
 have cls:∀ (i:Nat) (y:Sl),(yB N.length ds)[i]? = some y→(∃ d,ds[i]? = some d∧y=.some d)∨y=.none:=fun i y e=>by
  unfold yB at e
  by_cases hi:i<ds.length
  ·rw [List.getElem?_append_left (by rw [List.length_map]; exact hi),List.getElem?_map] at e
   cases q:ds[i]? with
   | none=>rw [q] at e; cases e
   | some d'=>
    rw [q] at e
    exact .inl ⟨d',rfl,(Option.some.inj e).symm⟩
  ·rw [List.getElem?_append_right (by rw [List.length_map]; omega),List.getElem?_replicate] at e
   split at e
   ·exact .inr (Option.some.inj e).symm
   ·cases e
 refine ⟨by unfold L2.start yB; rw [List.length_append,List.length_append,List.length_map,List.length_map,List.length_replicate,List.length_replicate,hl],fun i d e=>?_,fun i es e=>?_,fun i j es fs _ e _=>?_,Same.refl _,hz,fun i a es e=>?_⟩
 ·rcases cls i _ e with ⟨d',q,e1⟩ | e1
  ·cases e1
   obtain ⟨v,h1,h2⟩:=h.get q
   refine ⟨v,?_,h2⟩
   have hi:i<ds.length:=by
    rcases Nat.lt_or_ge i ds.length with h | h
    ·exact h
    ·rw [List.getElem?_eq_none h] at q; cases q
   unfold L2.start
   rw [List.getElem?_append_left (by rw [List.length_map,← hl]; exact hi),List.getElem?_map,h1]
   rfl
  ·cases e1
 ·rcases cls i _ e with ⟨d',q,e1⟩ | e1
  ·cases e1
  ·cases e1
 ·rcases cls i _ e with ⟨d',q,e1⟩ | e1
  ·cases e1
  ·cases e1
 ·rcases cls i _ e with ⟨d',q,e1⟩ | e1
  ·cases e1
  ·cases e1
abbrev DTE:=DS→(Dt→Prop)→Prop
abbrev DTT:=DS→(Bool→Prop)→Prop
abbrev DTA:=DS→(List Dt→Prop)→Prop
def LiE (K:PySem.W.Frag) (Z:Hp) (te:TE) (t:DTE):Prop:=
 ∀ {F:Hp} (ρ:DS) (σ:St) (H:Vw) (Q:Dt→Prop),Rl K Z F H ρ σ→t ρ Q→∀ R:VK,(∀ d v H',Le H H'→Is K H'.g d v→Q d→R v H'.h)→te σ H.h R
def LiT (K:PySem.W.Frag) (Z:Hp) (te:TT) (t:DTT):Prop:=
 ∀ {F:Hp} (ρ:DS) (σ:St) (H:Vw) (Q:Bool→Prop),Rl K Z F H ρ σ→t ρ Q→∀ R:Bool→Hp→Prop,(∀ d H',Le H H'→Q d→R d H'.h)→te σ H.h R
def LiA (K:PySem.W.Frag) (Z:Hp) (te:TA) (t:DTA):Prop:=
 ∀ {F:Hp} (ρ:DS) (σ:St) (H:Vw) (Q:List Dt→Prop),Rl K Z F H ρ σ→t ρ Q→∀ R:List V→Hp→Prop,(∀ d v H',Le H H'→AllIs K H'.g d v→Q d→R v H'.h)→te σ H.h R
def DE (X:Cx) (e:Expr) (t:DTE):Prop:=∃ te,PE X e te∧LiE X.K (Zx X) te t
def DT (X:Cx) (e:Expr) (t:DTT):Prop:=∃ te,PT X e te∧LiT X.K (Zx X) te t
def DW (X:Cx) (e:Expr) (t:DTT):Prop:=∃ te,PW X e te∧LiT X.K (Zx X) te t
def DA (X:Cx) (es:List Expr) (t:DTA):Prop:=∃ te,PA X es te∧LiA X.K (Zx X) te t
theorem DW.dt {X:Cx} {e:Expr} {t:DTT} (h:DW X e t):DT X e t:=let ⟨te,h1,h2⟩:=h; ⟨te,h1.pt,h2⟩
def eM (i:Nat):DTE:=fun ρ Q=>∃ d,ρ[i]? = some (.some d)∧Q d
def dC (d:Dt):DTE:=fun _ Q=>Q d
section
variable {X:Cx} {a b c:Expr} {ta tb tc:DTE} {pos:Pos}
theorem dv (i:Nat) {x:Str} {pos:Pos} (hN:X.N[i]? = some x:=by rfl) (hv:Vis X.env.scope x:=by first | exact Or.inl rfl | exact Or.inr (Or.inl rfl) | exact Or.inr (Or.inr rfl)) (hd:(x == ("__debug__":Str))=false:=by decide)
  (hcd:(x == ("__classdict__":Str))=false:=by decide):DE X (.Name x pos) (eM i):=
 ⟨aE i,yo hN hv hd hcd,fun ρ σ H Q r h R k=>by
  obtain ⟨d,e,q⟩:=h
  obtain ⟨v,h1,h2⟩:=r.at_ i d e
  exact ⟨v,h1,k d v H (Le.refl H) h2 q⟩⟩
theorem lic {v:V} {d:Dt} (h:∀ H:Vw,Is K H.g d v):LiE K Z (tC v) (dC d):=fun ρ σ H Q r q R k=>k d v H (Le.refl H) (h H) q
theorem zd {i j pos}:DE X (.Constant (.int i) j pos) (dC (.int i)):=⟨_,d6,lic fun _=>is_int.mpr rfl⟩
theorem vc {b j pos}:DE X (.Constant (.bool b) j pos) (dC (.bl b)):=⟨_,Ub,lic fun _=>is_bl.mpr rfl⟩
theorem Vs {j pos}:DE X (.Constant .none j pos) (dC .non):=⟨_,XI,lic fun _=>is_non.mpr rfl⟩
theorem qy {x j pos}:DE X (.Constant (.str x) j pos) (dC (.str x)):=⟨_,XF,lic fun _=>is_str.mpr rfl⟩
def DOp (X:Cx) (f:Value→Value→Sem Value) (g:Dt→Dt→(Dt→Prop)→Prop):Prop:=
 ∃ r,OpR X f r∧∀ (H:Vw) (x y:V) (d e:Dt) (Q:Dt→Prop),Is X.K H.g d x→Is X.K H.g e y→g d e Q→∀ R:VK,(∀ d v H',Le H H'→Is X.K H'.g d v→Q d→R v H'.h)→r x y H.h R
def dOp (g:Dt→Dt→(Dt→Prop)→Prop) (ta tb:DTE):DTE:=fun ρ Q=>ta ρ fun d=>tb ρ fun e=>g d e Q
theorem W5 {te tf:TE} {r:R2} {g:Dt→Dt→(Dt→Prop)→Prop} (ha:LiE K Z te ta) (hb:LiE K Z tf tb)
  (hg:∀ (H:Vw) (x y:V) (d e:Dt) (Q:Dt→Prop),Is K H.g d x→Is K H.g e y→g d e Q→∀ R:VK,(∀ d v H',Le H H'→Is K H'.g d v→Q d→R v H'.h)→r x y H.h R):LiE K Z (tOp r te tf) (dOp g ta tb):=
 fun ρ σ H Q rl h R k=>ha ρ σ H _ rl h _ fun d v H1 s1 i1 q1=>hb ρ σ H1 _ (rl.mono s1) q1 _ fun e u H2 s2 i2 q2=>
  hg H2 v u d e Q (i1.mono s2) i2 q2 R fun d' v' H3 s3 i3 q3=>k d' v' H3 ((s1.trans s2).trans s3) i3 q3
theorem zj {op:Operator} {g:Dt→Dt→(Dt→Prop)→Prop} (ho:DOp X (binaryOp op) g) (ha:DE X a ta) (hb:DE X b tb):DE X (.BinOp a op b pos) (dOp g ta tb):=by
 obtain ⟨r,h1,h2⟩:=ho
 obtain ⟨te,p1,l1⟩:=ha
 obtain ⟨tf,p2,l2⟩:=hb
 exact ⟨_,YE h1 p1 p2,W5 l1 l2 h2⟩
theorem vb {op:CmpOp} {g:Dt→Dt→(Dt→Prop)→Prop} (ho:DOp X (compareOp op) g) (ha:DE X a ta) (hb:DE X b tb) (hm:behindInMarks op b=false):DE X (.Compare a [op] [b] pos) (dOp g ta tb):=by
 obtain ⟨r,h1,h2⟩:=ho
 obtain ⟨te,p1,l1⟩:=ha
 obtain ⟨tf,p2,l2⟩:=hb
 exact ⟨_,aY h1 p1 p2 hm,W5 l1 l2 h2⟩
def tZ (t:DTE):DTT:=fun ρ Q=>t ρ fun d=>∃ k,d=.bl k∧Q k
theorem nP {te:TE} {t:DTE} (h:LiE K Z te t):LiT K Z (df te) (tZ t):=fun ρ σ H Q r q R k=>
 h ρ σ H _ r q _ fun d v H1 s1 i1 ⟨b,e,qb⟩=>by
  subst e
  exact ⟨b,is_bl.mp i1,k b H1 s1 qb⟩
theorem zw {op:CmpOp} {g:Dt→Dt→(Dt→Prop)→Prop} (ho:DOp X (compareOp op) g) (ha:DE X a ta) (hb:DE X b tb) (hm:behindInMarks op b=false):DT X (.Compare a [op] [b] pos) (tZ (dOp g ta tb)):=by
 obtain ⟨r,h1,h2⟩:=ho
 obtain ⟨te,p1,l1⟩:=ha
 obtain ⟨tf,p2,l2⟩:=hb
 exact ⟨_,aO h1 p1 p2 hm,nP (W5 l1 l2 h2)⟩
theorem yf {e:Expr} {t:DTE} (h:DE X e t) (he:∀ yS,isTrue e X.env yS=(do let v ← yS; standAt e.pos; holding [v] (truthy v)):=by intro _; rfl):DT X e (tZ t):=by
 obtain ⟨te,p,l⟩:=h
 exact ⟨_,Xx p he,nP l⟩
def ae (g g':Dt→Dt→(Dt→Prop)→Prop) (ta tb tc:DTE):DTE:=fun ρ Q=>ta ρ fun d=>tb ρ fun e=>g d e fun z=>∃ k,z=.bl k∧(if k=true then tc ρ fun w=>g' e w Q else Q (.bl false))
theorem ZW {te tf tg:TE} {r r':R2} {g g':Dt→Dt→(Dt→Prop)→Prop} (ha:LiE K Z te ta) (hb:LiE K Z tf tb) (hc:LiE K Z tg tc)
  (hg:∀ (H:Vw) (x y:V) (d e:Dt) (Q:Dt→Prop),Is K H.g d x→Is K H.g e y→g d e Q→∀ R:VK,(∀ d v H',Le H H'→Is K H'.g d v→Q d→R v H'.h)→r x y H.h R)
  (hg':∀ (H:Vw) (x y:V) (d e:Dt) (Q:Dt→Prop),Is K H.g d x→Is K H.g e y→g' d e Q→∀ R:VK,(∀ d v H',Le H H'→Is K H'.g d v→Q d→R v H'.h)→r' x y H.h R):LiE K Z (dm r r' te tf tg) (ae g g' ta tb tc):=
 fun ρ σ H Q rl h R k=>ha ρ σ H _ rl h _ fun d v H1 s1 i1 q1=>hb ρ σ H1 _ (rl.mono s1) q1 _ fun e u H2 s2 i2 q2=>
  hg H2 v u d e _ (i1.mono s2) i2 q2 _ fun d' v' H3 s3 i3 ⟨z,ez,q3⟩=>by
   subst ez
   refine ⟨z,is_bl.mp i3,?_⟩
   cases z with
   | false=>exact k _ _ H3 ((s1.trans s2).trans s3) (is_bl.mpr rfl) q3
   | true=>exact hc ρ σ H3 _ (rl.mono ((s1.trans s2).trans s3)) q3 _ fun w x H4 s4 i4 q4=>hg' H4 u x e w Q (i2.mono (s3.trans s4)) i4 q4 R fun d5 v5 H5 s5 i5 q5=>k d5 v5 H5 (((s1.trans s2).trans (s3.trans s4)).trans s5) i5 q5
theorem bK {op op':CmpOp} {g g':Dt→Dt→(Dt→Prop)→Prop} (ho:DOp X (compareOp op) g) (ho':DOp X (compareOp op') g') (ha:DE X a ta) (hb:DE X b tb) (hc:DE X c tc)
  (hm:lastMarks [op,op'] [b,c]=false:=by with_unfolding_all rfl):DT X (.Compare a [op,op'] [b,c] pos) (tZ (ae g g' ta tb tc)):=by
 obtain ⟨r,h1,h2⟩:=ho
 obtain ⟨r',h3,h4⟩:=ho'
 obtain ⟨te,p1,l1⟩:=ha
 obtain ⟨tf,p2,l2⟩:=hb
 obtain ⟨tg,p3,l3⟩:=hc
 exact ⟨_,dM h1 h3 p1 p2 p3 hm,nP (ZW l1 l2 l3 h2 h4)⟩
variable {tA tB:DTT} {yI:List Expr}
def VF (t u:DTT):DTT:=fun ρ Q=>t ρ fun c=>if c=true then u ρ Q else Q false
def dOr (t u:DTT):DTT:=fun ρ Q=>t ρ fun c=>if c=true then Q true else u ρ Q
def Qq (t:DTT):DTT:=fun ρ Q=>t ρ fun c=>Q (!c)
theorem yN (ha:DT X a tA):DW X (.BoolOp .And [a] pos) tA:=let ⟨_,p,l⟩:=ha; ⟨_,aN p,l⟩
theorem tP (ha:DT X a tA):DW X (.BoolOp .Or [a] pos) tA:=let ⟨_,p,l⟩:=ha; ⟨_,Xv p,l⟩
theorem yO (ha:DT X a tA) (hb:DW X (.BoolOp .And (b::yI) pos) tB):DW X (.BoolOp .And (a::b::yI) pos) (VF tA tB):=by
 obtain ⟨te,p1,l1⟩:=ha
 obtain ⟨tf,p2,l2⟩:=hb
 refine ⟨_,Xw p1 p2,fun ρ σ H Q r h R k=>l1 ρ σ H _ r h _ fun c H1 s1 q1=>?_⟩
 cases c with
 | true=>exact l2 ρ σ H1 Q (r.mono s1) q1 R fun d H2 s2 q2=>k d H2 (s1.trans s2) q2
 | false=>exact k _ H1 s1 q1
theorem vL (ha:DT X a tA) (hb:DW X (.BoolOp .Or (b::yI) pos) tB):DW X (.BoolOp .Or (a::b::yI) pos) (dOr tA tB):=by
 obtain ⟨te,p1,l1⟩:=ha
 obtain ⟨tf,p2,l2⟩:=hb
 refine ⟨_,V8 p1 p2,fun ρ σ H Q r h R k=>l1 ρ σ H _ r h _ fun c H1 s1 q1=>?_⟩
 cases c with
 | false=>exact l2 ρ σ H1 Q (r.mono s1) q1 R fun d H2 s2 q2=>k d H2 (s1.trans s2) q2
 | true=>exact k _ H1 s1 q1
theorem wz (ha:DT X a tA):DT X (.UnaryOp .Not a pos) (Qq tA):=by
 obtain ⟨te,p1,l1⟩:=ha
 exact ⟨_,Xy p1,fun ρ σ H Q r h R k=>l1 ρ σ H _ r h _ fun c H1 s1 q1=>k _ H1 s1 q1⟩
def TC (ta tb:DTE):DTE:=fun ρ Q=>ta ρ fun d=>∃ c,d=.bl c∧if c=true then tb ρ Q else Q (.bl false)
def Qp (ta tb:DTE):DTE:=fun ρ Q=>ta ρ fun d=>∃ c,d=.bl c∧if c=true then Q (.bl true) else tb ρ Q
def Te (ta:DTE):DTE:=fun ρ Q=>ta ρ fun d=>∃ c,d=.bl c∧Q (.bl (!c))
theorem qz {op} {t:DTE} (h:DE X a t):DE X (.BoolOp op [a] pos) t:=let ⟨_,p,l⟩:=h; ⟨_,XG p,l⟩
theorem v9 (ha:DE X a ta) (hb:DE X (.BoolOp .And (b::yI) pos) tb):DE X (.BoolOp .And (a::b::yI) pos) (TC ta tb):=by
 obtain ⟨te,p1,l1⟩:=ha
 obtain ⟨tf,p2,l2⟩:=hb
 refine ⟨_,XN p1 p2,fun ρ σ H Q r h R k=>l1 ρ σ H _ r h _ fun d v H1 s1 i1 ⟨c,e,q1⟩=>?_⟩
 subst e
 refine ⟨c,is_bl.mp i1,?_⟩
 cases c with
 | true=>exact l2 ρ σ H1 Q (r.mono s1) q1 R fun d v H2 s2 i2 q2=>k d v H2 (s1.trans s2) i2 q2
 | false=>exact k _ _ H1 s1 (is_bl.mpr rfl) q1
theorem UX (ha:DE X a ta) (hb:DE X (.BoolOp .Or (b::yI) pos) tb):DE X (.BoolOp .Or (a::b::yI) pos) (Qp ta tb):=by
 obtain ⟨te,p1,l1⟩:=ha
 obtain ⟨tf,p2,l2⟩:=hb
 refine ⟨_,Ua p1 p2,fun ρ σ H Q r h R k=>l1 ρ σ H _ r h _ fun d v H1 s1 i1 ⟨c,e,q1⟩=>?_⟩
 subst e
 refine ⟨c,is_bl.mp i1,?_⟩
 cases c with
 | false=>exact l2 ρ σ H1 Q (r.mono s1) q1 R fun d v H2 s2 i2 q2=>k d v H2 (s1.trans s2) i2 q2
 | true=>exact k _ _ H1 s1 (is_bl.mpr rfl) q1
theorem Vr (ha:DE X a ta):DE X (.UnaryOp .Not a pos) (Te ta):=by
 obtain ⟨te,p1,l1⟩:=ha
 refine ⟨_,XH p1,fun ρ σ H Q r h R k=>l1 ρ σ H _ r h _ fun d v H1 s1 i1 ⟨c,e,q1⟩=>?_⟩
 subst e
 exact ⟨c,is_bl.mp i1,k _ _ H1 s1 (is_bl.mpr rfl) q1⟩
end
section
variable {X:Cx} {a b c:Expr} {ta tb tc:DTE} {pos:Pos}
def gI (g:Int→Int→Dt):Dt→Dt→(Dt→Prop)→Prop:=fun d e Q=>∃ i j,d=.int i∧e=.int j∧Q (g i j)
def gIC (C:Int→Int→Prop) (g:Int→Int→Dt):Dt→Dt→(Dt→Prop)→Prop:=fun d e Q=>∃ i j,d=.int i∧e=.int j∧C i j∧Q (g i j)
theorem bS {f:Value→Value→Sem Value} {g:Int→Int→Int} (h:OpR X f (rI0 fun i j=>.int (g i j))):DOp X f (gI fun i j=>.int (g i j)):=by
 refine ⟨_,h,fun H x y d e Q i1 i2 q R k=>?_⟩
 obtain ⟨i,j,rfl,rfl,q⟩:=q
 exact ⟨i,j,is_int.mp i1,is_int.mp i2,k _ _ H (Le.refl H) (is_int.mpr rfl) q⟩
theorem nY {f:Value→Value→Sem Value} {g:Int→Int→Bool} (h:OpR X f (rI0 fun i j=>.bl (g i j))):DOp X f (gI fun i j=>.bl (g i j)):=by
 refine ⟨_,h,fun H x y d e Q i1 i2 q R k=>?_⟩
 obtain ⟨i,j,rfl,rfl,q⟩:=q
 exact ⟨i,j,is_int.mp i1,is_int.mp i2,k _ _ H (Le.refl H) (is_bl.mpr rfl) q⟩
theorem ig {f:Value→Value→Sem Value} {C:Int→Int→Prop} {g:Int→Int→Int} (h:OpR X f (rI C fun i j=>.int (g i j))):DOp X f (gIC C fun i j=>.int (g i j)):=by
 refine ⟨_,h,fun H x y d e Q i1 i2 q R k=>?_⟩
 obtain ⟨i,j,rfl,rfl,hc,q⟩:=q
 exact ⟨i,j,is_int.mp i1,is_int.mp i2,hc,k _ _ H (Le.refl H) (is_int.mpr rfl) q⟩
theorem a_:OpR X (binaryOp .Mult) (rI IntMulOk fun i j=>.int (i*j)):=opI fun _ _ _ _ _ _ _ hc q=>mul_int q hc
theorem z4:DOp X (binaryOp .Add) (gI fun i j=>.int (i+j)):=bS XT
theorem zV:DOp X (binaryOp .Sub) (gI fun i j=>.int (i - j)):=bS XR
theorem z9:DOp X (binaryOp .Mult) (gIC IntMulOk fun i j=>.int (i*j)):=ig a_
theorem wq:DOp X (binaryOp .FloorDiv) (gIC gA fun i j=>.int (i.fdiv j)):=ig d9
def aA (_ j:Int):Prop:=j≠0
theorem wH:DOp X (binaryOp .Mod) (gIC aA fun i j=>.int (i.fmod j)):=ig (C:=aA) Za
theorem ah {c n:Int} (h:(n != 0 && decide (n.natAbs<1073741824))=true):gA c n:=by
 rw [Bool.and_eq_true,bne_iff_ne,decide_eq_true_iff] at h
 exact h
theorem Y_ {c n:Int} (h:(n != 0)=true):aA c n:=bne_iff_ne.mp h
theorem TD {c n:Int} (h:(decide (0≤n) && (decide (n≤1000000) && decide (c.natAbs<18446744073709551616)))=true):QD c n:=by
 rw [Bool.and_eq_true,Bool.and_eq_true,decide_eq_true_iff,decide_eq_true_iff,decide_eq_true_iff] at h
 exact h
theorem UI {c n:Int} (h:decide (n.natAbs<9223372036854775808)=true):IntMulOk c n:=by
 rw [decide_eq_true_iff] at h
 exact .of_right (intBits_le_64 (by omega) (by omega))
theorem ZV {c n:Int} (h:decide (n.natAbs<9223372036854775808)=true):IntMulOk n c:=by
 rw [decide_eq_true_iff] at h
 exact .of_left (intBits_le_64 (by omega) (by omega))
theorem mV:DOp X (compareOp .Lt) (gI fun i j=>.bl (decide (i<j))):=nY Ue
theorem Um:DOp X (compareOp .LtE) (gI fun i j=>.bl (decide (i≤j))):=nY Uf
theorem nh:DOp X (compareOp .Gt) (gI fun i j=>.bl (decide (j<i))):=nY Ug
theorem Zd:DOp X (compareOp .GtE) (gI fun i j=>.bl (decide (j≤i))):=nY Uh
def Vz (ta:DTE):DTE:=fun ρ Q=>ta ρ fun d=>∃ i,d=.int i∧Q (.int (-i))
theorem yh (ha:DE X a ta):DE X (.UnaryOp .USub a pos) (Vz ta):=by
 obtain ⟨te,p1,l1⟩:=ha
 refine ⟨_,V_ Xj p1,fun ρ σ H Q r h R k=>l1 ρ σ H _ r h _ fun d v H1 s1 i1 ⟨i,e,q1⟩=>?_⟩
 subst e
 exact ⟨i,is_int.mp i1,k _ _ H1 s1 (is_int.mpr rfl) q1⟩
def Tf:DTA:=fun _ Q=>Q []
def ge (te:DTE) (t:DTA):DTA:=fun ρ Q=>te ρ fun d=>t ρ fun ds=>Q (d::ds)
variable {es:List Expr} {t:DTA}
theorem zg:DA X [] Tf:=⟨_,yp,fun ρ σ H Q r h R k=>k [] [] H (Le.refl H) (allIs_nil.mpr rfl) h⟩
theorem zc (ha:DE X a ta) (hr:DA X es t) (hs:starEach (a::es) X.env=(false,eval a X.env)::starEach es X.env:=by rfl):DA X (a::es) (ge ta t):=by
 obtain ⟨te,p1,l1⟩:=ha
 obtain ⟨tf,p2,l2⟩:=hr
 exact ⟨_,zR p1 p2 hs,fun ρ σ H Q r h R k=>l1 ρ σ H _ r h _ fun d v H1 s1 i1 q1=>l2 ρ σ H1 _ (r.mono s1) q1 _ fun ds vs H2 s2 i2 q2=>
  k (d::ds) (v::vs) H2 (s1.trans s2) (allIs_cons.mpr ⟨v,vs,rfl,i1.mono s2,i2⟩) q2⟩
def Qi (t:DTA):DTE:=fun ρ Q=>t ρ fun ds=>Nat.ble ds.length 1000=true∧Q (.tup ds)
def Tj (t:DTA):DTE:=fun ρ Q=>t ρ fun ds=>Nat.ble ds.length 1000=true∧Q (.lst ds)
theorem zG {x1} (h:DA X es t):DE X (.Tuple es x1 pos) (Qi t):=by
 obtain ⟨te,p1,l1⟩:=h
 refine ⟨_,dW p1,fun ρ σ H Q r h R k=>l1 ρ σ H _ r h _ fun ds vs H1 s1 i1 ⟨hl,q1⟩=>⟨?_,fun p hp=>?_⟩⟩
 ·rw [← i1.length]; exact Nat.le_trans (Nat.le_of_ble_eq_true hl) (by decide)
 ·have s:=qo hp (.tup vs)
  exact k _ _ _ (s1.trans s) (is_tup.mpr ⟨p,vs,rfl,zx,i1.mono s⟩) q1
theorem yi (h:DA X es t):DE X (.List es pos) (Tj t):=by
 obtain ⟨te,p1,l1⟩:=h
 refine ⟨_,dZ p1,fun ρ σ H Q r h R k=>l1 ρ σ H _ r h _ fun ds vs H1 s1 i1 ⟨hl,q1⟩=>⟨?_,fun p hp=>?_⟩⟩
 ·rw [← i1.length]; exact Nat.le_trans (Nat.le_of_ble_eq_true hl) (by decide)
 ·have s:=qo hp (.lst vs)
  exact k _ _ _ (s1.trans s) (is_lst.mpr ⟨p,vs,rfl,zx,i1.mono s⟩) q1
def iP:Dt→Option (List Dt)
 | .tup ds=>some ds
 | .lst ds=>some ds
 | .scr ns=>some (ns.map .int)
 | _=>none
theorem kj {H:Vw} {d:Dt} {v:V} {ds:List Dt} (h:Is K H.g d v) (e:iP d=some ds):∃ a xs,v=.ref a∧(SqL K H.h a xs∨SqT K H.h a xs)∧AllIs K H.g ds xs:=by
 cases d with
 | tup es=>
  obtain rfl:es=ds:=Option.some.inj e
  obtain ⟨a,xs,rfl,h1,h2⟩:=is_tup.mp h
  exact ⟨a,xs,rfl,.inr (.of (H.sub _ _ h1)),h2⟩
 | lst es=>
  obtain rfl:es=ds:=Option.some.inj e
  obtain ⟨a,xs,rfl,h1,h2⟩:=is_lst.mp h
  exact ⟨a,xs,rfl,.inl (.of (H.sub _ _ h1)),h2⟩
 | scr ns=>
  obtain rfl:ns.map Dt.int=ds:=Option.some.inj e
  obtain ⟨a,rfl,h1⟩:=is_scr.mp h
  exact ⟨a,_,rfl,.inl (H.sub.seq h1),AllIs.ints⟩
 | _=>cases e
def dIx (ta tb:DTE):DTE:=fun ρ Q=>ta ρ fun d=>tb ρ fun e=>∃ ds i d',iP d=some ds∧e=.int i∧atI ds i=some d'∧Q d'
theorem zq (ha:DE X a ta) (hb:DE X b tb) (hs:rg b):DE X (.Subscript a b pos) (dIx ta tb):=by
 obtain ⟨te,p1,l1⟩:=ha
 obtain ⟨tf,p2,l2⟩:=hb
 refine ⟨_,d3 bq p1 p2 hs,fun ρ σ H Q r h R k=>l1 ρ σ H _ r h _ fun d v H1 s1 i1 q1=>l2 ρ σ H1 _ (r.mono s1) q1 _ fun e u H2 s2 i2 q2=>?_⟩
 obtain ⟨ds,i,d',e1,e2,e3,q⟩:=q2
 subst e2
 obtain ⟨p,xs,e4,h1,h2⟩:=kj (i1.mono s2) e1
 obtain ⟨w,e5,h3⟩:=h2.atI e3
 rcases h1 with h1 | h1
 ·exact .inl ⟨p,xs,i,w,e4,is_int.mp i2,h1,e5,k d' w H2 (s1.trans s2) h3 q⟩
 ·exact .inr (.inl ⟨p,xs,i,w,e4,is_int.mp i2,h1,e5,k d' w H2 (s1.trans s2) h3 q⟩)
def Tm (t:DTE):DTE:=fun ρ Q=>t ρ fun d=>∃ ds,iP d=some ds∧Q (.int ds.length)
theorem yr {p:Pos} (hg:Gl X "len") (hm:X.mg "len"=none) (ha:DE X a ta) (hs:starEach [a] X.env=(false,eval a X.env)::starEach [] X.env:=by rfl) (hpl:(backTo pos (starEach [] X.env)).any (·.1)=false:=by rfl):
  DE X (.Call (.Name "len" p) [a] [] pos) (Tm ta):=by
 obtain ⟨te,p1,l1⟩:=ha
 refine ⟨_,xt wD hg hm PySem.boot_len (zR p1 yp hs) (by decide) (by decide) hs hpl,fun ρ σ H Q r h R k=>l1 ρ σ H _ r h _ fun d v H1 s1 i1 ⟨ds,e,q⟩=>?_⟩
 obtain ⟨a,xs,rfl,h1,h2⟩:=kj i1 e
 exact ⟨a,xs,rfl,h1,by rw [← h2.length]; exact k _ _ H1 s1 (is_int.mpr rfl) q⟩
def iq (xs:List Dt) (lo hi:Option Int):List Dt:=(xs.drop (HT.sIx xs.length 0 lo)).take (HT.sIx xs.length xs.length hi - HT.sIx xs.length 0 lo)
theorem AllIs.cut {G:Hp} {ds:List Dt} {xs:List V} (h:AllIs K G ds xs) (lo hi:Option Int):AllIs K G (iq ds lo hi) (ip xs lo hi):=by
 unfold iq ip
 rw [← h.length]
 exact (h.drop _).take _
abbrev DTO:=DS→(Option Int→Prop)→Prop
def DO (X:Cx) (e:Option Expr) (t:DTO):Prop:=∃ te,PO X e te∧∀ {F:Hp} (ρ:DS) (σ:St) (H:Vw) (Q:Option Int→Prop),Rl X.K (Zx X) F H ρ σ→t ρ Q→∀ R:Option Int→Hp→Prop,(∀ o H',Le H H'→Q o→R o H'.h)→te σ H.h R
def Tc (t:DTE):DTO:=fun ρ Q=>t ρ fun d=>∃ i,d=.int i∧Q (some i)
theorem gb (ha:DE X a ta):DO X (some a) (Tc ta):=by
 obtain ⟨te,p1,l1⟩:=ha
 refine ⟨_,aR p1,fun ρ σ H Q r h R k=>l1 ρ σ H _ r h _ fun d v H1 s1 i1 ⟨i,e,q⟩=>?_⟩
 subst e
 exact ⟨i,is_int.mp i1,k _ H1 s1 q⟩
def wZ:Dt→Option (List Dt)
 | .lst ds=>some ds
 | .scr ns=>some (ns.map .int)
 | _=>none
theorem iV {H:Vw} {d:Dt} {v:V} {ds:List Dt} (h:Is K H.g d v) (e:wZ d=some ds):∃ a xs,v=.ref a∧SqL K H.h a xs∧AllIs K H.g ds xs:=by
 cases d with
 | lst es=>
  obtain rfl:es=ds:=Option.some.inj e
  obtain ⟨a,xs,rfl,h1,h2⟩:=is_lst.mp h
  exact ⟨a,xs,rfl,.of (H.sub _ _ h1),h2⟩
 | scr ns=>
  obtain rfl:ns.map Dt.int=ds:=Option.some.inj e
  obtain ⟨a,rfl,h1⟩:=is_scr.mp h
  exact ⟨a,_,rfl,H.sub.seq h1,AllIs.ints⟩
 | _=>cases e
def dSl (te:DTE) (tl th:DTO):DTE:=fun ρ Q=>te ρ fun d=>tl ρ fun l=>th ρ fun u=>∃ ds,wZ d=some ds∧Q (.lst (iq ds l u))
theorem bZ {lo hi:Option Expr} {tl th:DTO} {p2:Pos} (ha:DE X a ta) (hl:DO X lo tl) (hu:DO X hi th):DE X (.Subscript a (.Slice lo hi none p2) pos) (dSl ta tl th):=by
 obtain ⟨te,p1,l1⟩:=ha
 obtain ⟨tf,p2,l2⟩:=hl
 obtain ⟨tg,p3,l3⟩:=hu
 refine ⟨_,dX aF p1 p2 p3,fun ρ σ H Q r h R k=>l1 ρ σ H _ r h _ fun d v H1 s1 i1 q1=>l2 ρ σ H1 _ (r.mono s1) q1 _ fun l H2 s2 q2=>l3 ρ σ H2 _ (r.mono (s1.trans s2)) q2 _ fun u H3 s3 ⟨ds,e,q⟩=>?_⟩
 obtain ⟨a,xs,rfl,h1,h2⟩:=iV (i1.mono (s2.trans s3)) e
 refine ⟨a,xs,rfl,h1,fun p hp=>?_⟩
 have s:=qo hp (.lst (ip xs l u))
 exact k _ _ _ (((s1.trans s2).trans s3).trans s) (is_lst.mpr ⟨p,_,rfl,zx,(h2.cut l u).mono s⟩) q
end
def LiF (K:PySem.W.Frag) (Z:Hp) (te:TE) (t:DTE):Prop:=
 ∀ {F:Hp} (ρ:DS) (σ:St) (H:Vw) (Q:Dt→Prop),Rl K Z F H ρ σ→t ρ Q→∀ R:VK,
  (∀ es p xs H',Le H H'→H.h p=none→H'.h p=some (.lst xs)→H'.g p=none→AllIs K H'.g es xs→Q (.lst es)→R (.ref p) H'.h)→te σ H.h R
def DF (X:Cx) (e:Expr) (t:DTE):Prop:=∃ te,PE X e te∧LiF X.K (Zx X) te t
theorem tH {H H':Vw} {p:Addr} {o:HO} (s:Le H H') (h0:H.h p=none) (h1:H'.h p=some o) (h2:H'.g p=none):Le H (H'.frz p o h1):=
 ⟨s.g.trans (zU h2 o),s.h,fun a z1 z2=>by
  have:a≠p:=fun e=>z1 (e ▸ h0)
  show upd H'.g p o a=none
  rw [zy this]; exact s.n a z1 z2⟩
section
variable {X:Cx} {a b c e:Expr} {ta tb tc:DTE} {t:DTA} {pos p0 p1 p2:Pos} {es:List Expr}
theorem DF.de {t:DTE} (h:DF X e t):DE X e t:=by
 obtain ⟨te,p,l⟩:=h
 exact ⟨te,p,fun ρ σ H Q r h R k=>l ρ σ H Q r h R fun es q xs H' s h0 h1 h2 i z=>k (.lst es) (.ref q) (H'.frz q _ h1) (tH s h0 h1 h2) (is_lst.mpr ⟨q,xs,rfl,zx,AllIs.mono0 (zU h2 _) i⟩) z⟩
theorem vZ (h:DA X es t):DF X (.List es pos) (Tj t):=by
 obtain ⟨te,p1,l1⟩:=h
 refine ⟨_,dZ p1,fun ρ σ H Q r h R k=>l1 ρ σ H _ r h _ fun ds vs H1 s1 i1 ⟨hl,q1⟩=>⟨?_,fun p hp=>?_⟩⟩
 ·rw [← i1.length]; exact Nat.le_trans (Nat.le_of_ble_eq_true hl) (by decide)
 ·exact k ds p vs (H1.mine p (.lst vs) (H1.sub.free hp)) (s1.trans (sZ hp _)) (s1.h.free hp) zx (H1.sub.free hp) i1 q1
theorem AllIs.rep {G:Hp} {ds:List Dt} {xs:List V} (h:AllIs K G ds xs):∀ k:Nat,AllIs K G (List.replicate k ds).flatten (List.replicate k xs).flatten
 | 0=>allIs_nil.mpr rfl
 | k+1=>by
  rw [List.replicate_succ,List.replicate_succ,List.flatten_cons,List.flatten_cons]
  exact h.append (h.rep k)
def Qf:Dt→Dt→(Dt→Prop)→Prop:=fun d e Q=>∃ ds k,d=.lst ds∧e=.int k∧-16000000≤k∧k≤16000000∧ds.length*k.toNat≤16000000∧Q (.lst (List.replicate k.toNat ds).flatten)
theorem Vp (ha:DE X a ta) (hb:DE X b tb):DF X (.BinOp a .Mult b pos) (dOp Qf ta tb):=by
 obtain ⟨te,p1,l1⟩:=ha
 obtain ⟨tf,p2,l2⟩:=hb
 refine ⟨_,YE XS p1 p2,fun ρ σ H Q r h R k=>l1 ρ σ H _ r h _ fun d v H1 s1 i1 q1=>l2 ρ σ H1 _ (r.mono s1) q1 _ fun e u H2 s2 i2 q2=>?_⟩
 obtain ⟨ds,n,rfl,rfl,hn1,hn2,hl,q⟩:=q2
 obtain ⟨l,xs,rfl,h1,a1⟩:=is_lst.mp (i1.mono s2)
 refine ⟨l,n,xs,rfl,is_int.mp i2,H2.sub _ _ h1,by omega,by omega,by rw [← a1.length]; exact Nat.le_trans hl (by decide),fun p hp=>?_⟩
 exact k _ p _ (H2.mine p _ (H2.sub.free hp)) ((s1.trans s2).trans (sZ hp _)) ((s1.trans s2).h.free hp) zx (H2.sub.free hp) (a1.rep _) q
def Tk (ta:DTE):DTE:=fun ρ Q=>ta ρ fun d=>∃ ds,iP d=some ds∧Q (.lst ds)
theorem rb (hg:Gl X "list") (hm:X.mg "list"=none) (ha:DE X a ta) (hs:starEach [a] X.env=(false,eval a X.env)::starEach [] X.env:=by rfl) (hpl:(backTo pos (starEach [] X.env)).any (·.1)=false:=by rfl):
  DF X (.Call (.Name "list" p0) [a] [] pos) (Tk ta):=by
 obtain ⟨te,p1,l1⟩:=ha
 refine ⟨_,om uz hg hm PyProof.Rows.boot_list (zR p1 yp hs) (by decide) (by decide) hs hpl,fun ρ σ H Q r h R k=>l1 ρ σ H _ r h _ fun d v H1 s1 i1 ⟨ds,e,q⟩=>?_⟩
 obtain ⟨a,xs,rfl,h1,h2⟩:=kj i1 e
 exact ⟨a,xs,rfl,h1,fun p hp=>k _ p _ (H1.mine p _ (H1.sub.free hp)) (s1.trans (sZ hp _)) (s1.h.free hp) zx (H1.sub.free hp) h2 q⟩
variable {i:Nat} {x:Str}
def YW (i:Nat):DTE:=fun ρ Q=>∃ ds,ρ[i]? = some (.own ds)∧Q (.int ds.length)
theorem vB (i:Nat) (hg:Gl X "len") (hm:X.mg "len"=none) (hN:X.N[i]? = some x:=by rfl) (hv:Vis X.env.scope x:=by first | exact Or.inl rfl | exact Or.inr (Or.inl rfl) | exact Or.inr (Or.inr rfl)) (hd:(x == ("__debug__":Str))=false:=by decide)
  (hcd:(x == ("__classdict__":Str))=false:=by decide) (hs:starEach [.Name x p1] X.env=(false,eval (.Name x p1) X.env)::starEach [] X.env:=by rfl) (hpl:(backTo pos (starEach [] X.env)).any (·.1)=false:=by rfl):
  DE X (.Call (.Name "len" p0) [.Name x p1] [] pos) (YW i):=by
 refine ⟨_,xt wD hg hm PySem.boot_len (zR (yo hN hv hd hcd) yp hs) (by decide) (by decide) hs hpl,fun ρ σ H Q r h R k=>?_⟩
 obtain ⟨ds,e,q⟩:=h
 obtain ⟨a,xs,e1,e2,e3,e4,e5⟩:=r.ow i ds e
 exact ⟨.ref a,e1,a,xs,rfl,.inl (.of e2),by rw [← e5.length]; exact k _ _ H (Le.refl H) (is_int.mpr rfl) q⟩
def VC (i:Nat) (tb:DTE):DTE:=fun ρ Q=>∃ ds,ρ[i]? = some (.own ds)∧tb ρ fun e=>∃ k d,e=.int k∧atI ds k=some d∧Q d
theorem ii (i:Nat) (hb:DE X b tb) (hs:rg b) (hN:X.N[i]? = some x:=by rfl) (hv:Vis X.env.scope x:=by first | exact Or.inl rfl | exact Or.inr (Or.inl rfl) | exact Or.inr (Or.inr rfl)) (hd:(x == ("__debug__":Str))=false:=by decide)
  (hcd:(x == ("__classdict__":Str))=false:=by decide):DE X (.Subscript (.Name x p1) b pos) (VC i tb):=by
 obtain ⟨tf,p2,l2⟩:=hb
 refine ⟨_,d3 ix_list (yo hN hv hd hcd) p2 hs,fun ρ σ H Q r h R k=>?_⟩
 obtain ⟨ds,e,h⟩:=h
 obtain ⟨a,xs,e1,e2,e3,e4,e5⟩:=r.ow i ds e
 refine ⟨.ref a,e1,l2 ρ σ H _ r h _ fun e u H2 s2 i2 ⟨n,d,en,ed,q⟩=>?_⟩
 subst en
 obtain ⟨v,ev,iv⟩:=e5.atI ed
 exact ⟨a,xs,n,v,rfl,is_int.mp i2,.of (s2.h _ _ e2),ev,k d v H2 s2 (iv.mono s2) q⟩
def VB (i:Nat):DTE:=fun ρ Q=>∃ ds,ρ[i]? = some (.own ds)∧Q (.lst ds)
theorem bU (i:Nat) (hg:Gl X "list") (hm:X.mg "list"=none) (hN:X.N[i]? = some x:=by rfl) (hv:Vis X.env.scope x:=by first | exact Or.inl rfl | exact Or.inr (Or.inl rfl) | exact Or.inr (Or.inr rfl)) (hd:(x == ("__debug__":Str))=false:=by decide)
  (hcd:(x == ("__classdict__":Str))=false:=by decide) (hs:starEach [.Name x p1] X.env=(false,eval (.Name x p1) X.env)::starEach [] X.env:=by rfl) (hpl:(backTo pos (starEach [] X.env)).any (·.1)=false:=by rfl):
  DF X (.Call (.Name "list" p0) [.Name x p1] [] pos) (VB i):=by
 refine ⟨_,om uz hg hm PyProof.Rows.boot_list (zR (yo hN hv hd hcd) yp hs) (by decide) (by decide) hs hpl,fun ρ σ H Q r h R k=>?_⟩
 obtain ⟨ds,e,q⟩:=h
 obtain ⟨a,xs,e1,e2,e3,e4,e5⟩:=r.ow i ds e
 exact ⟨.ref a,e1,a,xs,rfl,.inl (.of e2),fun p hp=>k _ p _ (H.mine p _ (H.sub.free hp)) (sZ hp _) hp zx (H.sub.free hp) e5 q⟩
def YU (i:Nat):DTT:=fun ρ Q=>∃ ds,ρ[i]? = some (.own ds)∧Q (!ds.isEmpty)
theorem t_ {G:Hp} {ds:List Dt} {xs:List V} (h:AllIs K G ds xs):(!xs.isEmpty)=!ds.isEmpty:=by
 cases ds with
 | nil=>rw [allIs_nil.mp h]; rfl
 | cons d ds=>obtain ⟨x,r,rfl,_⟩:=allIs_cons.mp h; rfl
theorem Z9 (i:Nat) (hN:X.N[i]? = some x:=by rfl) (hv:Vis X.env.scope x:=by first | exact Or.inl rfl | exact Or.inr (Or.inl rfl) | exact Or.inr (Or.inr rfl)) (hd:(x == ("__debug__":Str))=false:=by decide)
  (hcd:(x == ("__classdict__":Str))=false:=by decide) (he:∀ yS,isTrue (.Name x p1) X.env yS=(do let v ← yS; standAt (Expr.Name x p1).pos; holding [v] (truthy v)):=by intro _; rfl):DT X (.Name x p1) (YU i):=by
 refine ⟨_,mI (yo hN hv hd hcd) he,fun ρ σ H Q r h R k=>?_⟩
 obtain ⟨ds,e,q⟩:=h
 obtain ⟨a,xs,e1,e2,e3,e4,e5⟩:=r.ow i ds e
 exact ⟨.ref a,e1,!ds.isEmpty,.inl ⟨xs,.of e2,(t_ e5).symm⟩,k _ H (Le.refl H) q⟩
def Qj (ta:DTE):DTT:=fun ρ Q=>ta ρ fun d=>∃ ds,wZ d=some ds∧Q (!ds.isEmpty)
theorem Vj (ha:DE X a ta) (he:∀ yS,isTrue a X.env yS=(do let v ← yS; standAt a.pos; holding [v] (truthy v)):=by intro _; rfl):DT X a (Qj ta):=by
 obtain ⟨te,p1,l1⟩:=ha
 refine ⟨_,mI p1 he,fun ρ σ H Q r h R k=>l1 ρ σ H _ r h _ fun d v H1 s1 i1 ⟨ds,e,q⟩=>?_⟩
 obtain ⟨a,xs,rfl,h1,h2⟩:=iV i1 e
 exact ⟨!ds.isEmpty,.inl ⟨xs,h1,(t_ h2).symm⟩,k _ H1 s1 q⟩
def fz:Sl→Sl
 | .own ds=>.some (.lst ds)
 | .arg _ ds=>.some (.lst ds)
 | s=>s
open Classical in
theorem Rl.bor {ρ:DS} {σ:St} (r:Rl K Z F W ρ σ):∃ W':Vw,W'.h=W.h∧Same W.g W'.g∧Rl K Z F W' (ρ.map fz) σ∧∀ a o,W'.g a=some o→W.g a=some o∨∃ xs,o=.lst xs:=by
 let ow:Addr→Prop:=fun a=>∃ (i:Nat) (ds:List Dt),(ρ[i]? = some (Sl.own ds)∧σ[i]? = some (some (V.ref a)))∨ρ[i]? = some (Sl.arg a ds)
 have own_at:∀ a,ow a→W.g a=none:=fun a ⟨i,ds,h⟩=>by
  rcases h with ⟨e,ea⟩ | e
  ·obtain ⟨b,xs,e1,_,e3,_⟩:=r.ow i ds e
   rw [ea] at e1
   cases e1
   exact e3
  ·exact (r.ar i a ds e).1.choose_spec.2.2.1
 let g:Hp:=fun a=>if ow a then W.h a else W.g a
 have gs:Same W.g g:=fun b o q=>by
  show (if ow b then W.h b else W.g b)=some o
  by_cases hb:ow b
  ·rw [own_at b hb] at q; cases q
  ·rw [if_neg hb]; exact q
 have sub:Same g W.h:=fun b o q=>by
  have q':(if ow b then W.h b else W.g b)=some o:=q
  by_cases hb:ow b
  ·rw [if_pos hb] at q'; exact q'
  ·rw [if_neg hb] at q'; exact W.sub _ _ q'
 have cls:∀ (i:Nat) (y:Sl),(ρ.map fz)[i]? = some y→(∃ d,ρ[i]? = some (.some d)∧y=.some d)∨(∃ ds,(ρ[i]? = some (.own ds)∨∃ a,ρ[i]? = some (.arg a ds))∧y=.some (.lst ds))∨y=.none:=fun i y e=>by
  rw [List.getElem?_map] at e
  cases q:ρ[i]? with
  | none=>rw [q] at e; cases e
  | some z=>
   rw [q] at e
   have e':=(Option.some.inj e).symm
   cases z with
   | none=>exact .inr (.inr e')
   | some d=>exact .inl ⟨d,rfl,e'⟩
   | own ds=>exact .inr (.inl ⟨ds,.inl rfl,e'⟩)
   | arg a ds=>exact .inr (.inl ⟨ds,.inr ⟨a,rfl⟩,e'⟩)
 have gl:∀ a o,g a=some o→W.g a=some o∨∃ xs,o=HO.lst xs:=fun a o q=>by
  have q':(if ow a then W.h a else W.g a)=some o:=q
  by_cases hb:ow a
  ·rw [if_pos hb] at q'
   obtain ⟨i,ds,h⟩:=hb
   rcases h with ⟨e,ea⟩ | e
   ·obtain ⟨b,xs,e1,e2,_⟩:=r.ow i ds e
    rw [ea] at e1
    cases e1
    rw [e2] at q'
    exact .inr ⟨xs,(Option.some.inj q').symm⟩
   ·obtain ⟨⟨xs,_,e2,_⟩,_,_⟩:=r.ar i a ds e
    rw [e2] at q'
    exact .inr ⟨xs,(Option.some.inj q').symm⟩
  ·rw [if_neg hb] at q'
   exact .inl q'
 refine ⟨⟨g,W.h,sub⟩,rfl,gs,⟨by rw [List.length_map]; exact r.len,fun i d e=>?_,fun i ds e=>?_,fun i j ds es _ e _=>?_,r.fr,r.z,fun i a ds e=>?_⟩,gl⟩
 ·rcases cls i _ e with ⟨d',q,e1⟩ | ⟨ds,q,e1⟩ | e1
  ·cases e1
   obtain ⟨v,h1,h2⟩:=r.at_ i d q
   exact ⟨v,h1,Is.mono0 gs h2⟩
  ·cases e1
   rcases q with q | ⟨b,q⟩
   ·obtain ⟨b,xs,e1,e2,e3,e4,e5⟩:=r.ow i ds q
    have hb:ow b:=⟨i,ds,.inl ⟨q,e1⟩⟩
    exact ⟨_,e1,is_lst.mpr ⟨b,xs,rfl,(if_pos hb).trans e2,AllIs.mono0 gs e5⟩⟩
   ·obtain ⟨⟨xs,e1,e2,e3,e4,e5⟩,_,_⟩:=r.ar i b ds q
    have hb:ow b:=⟨i,ds,.inr q⟩
    exact ⟨_,e1,is_lst.mpr ⟨b,xs,rfl,(if_pos hb).trans e2,AllIs.mono0 gs e5⟩⟩
  ·cases e1
 ·rcases cls i _ e with ⟨d',q,e1⟩ | ⟨ds,q,e1⟩ | e1 <;> cases e1
 ·rcases cls i _ e with ⟨d',q,e1⟩ | ⟨ds,q,e1⟩ | e1 <;> cases e1
 ·rcases cls i _ e with ⟨d',q,e1⟩ | ⟨ds,q,e1⟩ | e1 <;> cases e1
theorem lX {H W' H1:Vw} (e:W'.h=H.h) (s1:Le W' H1) (sg:Same H.g W'.g):∃ H2:Vw,H2.h=H1.h∧H2.g=H.g∧Le H H2:=
 ⟨⟨H.g,H1.h,(sg.trans s1.g).trans H1.sub⟩,rfl,rfl,Same.refl _,e ▸ s1.h,fun _ _ h=>h⟩
def Tv (t:DTT):DTT:=fun ρ Q=>t (ρ.map fz) Q
theorem Vl {t:DTT} (h:DT X e t):DT X e (Tv t):=by
 obtain ⟨te,p,l⟩:=h
 refine ⟨te,p,fun ρ σ H Q r hq R k=>?_⟩
 obtain ⟨W',e,sg,r',_⟩:=r.bor
 have:=l (ρ.map fz) σ W' Q r' hq R fun b H1 s1 q1=>by
  obtain ⟨H2,e2,_,s2⟩:=lX e s1 sg
  rw [← e2]
  exact k b H2 s2 q1
 rw [e] at this
 exact this
def mB:Dt→Bool
 | .non=>true | .bl _=>true | .int _=>true | .str _=>true | _=>false
theorem iQ {G G':Hp} {d:Dt} {v:V} (h:mB d=true) (i:Is K G d v):Is K G' d v:=by
 cases d with
 | non=>exact is_non.mpr (is_non.mp i)
 | bl b=>exact is_bl.mpr (is_bl.mp i)
 | int b=>exact is_int.mpr (is_int.mp i)
 | str b=>exact is_str.mpr (is_str.mp i)
 | _=>cases h
end
abbrev DSp:=List Dt→(Dt→Prop)→Prop
def zt (K:PySem.W.Frag) (S:DSp):Sp:=fun vs H Q _=>∃ (W:Vw) (ds:List Dt) (Qd:Dt→Prop),W.h=H∧AllIs K W.g ds vs∧S ds Qd∧∀ d v W',Le W W'→Is K W'.g d v→Qd d→Q v W'.h
def yZ (K:PySem.W.Frag) (S:DSp):Sp:=fun vs H Q _=>∃ (W:Vw) (ds:List Dt) (Qd:Dt→Prop),W.h=H∧AllIs K W.g ds vs∧S ds Qd∧
 ∀ es p xs W',Le W W'→W.h p=none→W'.h p=some (.lst xs)→W'.g p=none→AllIs K W'.g es xs→Qd (.lst es)→Q (.ref p) W'.h
structure DOk (P:Program) (w:World) (K:PySem.W.Frag) (mg:Str→Option Value) (base:Heap) (n:Nat) (x:Str) (S:DSp):Prop where
 ex:∃ f fd ps,mg x=some (.ref f)∧PySem.W.keepIn K (.ref f)=true∧Binds K fd ps []∧FnOk P w K mg base CX0 n f fd ps (zt K S)
structure FOk (P:Program) (w:World) (K:PySem.W.Frag) (mg:Str→Option Value) (base:Heap) (n:Nat) (x:Str) (S:DSp):Prop where
 ex:∃ f fd ps,mg x=some (.ref f)∧PySem.W.keepIn K (.ref f)=true∧Binds K fd ps []∧FnOk P w K mg base CX0 n f fd ps (yZ K S)
structure MOk (P:Program) (w:World) (K:PySem.W.Frag) (mg:Str→Option Value) (base:Heap) (n:Nat) (C:Addr) (m:Str) (S:DSp):Prop where
 cl:Cls K C
 ex:∃ f fd ps,Yu K C m f∧Binds K fd ps []∧FnOk P w K mg base CX0 n f fd ps (zt K S)
structure FMOk (P:Program) (w:World) (K:PySem.W.Frag) (mg:Str→Option Value) (base:Heap) (n:Nat) (C:Addr) (m:Str) (S:DSp):Prop where
 cl:Cls K C
 ex:∃ f fd ps,Yu K C m f∧Binds K fd ps []∧FnOk P w K mg base CX0 n f fd ps (yZ K S)
section
variable {X:Cx} {a b c e o:Expr} {ta tb tc:DTE} {pos p apos:Pos} {es:List Expr} {t:DTA} {n:Nat} {x m:Str} {S:DSp}
def YZ (S:DSp) (t:DTA):DTE:=fun ρ Q=>t ρ fun ds=>S ds Q
theorem zl (G:DOk X.prog X.w X.K X.mg X.base n x S) (hr:Room n X.A) (hg:Gl X x) (ha:DA X (e::es) t) (hdb:(x == ("__debug__":Str))=false:=by decide)
  (he:starEach (e::es) X.env=(false,eval e X.env)::starEach es X.env:=by rfl) (hpl:(backTo pos (starEach es X.env)).any (·.1)=false:=by rfl):DE X (.Call (.Name x p) (e::es) [] pos) (YZ S t):=by
 obtain ⟨f,fd,ps,hm,hk,hb,F⟩:=G.ex
 obtain ⟨te,p1,l1⟩:=ha
 refine ⟨_,vk F hr hg hm hk hb .nil oo p1 hdb he hpl,fun ρ σ H Q r h R k=>l1 ρ σ H _ r h _ fun ds vs H1 s1 i1 q1=>?_⟩
 rw [List.append_nil]
 exact ⟨H1,ds,Q,rfl,i1,q1,fun d v H2 s2 i2 q2=>k d v H2 (s1.trans s2) i2 q2⟩
theorem ya (G:FOk X.prog X.w X.K X.mg X.base n x S) (hr:Room n X.A) (hg:Gl X x) (ha:DA X (e::es) t) (hdb:(x == ("__debug__":Str))=false:=by decide)
  (he:starEach (e::es) X.env=(false,eval e X.env)::starEach es X.env:=by rfl) (hpl:(backTo pos (starEach es X.env)).any (·.1)=false:=by rfl):DF X (.Call (.Name x p) (e::es) [] pos) (YZ S t):=by
 obtain ⟨f,fd,ps,hm,hk,hb,F⟩:=G.ex
 obtain ⟨te,p1,l1⟩:=ha
 refine ⟨_,vk F hr hg hm hk hb .nil oo p1 hdb he hpl,fun ρ σ H Q r h R k=>l1 ρ σ H _ r h _ fun ds vs H1 s1 i1 q1=>?_⟩
 rw [List.append_nil]
 exact ⟨H1,ds,Q,rfl,i1,q1,fun es p xs H2 s2 h0 h1 h2 i2 q2=>k es p xs H2 (s1.trans s2) (s1.h.free h0) h1 h2 i2 q2⟩
def dj (X:Cx) (n:Nat) (m:Str) (ta:TE) (t:TA):TE:=fun σ H Q=>ta σ H fun x H1=>∃ a dx fs C f fd ps sp,x=.ref a∧H1 a=some (.ins C dx fs)∧fs.lookup m=none∧Cls X.K C∧Yu X.K C m f∧Binds X.K fd ps []∧
 FnOk X.prog X.w X.K X.mg X.base CX0 n f fd ps sp∧t σ H1 fun vs H2=>sp (x::vs) H2 Q E0
theorem dY {pl:Sem Bool} {te:TE} {tt:TA} (he:PE X o te) (hr:Room n X.A) (ha:PA X (e::es) tt)
  (hst:starEach (e::es) X.env=(false,eval e X.env)::starEach es X.env:=by rfl) (hpl:(backTo pos (starEach es X.env)).any (·.1)=false:=by rfl)
  (ht:eval (.Call (.Attribute o m apos) (e::es) [] pos) X.env=(do
   let ov ← eval o X.env
   standAt apos.atName
   let (f,first) ← holding [ov] (getMethod ov m pl)
   callWith pos f first (backTo pos (starEach (e::es) X.env)) (backToKw pos (keywordEach [] X.env))):=by rfl):
  PE X (.Call (.Attribute o m apos) (e::es) [] pos) (dj X n m te tt):=by
 intro pins s σ H Q I h
 refine PySem.W.methodCall_KW (pl:=pl) (thn (he pins s σ H _ I h) fun u s1 ⟨x,H1,I1,rx,a,dx,fs,C,f,fd,ps,sp,ex,ea,l,c,hm,hb,F,q⟩=>?_) ht
 subst ex
 obtain rfl:u=Value.ref a:=rx
 refine qs I1 ea c hm l ?_
 refine PySem.W.callWith_K (first:=[.ref a]) (h₀:=X.base) I.ok.mod.kin hm.kp (thn (ha pos pins s1 σ H1 _ I1 q) fun us s2 ⟨vs,H2,I2,r,q2⟩=>⟨I2.kIn,?_⟩) hst hpl
 exact kx (us:=.ref a::us) (vs:=.ref a::vs) (dvs:=[]) (E:=E0) F hr hb .nil oo I2 (.cons rfl r) (by rw [List.append_nil]; exact q2)
theorem gU {pl:Sem Bool} {te:TE} (he:PE X o te) (hr:Room n X.A)
  (ht:eval (.Call (.Attribute o m apos) [] [] pos) X.env=(do
   let ov ← eval o X.env
   standAt apos.atName
   let (f,first) ← holding [ov] (getMethod ov m pl)
   callWith pos f first (backTo pos (starEach [] X.env)) (backToKw pos (keywordEach [] X.env))):=by rfl):
  PE X (.Call (.Attribute o m apos) [] [] pos) (dj X n m te VS):=by
 intro pins s σ H Q I h
 refine PySem.W.methodCall_KW (pl:=pl) (thn (he pins s σ H _ I h) fun u s1 ⟨x,H1,I1,rx,a,dx,fs,C,f,fd,ps,sp,ex,ea,l,c,hm,hb,F,q⟩=>?_) ht
 subst ex
 obtain rfl:u=Value.ref a:=rx
 refine qs I1 ea c hm l ?_
 exact PySem.W.callWith_K0 (first:=[.ref a]) I1.kIn hm.kp (kx (us:=[.ref a]) (vs:=[.ref a]) (dvs:=[]) (E:=E0) F hr hb .nil oo I1 (.cons rfl .nil) q)
def Th (X:Cx) (n:Nat) (m:Str) (ta:DTE) (t:DTA):DTE:=fun ρ Q=>ta ρ fun d=>∃ C f k S,d=.way C f k∧(m == f)=false∧MOk X.prog X.w X.K X.mg X.base n C m S∧t ρ fun ds=>S (d::ds) Q
theorem xG {pl:Sem Bool} (hr:Room n X.A) (he:DE X o ta) (ha:DA X (e::es) t)
  (hst:starEach (e::es) X.env=(false,eval e X.env)::starEach es X.env:=by rfl) (hpl:(backTo pos (starEach es X.env)).any (·.1)=false:=by rfl)
  (ht:eval (.Call (.Attribute o m apos) (e::es) [] pos) X.env=(do
   let ov ← eval o X.env
   standAt apos.atName
   let (f,first) ← holding [ov] (getMethod ov m pl)
   callWith pos f first (backTo pos (starEach (e::es) X.env)) (backToKw pos (keywordEach [] X.env))):=by rfl):
  DE X (.Call (.Attribute o m apos) (e::es) [] pos) (Th X n m ta t):=by
 obtain ⟨te,p0,l0⟩:=he
 obtain ⟨tt,p1,l1⟩:=ha
 refine ⟨_,dY (pl:=pl) p0 hr p1 hst hpl ht,fun ρ σ H Q r h R k=>l0 ρ σ H _ r h _ fun d v H1 s1 i1 ⟨C,f,z,S,ed,hne,M,q1⟩=>?_⟩
 subst ed
 obtain ⟨a,dx,rfl,ha⟩:=is_way.mp i1
 obtain ⟨g,fd,ps,hm,hb,F⟩:=M.ex
 refine ⟨a,dx,_,C,g,fd,ps,_,rfl,H1.sub _ _ ha,by simp [List.lookup,hne],M.cl,hm,hb,F,l1 ρ σ H1 _ (r.mono s1) q1 _ fun ds vs H2 s2 i2 q2=>?_⟩
 exact ⟨H2,_,Q,rfl,allIs_cons.mpr ⟨_,_,rfl,i1.mono s2,i2⟩,q2,fun d v H3 s3 i3 q3=>k d v H3 ((s1.trans s2).trans s3) i3 q3⟩
def VA (X:Cx) (n:Nat) (m:Str) (ta:DTE):DTE:=fun ρ Q=>ta ρ fun d=>∃ C f k S,d=.way C f k∧(m == f)=false∧MOk X.prog X.w X.K X.mg X.base n C m S∧S [d] Q
theorem lR {pl:Sem Bool} (hr:Room n X.A) (he:DE X o ta)
  (ht:eval (.Call (.Attribute o m apos) [] [] pos) X.env=(do
   let ov ← eval o X.env
   standAt apos.atName
   let (f,first) ← holding [ov] (getMethod ov m pl)
   callWith pos f first (backTo pos (starEach [] X.env)) (backToKw pos (keywordEach [] X.env))):=by rfl):
  DE X (.Call (.Attribute o m apos) [] [] pos) (VA X n m ta):=by
 obtain ⟨te,p0,l0⟩:=he
 refine ⟨_,gU (pl:=pl) p0 hr ht,fun ρ σ H Q r h R k=>l0 ρ σ H _ r h _ fun d v H1 s1 i1 ⟨C,f,z,S,ed,hne,M,q1⟩=>?_⟩
 subst ed
 obtain ⟨a,dx,rfl,ha⟩:=is_way.mp i1
 obtain ⟨g,fd,ps,hm,hb,F⟩:=M.ex
 refine ⟨a,dx,_,C,g,fd,ps,_,rfl,H1.sub _ _ ha,by simp [List.lookup,hne],M.cl,hm,hb,F,?_⟩
 exact ⟨H1,_,Q,rfl,allIs_cons.mpr ⟨_,_,rfl,i1,allIs_nil.mpr rfl⟩,q1,fun d v H3 s3 i3 q3=>k d v H3 (s1.trans s3) i3 q3⟩
def Qw (K:PySem.W.Frag) (f:Str) (ta:DTE):DTE:=fun ρ Q=>ta ρ fun d=>∃ C g k,d=.way C g k∧(f == g)=true∧Cls K C∧NoAttr K C f∧Q (.int k)
theorem zP {f:Str} (ha:DE X a ta) (hb:attributeBase a f X.env (eval a X.env)=eval a X.env:=by rfl):DE X (.Attribute a f pos) (Qw X.K f ta):=by
 obtain ⟨te,p1,l1⟩:=ha
 refine ⟨_,XJ p1 hb,fun ρ σ H Q r h R k=>l1 ρ σ H _ r h _ fun d v H1 s1 i1 ⟨C,g,z,ed,hfg,hc,hn,q1⟩=>?_⟩
 subst ed
 obtain ⟨p,dx,rfl,hp⟩:=is_way.mp i1
 exact ⟨p,C,dx,_,.int z,rfl,H1.sub _ _ hp,hc,hn,by simp [List.lookup,hfg],k _ _ H1 s1 (is_int.mpr rfl) q1⟩
def xE (C:Addr) (f:Str) (ok:Int→Prop):Sp:=fun vs H Q _=>∃ p dx i,vs=[.ref p,.int i]∧H p=some (.ins C dx [])∧ok i∧∀ H':Hp,H' p=some (.ins C dx [(f,.int i)])→(∀ b o,H b=some o→b≠p→H' b=some o)→Q .non H'
structure KOk (P:Program) (w:World) (K:PySem.W.Frag) (mg:Str→Option Value) (base:Heap) (n:Nat) (x:Str) (C:Addr) (f:Str) (ok:Int→Prop):Prop where
 ex:∃ g fd ps,mg x=some (.ref C)∧Mk K C g∧Binds K fd ps []∧FnOk P w K mg base CX0 n g fd ps (xE C f ok)
def Ti (C:Addr) (f:Str) (ok:Int→Prop) (t:DTA):DTE:=fun ρ Q=>t ρ fun ds=>∃ i,ds=[.int i]∧ok i∧Q (.way C f i)
theorem vA {C:Addr} {f:Str} {ok:Int→Prop} (G:KOk X.prog X.w X.K X.mg X.base n x C f ok) (hr:Room (n+1) X.A) (hg:Gl X x) (ha:DA X (e::es) t) (hdb:(x == ("__debug__":Str))=false:=by decide)
  (he:starEach (e::es) X.env=(false,eval e X.env)::starEach es X.env:=by rfl) (hpl:(backTo pos (starEach es X.env)).any (·.1)=false:=by rfl):DE X (.Call (.Name x p) (e::es) [] pos) (Ti C f ok t):=by
 obtain ⟨g,fd,ps,hm,M,hb,F⟩:=G.ex
 obtain ⟨te,p1,l1⟩:=ha
 refine ⟨_,aV M F hr hg hm hb .nil oo p1 hdb he hpl,fun ρ σ H Q r h R k=>l1 ρ σ H _ r h _ fun ds vs H1 s1 i1 ⟨i,ed,hok,q1⟩ y dy ny ndy ne=>?_⟩
 subst ed
 obtain ⟨v,rfl,hv⟩:=i1.one
 obtain rfl:=is_int.mp hv
 refine ⟨y,dy,i,rfl,zx,hok,fun H' e1 e2=>⟨rfl,?_⟩⟩
 have keep:Same H1.h H':=fun b o hb=>e2 b o (by rw [zy (z7 hb ny),zy (z7 hb ndy)]; exact hb) (z7 hb ny)
 have gy:H1.g y=none:=H1.sub.free ny
 exact k _ _ ⟨upd H1.g y (.ins C dy [(f,.int i)]),H',fun b u q=>by
   by_cases e:b=y
   ·subst e; rw [zx] at q; rw [e1]; exact q
   ·rw [zy e] at q; exact keep _ _ (H1.sub _ _ q)⟩
  (s1.trans ⟨zU gy _,keep,fun a z1 z2=>by
   have:a≠y:=fun e=>z1 (e ▸ ny)
   show upd H1.g y _ a=none
   rw [zy this]; exact z2⟩) (is_way.mpr ⟨y,dy,rfl,zx⟩) q1
structure Yv (K:PySem.W.Frag):Prop where
 ib:PySem.W.kitOne K (.type "int") (.type "bool")=some false
 it:PySem.W.kitOne K (.type "int") (.type "tuple")=some false
 il:PySem.W.kitOne K (.type "int") (.type "list")=some false
 bi:PySem.W.kitOne K (.type "bool") (.type "int")=some true
 bt:PySem.W.kitOne K (.type "bool") (.type "tuple")=some false
 bl:PySem.W.kitOne K (.type "bool") (.type "list")=some false
 ti:PySem.W.kitOne K (.type "tuple") (.type "int")=some false
 tb:PySem.W.kitOne K (.type "tuple") (.type "bool")=some false
 tl:PySem.W.kitOne K (.type "tuple") (.type "list")=some false
 li:PySem.W.kitOne K (.type "list") (.type "int")=some false
 lb:PySem.W.kitOne K (.type "list") (.type "bool")=some false
 lt:PySem.W.kitOne K (.type "list") (.type "tuple")=some false
theorem ul {K:PySem.W.Frag} {t:Value}:PySem.W.kitOne K t t=some true:=by
 unfold PySem.W.kitOne
 rw [if_pos (beq_self_eq_true t)]
theorem W6 {K:PySem.W.Frag} {t c:String} {b:Bool} (h1:(Value.type t == Value.type c)=false) (h2:PySem.W.kitMeta c=true) (h3:(fastBuiltinMro t).map (·.contains (Value.type c))=some b):PySem.W.kitOne K (.type t) (.type c)=some b:=by
 unfold PySem.W.kitOne PySem.W.kitCls
 rw [if_neg (by rw [h1]; decide)]
 show (if PySem.W.kitMeta c=true then PySem.W.subIn K (.type t) (.type c) else none)=some b
 rw [if_pos h2]
 exact h3
theorem R8 (K:PySem.W.Frag):Yv K:=by
 constructor <;> exact W6 (by decide +kernel) (by decide +kernel) (by decide +kernel)
inductive TyN where | int | bool | tuple | list
def TyN.str:TyN→String
 | .int=>"int" | .bool=>"bool" | .tuple=>"tuple" | .list=>"list"
def UN:Dt→TyN→Option Bool
 | .int _,.int=>some true | .int _,.bool=>some false | .int _,.tuple=>some false | .int _,.list=>some false
 | .bl _,.int=>some true | .bl _,.bool=>some true | .bl _,.tuple=>some false | .bl _,.list=>some false
 | .tup _,.int=>some false | .tup _,.bool=>some false | .tup _,.tuple=>some true | .tup _,.list=>some false
 | .lst _,.int=>some false | .lst _,.bool=>some false | .lst _,.tuple=>some false | .lst _,.list=>some true
 | _,_=>none
theorem Vc {H:Vw} {d:Dt} {v:V} {T:TyN} {b:Bool} (kt:Yv K) (h:Is K H.g d v) (e:UN d T=some b):∃ tv,ua K H.h v tv∧PySem.W.kitOne K tv (.type T.str)=some b:=by
 cases d with
 | int i=>
  obtain rfl:=is_int.mp h
  refine ⟨_,.int i,?_⟩
  cases T <;> (obtain rfl:=Option.some.inj e; first | exact ul | exact kt.ib | exact kt.it | exact kt.il)
 | bl i=>
  obtain rfl:=is_bl.mp h
  refine ⟨_,.bl i,?_⟩
  cases T <;> (obtain rfl:=Option.some.inj e; first | exact ul | exact kt.bi | exact kt.bt | exact kt.bl)
 | tup ds=>
  obtain ⟨a,xs,rfl,h1,_⟩:=is_tup.mp h
  refine ⟨_,.tup (H.sub _ _ h1),?_⟩
  cases T <;> (obtain rfl:=Option.some.inj e; first | exact ul | exact kt.ti | exact kt.tb | exact kt.tl)
 | lst ds=>
  obtain ⟨a,xs,rfl,h1,_⟩:=is_lst.mp h
  refine ⟨_,.lst (H.sub _ _ h1),?_⟩
  cases T <;> (obtain rfl:=Option.some.inj e; first | exact ul | exact kt.li | exact kt.lb | exact kt.lt)
 | _=>cases T <;> cases e
theorem ai:CallR X (.builtin "isinstance") (fun xs H Q=>∃ v T tv b,xs=[v,.ty T]∧ua X.K H v tv∧PySem.W.kitOne X.K tv (.type T)=some b∧Q (.bl b) H):=by
 intro pins s σ H xs us Q I r h
 obtain ⟨v,T,tv,b,rfl,hty,hk,q⟩:=h
 cases r with
 | cons r1 r2=>
  cases r2 with
  | cons r3 r4=>
   cases r4
   cases r3
   exact ox I r1 hty hk fun tk=>⟨.bl b,H,I.tok _,rfl,q⟩
def Qt (T:TyN) (ta:DTE):DTE:=fun ρ Q=>ta ρ fun d=>∃ b,UN d T=some b∧Q (.bl b)
theorem tS {T:TyN} {y:Str} {p':Pos} (kt:Yv X.K) (hm:X.mg "isinstance"=none) (hmc:X.mg y=none) (hv:bootBuiltins y=some (.type T.str)) (ha:DE X a ta)
  (hg:Gl X "isinstance":=by rfl) (hgc:Gl X y:=by rfl) (hny:y≠"__name__":=by decide) (hdy:(y == ("__debug__":Str))=false:=by decide)
  (hs:starEach [a,.Name y p'] X.env=(false,eval a X.env)::starEach [.Name y p'] X.env:=by rfl) (hs2:starEach [.Name y p'] X.env=(false,eval (.Name y p') X.env)::starEach [] X.env:=by rfl)
  (hpl:(backTo pos (starEach [.Name y p'] X.env)).any (·.1)=false:=by rfl):
  DE X (.Call (.Name "isinstance" p) [a,.Name y p'] [] pos) (Qt T ta):=by
 obtain ⟨te,p1,l1⟩:=ha
 have pc:PE X (.Name y p') (tC (.ty T.str)):=aZ hgc hmc hv rfl hny hdy
 refine ⟨_,xt ai hg hm boot_isinstance (zR p1 (zR pc yp hs2) hs) (by decide) (by decide) hs hpl,fun ρ σ H Q r h R k=>l1 ρ σ H _ r h _ fun d v H1 s1 i1 ⟨b,e,q⟩=>?_⟩
 obtain ⟨tv,h1,h2⟩:=Vc kt i1 e
 exact ⟨v,T.str,tv,b,rfl,h1,h2,k _ _ H1 s1 (is_bl.mpr rfl) q⟩
end
structure uB where
 nx:DS→Prop
 rt:Dt→Prop
 bk:DS→Prop:=fun _=>False
 ct:DS→Prop:=fun _=>False
abbrev DTS:=uB→DS→Prop
structure At (K:PySem.W.Frag) (Z:Hp) (W0:Vw) (G:Hp) (W:Vw) (ρ:DS) (σ:St):Prop where
 le:Le W0 W
 gs:Same G W.g
 rl:Rl K Z W0.h W ρ σ
inductive Fr where | d | l | t (a b:Bool)
def NewL (K:PySem.W.Frag) (F:Hp) (W:Vw) (d:Dt) (v:V):Prop:=∃ es p xs,d=.lst es∧v=.ref p∧F p=none∧W.h p=some (.lst xs)∧W.g p=none∧AllIs K W.g es xs
def Prt (K:PySem.W.Frag) (F:Hp) (W:Vw) (b:Bool) (d:Dt) (v:V):Prop:=match b with
 | false=>Is K W.g d v
 | true=>NewL K F W d v∨mB d=true∧Is K W.g d v
def Tld (K:PySem.W.Frag) (F:Hp) (W:Vw):Fr→Dt→V→Prop
 | .d,d,v=>Is K W.g d v
 | .l,d,v=>NewL K F W d v
 | .t a b,d,v=>∃ d1 d2 q u1 u2,d=.tup [d1,d2]∧v=.ref q∧W.g q=some (.tup [u1,u2])∧Prt K F W a d1 u1∧Prt K F W b d2 u2∧(∀ es fs,a=true→b=true→d1=.lst es→d2=.lst fs→u1≠u2)
structure Sim (K:PySem.W.Frag) (Z:Hp) (fr:Fr) (W0:Vw) (G:Hp) (D:uB) (D':uc):Prop where
 nx:∀ ρ σ W',At K Z W0 G W' ρ σ→D.nx ρ→D'.nx σ W'.h
 tl:∀ d v W',Le W0 W'→Tld K W0.h W' fr d v→D.rt d→D'.rt v W'.h
 bk:∀ ρ σ W',At K Z W0 G W' ρ σ→D.bk ρ→D'.bk σ W'.h
 ct:∀ ρ σ W',At K Z W0 G W' ρ σ→D.ct ρ→D'.ct σ W'.h
theorem NewL.le {F G:Hp} {W:Vw} {d:Dt} {v:V} (h:NewL K F W d v) (z:∀ p,F p=none→G p=none):NewL K G W d v:=
 let ⟨es,p,xs,h1,h2,h3,h4⟩:=h; ⟨es,p,xs,h1,h2,z p h3,h4⟩
theorem Sim.rf {Z:Hp} {fr:Fr} {W0:Vw} {G:Hp} {D:uB} {D':uc} (s:Sim K Z fr W0 G D D') (hf:fr=.d∨fr=.l) (es:List Dt) (p:Addr) (xs:List V) (W':Vw) (le:Le W0 W') (h0:W0.h p=none) (h1:W'.h p=some (.lst xs)) (h2:W'.g p=none) (h3:AllIs K W'.g es xs) (q:D.rt (.lst es)):D'.rt (.ref p) W'.h:=by
 rcases hf with rfl | rfl
 ·exact s.tl (.lst es) (.ref p) (W'.frz p _ h1) (tH le h0 h1 h2) (is_lst.mpr ⟨p,xs,rfl,zx,AllIs.mono0 (zU h2 _) h3⟩) q
 ·exact s.tl (.lst es) (.ref p) W' le ⟨es,p,xs,rfl,rfl,h0,h1,h2,h3⟩ q
section
variable {W0:Vw} {G G':Hp} {ρ:DS} {σ:St} {fr:Fr}
theorem At.step (a:At K Z W0 G W ρ σ) (s:Le W W'):At K Z W0 G W' ρ σ:=⟨a.le.trans s,a.gs.trans s.g,a.rl.mono s⟩
theorem At.set (a:At K Z W0 G W ρ σ) {d:Dt} {v:V} (i:Nat) (h:Is K W.g d v):At K Z W0 G W (ρ.set i (.some d)) (σ.set i (some v)):=⟨a.le,a.gs,a.rl.set i h⟩
theorem At.weak (a:At K Z W0 G W ρ σ) (s:Same G' G):At K Z W0 G' W ρ σ:=⟨a.le,s.trans a.gs,a.rl⟩
theorem At.own (a:At K Z W0 G W ρ σ) (s:Le W W') {p:Addr} {xs:List V} {ds:List Dt} (i:Nat) (h0:W.h p=none) (h1:W'.h p=some (.lst xs)) (h2:W'.g p=none) (h3:AllIs K W'.g ds xs):
  At K Z W0 G W' (ρ.set i (.own ds)) (σ.set i (some (.ref p))):=⟨a.le.trans s,a.gs.trans s.g,a.rl.own s i h0 h1 h2 h3⟩
theorem At.put (at_:At K Z W0 G W ρ σ) {i:Nat} {ds es:List Dt} {a:Addr} {ys:List V} (hi:ρ[i]? = some (.own ds)) (ha:σ[i]? = some (some (.ref a))) (hg:W.g a=none) (hF:W0.h a=none) (h3:AllIs K W.g es ys):
  At K Z W0 G (W.mine a (.lst ys) hg) (ρ.set i (.own es)) σ:=
 ⟨⟨at_.le.g,fun b o q=>by
   have:b≠a:=fun e=>by rw [e,hF] at q; cases q
   show upd W.h a _ b=some o
   rw [zy this]; exact at_.le.h _ _ q,at_.le.n⟩,at_.gs,at_.rl.put hi ha hg hF h3⟩
theorem At.frz (at_:At K Z W0 G W ρ σ) {i:Nat} {ds:List Dt} {a:Addr} {xs:List V} (hi:ρ[i]? = some (.own ds)) (ha:σ[i]? = some (some (.ref a))) (hh:W.h a=some (.lst xs)) (hg:W.g a=none) (hF:W0.h a=none) (h3:AllIs K W.g ds xs):
  At K Z W0 G (W.frz a _ hh) (ρ.set i (.some (.lst ds))) σ:=
 ⟨tH at_.le hF hh hg,at_.gs.trans (zU hg _),at_.rl.frz hi ha hh hg h3⟩
theorem Sim.weak {D:uB} {D':uc} (h:Sim K Z fr W0 G' D D') (s:Same G' G):Sim K Z fr W0 G D D':=
 ⟨fun ρ σ W' a=>h.nx ρ σ W' (a.weak s),h.tl,fun ρ σ W' a=>h.bk ρ σ W' (a.weak s),fun ρ σ W' a=>h.ct ρ σ W' (a.weak s)⟩
end
def LiS (K:PySem.W.Frag) (Z:Hp) (fr:Fr) (ts:TS) (t:DTS):Prop:=∀ (W0:Vw) (G:Hp) (ρ:DS) (σ:St) (W:Vw) (D:uB) (D':uc),At K Z W0 G W ρ σ→Sim K Z fr W0 G D D'→t D ρ→ts D' σ W.h
def DSt (X:Cx) (fr:Fr) (st:Stmt) (t:DTS):Prop:=∃ ts,PS X st ts∧LiS X.K (Zx X) fr ts t
def DSs (X:Cx) (fr:Fr) (sts:List Stmt) (t:DTS):Prop:=∃ ts,PSs X sts ts∧LiS X.K (Zx X) fr ts t
def Tg:DTS:=fun D ρ=>D.nx ρ
def Qm (t u:DTS):DTS:=fun D ρ=>t { D with nx:=u D } ρ
def Tb (te:DTE):DTS:=fun D ρ=>te ρ D.rt
def Ta (i:Nat):DTS:=fun D ρ=>∃ ds,ρ[i]? = some (.own ds)∧D.rt (.lst ds)
def Ql (i:Nat) (te:DTE):DTS:=fun D ρ=>te ρ fun d=>D.nx (ρ.set i (.some d))
def UY (i:Nat) (te:DTE):DTS:=fun D ρ=>te ρ fun d=>∃ ds,d=.lst ds∧D.nx (ρ.set i (.own ds))
def Qu (c:DTT) (t u:DTS):DTS:=fun D ρ=>c ρ fun b=>if b=true then t D ρ else u D ρ
def Tu (te:DTE):DTS:=fun D ρ=>te ρ fun _=>D.nx ρ
def Vy:DTS:=fun _ _=>False
def Qh (i j:Nat) (te:DTE):DTS:=fun D ρ=>te ρ fun d=>∃ a b,d=.tup [a,b]∧D.nx ((ρ.set i (.some a)).set j (.some b))
def Tq (j:Nat) (te:DTE) (tb:DTS):DTS:=fun D ρ=>te ρ fun d=>∃ (ds:List Dt) (Pv:Nat→DS→Prop),wZ d=some ds∧Pv 0 ρ∧
 (∀ i e ρ',ds[i]? = some e→Pv i ρ'→tb { D with nx:=Pv (i+1),ct:=Pv (i+1),bk:=D.nx } (ρ'.set j (.some e)))∧∀ ρ',Pv ds.length ρ'→D.nx ρ'
def Tp (j:Nat) (te:DTE) (tb:DTS):DTS:=fun D ρ=>te ρ fun d=>∃ (n:Int) (Pv:Nat→DS→Prop),d=.int n∧-(2 ^ 62)≤n∧n<2 ^ 62∧Pv 0 ρ∧
 (∀ (i:Nat) ρ',i<n.toNat→Pv i ρ'→tb { D with nx:=Pv (i+1),ct:=Pv (i+1),bk:=D.nx } (ρ'.set j (.some (.int i))))∧∀ ρ',Pv n.toNat ρ'→D.nx ρ'
def VD (j:Nat) (ta:DTA) (tb:DTS):DTS:=fun D ρ=>ta ρ fun ds=>∃ (m n:Int) (Pv:Nat→DS→Prop),ds=[.int m,.int n]∧-(2 ^ 62)≤m∧m<2 ^ 62∧-(2 ^ 62)≤n∧n<2 ^ 62∧Pv 0 ρ∧
 (∀ (i:Nat) ρ',i<(n - m).toNat→Pv i ρ'→tb { D with nx:=Pv (i+1),ct:=Pv (i+1),bk:=D.nx } (ρ'.set j (.some (.int (m+i)))))∧∀ ρ',Pv (n - m).toNat ρ'→D.nx ρ'
def ij (c:DTT) (tb:DTS):DTS:=fun D ρ=>∃ Pv:Nat→DS→Prop,(∃ m,Pv m ρ)∧∀ m ρ',Pv m ρ'→
 c ρ' fun b=>if b=true then tb { D with nx:=fun ρ2=>∃ m',m'<m∧Pv m' ρ2,ct:=fun ρ2=>∃ m',m'<m∧Pv m' ρ2,bk:=D.nx } ρ' else D.nx ρ'
section
variable {X:Cx} {fr:Fr} {st:Stmt} {yI:List Stmt} {t u:DTS} {e:Expr} {te:DTE} {pos p0 p1 p2:Pos}
theorem zr:DSs X fr [] Tg:=⟨_,aP,fun W0 G ρ σ W D D' a s h=>s.nx ρ σ W a h⟩
theorem zf (h1:DSt X fr st t) (h2:DSs X fr yI u):DSs X fr (st::yI) (Qm t u):=by
 obtain ⟨ts,p1,l1⟩:=h1
 obtain ⟨us,p2,l2⟩:=h2
 exact ⟨_,mJ p1 p2,fun W0 G ρ σ W D D' a s h=>l1 W0 G ρ σ W { D with nx:=u D } { D' with nx:=us D' } a ⟨fun ρ' σ' W' a' q=>l2 W0 G ρ' σ' W' D D' a' s q,s.tl,s.bk,s.ct⟩ h⟩
theorem zh (h:DSt X fr st t):DSs X fr [st] t:=let ⟨_,p,l⟩:=h; ⟨_,wm p,l⟩
def Qv (i:Nat) (t:DTS):DTS:=fun D ρ=>∃ ds,ρ[i]? = some (.own ds)∧t D (ρ.set i (.some (.lst ds)))
theorem vz (i:Nat) (h:DSs X fr yI t):DSs X fr yI (Qv i t):=by
 obtain ⟨ts,p,l⟩:=h
 refine ⟨ts,p,fun W0 G ρ σ W D D' a s h=>?_⟩
 obtain ⟨ds,e,q⟩:=h
 obtain ⟨b,xs,e1,e2,e3,e4,e5⟩:=a.rl.ow i ds e
 exact l W0 G _ σ (W.frz b _ e2) D D' (a.frz e e1 e2 e3 e4 e5) s q
theorem zk (h:DE X e te):DSt X .d (.Return (some e) pos) (Tb te):=by
 obtain ⟨tt,p,l⟩:=h
 exact ⟨_,oZ p,fun W0 G ρ σ W D D' a s h=>l ρ σ W _ a.rl h _ fun d v W1 s1 i1 q1=>s.tl d v W1 (a.le.trans s1) i1 q1⟩
theorem wA (h:DF X e te) (hf:fr=.d∨fr=.l:=by first | exact .inl rfl | exact .inr rfl):DSt X fr (.Return (some e) pos) (Tb te):=by
 obtain ⟨tt,p,l⟩:=h
 exact ⟨_,oZ p,fun W0 G ρ σ W D D' a s h=>l ρ σ W _ a.rl h _ fun es q xs W1 s1 h0 h1 h2 i1 q1=>s.rf hf es q xs W1 (a.le.trans s1) (a.le.h.free h0) h1 h2 i1 q1⟩
theorem ra (i:Nat) {x:Str} (hN:X.N[i]? = some x:=by rfl) (hv:Vis X.env.scope x:=by first | exact Or.inl rfl | exact Or.inr (Or.inl rfl) | exact Or.inr (Or.inr rfl)) (hd:(x == ("__debug__":Str))=false:=by decide)
  (hcd:(x == ("__classdict__":Str))=false:=by decide) (hf:fr=.d∨fr=.l:=by first | exact .inl rfl | exact .inr rfl):DSt X fr (.Return (some (.Name x p0)) pos) (Ta i):=by
 refine ⟨_,oZ (yo hN hv hd hcd),fun W0 G ρ σ W D D' a s h=>?_⟩
 obtain ⟨ds,e,q⟩:=h
 obtain ⟨b,xs,e1,e2,e3,e4,e5⟩:=a.rl.ow i ds e
 exact ⟨.ref b,e1,s.rf hf ds b xs W a.le e4 e2 e3 e5 q⟩
theorem h_ (h:DE X e te) (hs:swapsWith e none pos.line X.env=pure false:=by rfl):DSt X fr (.Expr e pos) (Tu te):=by
 obtain ⟨tt,p,l⟩:=h
 exact ⟨_,vj p hs,fun W0 G ρ σ W D D' a s h=>l ρ σ W _ a.rl h _ fun d v W1 s1 i1 q1=>s.nx ρ σ W1 (a.step s1) q1⟩
theorem zA {i:Nat} {x:Str} {pos':Pos} (hN:X.N.Nodup) (hi:X.N[i]? = some x) (hx:Loc X.env.scope x) (h:DE X e te) (hs:swapsWith e (some (.Name x pos')) pos.line X.env=pure false:=by rfl) (hf:X.fn x=true∨X.env.scope.names.lookup x=some .local:=by first | exact .inl rfl | exact .inr rfl | assumption):
  DSt X fr (.Assign [.Name x pos'] e pos) (Ql i te):=by
 obtain ⟨tt,p,l⟩:=h
 exact ⟨_,dO hN hi hx p hs hf,fun W0 G ρ σ W D D' a s h=>l ρ σ W _ a.rl h _ fun d v W1 s1 i1 q1=>s.nx _ _ W1 ((a.step s1).set i i1) q1⟩
theorem yk {i:Nat} {x:Str} {pos':Pos} (hN:X.N.Nodup) (hi:X.N[i]? = some x) (hx:Loc X.env.scope x) (h:DF X e te) (hs:swapsWith e (some (.Name x pos')) pos.line X.env=pure false:=by rfl) (hf:X.fn x=true∨X.env.scope.names.lookup x=some .local:=by first | exact .inl rfl | exact .inr rfl | assumption):
  DSt X fr (.Assign [.Name x pos'] e pos) (UY i te):=by
 obtain ⟨tt,p,l⟩:=h
 refine ⟨_,dO hN hi hx p hs hf,fun W0 G ρ σ W D D' a s h=>l ρ σ W _ a.rl h _ fun es q xs W1 s1 h0 h1 h2 i1 ⟨ds,ed,q1⟩=>?_⟩
 cases ed
 exact s.nx _ _ W1 (a.own s1 i h0 h1 h2 i1) q1
theorem zF {c:Expr} {a b:List Stmt} {tc:DTT} (hc:DT X c tc) (ha:DSs X fr a t) (hb:DSs X fr b u):DSt X fr (.If c a b pos) (Qu tc t u):=by
 obtain ⟨t0,p0,l0⟩:=hc
 obtain ⟨t1,p1,l1⟩:=ha
 obtain ⟨t2,p2,l2⟩:=hb
 refine ⟨_,V9 p0 p1 p2,fun W0 G ρ σ W D D' a s h=>l0 ρ σ W _ a.rl h _ fun k W1 s1 q1=>?_⟩
 cases k with
 | true=>exact l1 W0 G ρ σ W1 D D' (a.step s1) s q1
 | false=>exact l2 W0 G ρ σ W1 D D' (a.step s1) s q1
theorem va:DSt X fr st Vy:=⟨_,dQ,fun _ _ _ _ _ _ _ _ _ h=>h.elim⟩
theorem nV {i j:Nat} {x y:Str} {px py pt:Pos} {kt:Nat} (hc:X.calm=true) (hN:X.N.Nodup) (hi:X.N[i]? = some x) (hj:X.N[j]? = some y) (hx:Loc X.env.scope x) (hy:Loc X.env.scope y) (h:DE X e te)
  (hf:X.fn x=true∨X.env.scope.names.lookup x=some .local:=by first | exact .inl rfl | exact .inr rfl | assumption) (hf2:X.fn y=true∨X.env.scope.names.lookup y=some .local:=by first | exact .inl rfl | exact .inr rfl | assumption)
  (hs:swapsWithSole [.Tuple [.Name x px,.Name y py] kt pt] e pos.line X.env=pure false:=by rfl) (hw:swappedStores [.Tuple [.Name x px,.Name y py] kt pt] e X.env=pure none:=by rfl):
  DSt X fr (.Assign [.Tuple [.Name x px,.Name y py] kt pt] e pos) (Qh i j te):=by
 obtain ⟨tt,p,l⟩:=h
 refine ⟨_,dR p (kA hc (xU (yj hN hi hx hf) (xU (yj hN hj hy hf2) o5))) hs hw,fun W0 G ρ σ W D D' at_ s h=>l ρ σ W _ at_.rl h _ fun d v W1 s1 i1 ⟨a,b,ed,q1⟩=>?_⟩
 subst ed
 obtain ⟨q,xs,rfl,hq,ha⟩:=is_tup.mp i1
 obtain ⟨v1,v2,rfl,h1,h2⟩:=ha.two
 refine ⟨q,_,rfl,.of (W1.sub _ _ hq),rfl,v1,[v2],rfl,v2,[],rfl,rfl,?_⟩
 exact s.nx _ _ W1 (((at_.step s1).set i h1).set j h2) q1
def InL (K:PySem.W.Frag) (Z:Hp) (W0 W1:Vw) (Pv:DS→Prop) (σ:St) (H:Hp):Prop:=∃ (ρ:DS) (W:Vw),W.h=H∧At K Z W0 W1.g W ρ σ∧Pv ρ
theorem xl {K:PySem.W.Frag} {W0 W1:Vw} {G:Hp} {D:uB} {D':uc} {Pv:DS→Prop} (s:Sim K Z fr W0 G D D') (hg:Same G W1.g):
  Sim K Z fr W0 W1.g { D with nx:=Pv,ct:=Pv,bk:=D.nx } { D' with nx:=InL K Z W0 W1 Pv,ct:=InL K Z W0 W1 Pv,bk:=D'.nx }:=
 ⟨fun ρ3 σ3 W3 a3 q3=>⟨ρ3,W3,rfl,a3,q3⟩,s.tl,fun ρ3 σ3 W3 a3 q3=>s.nx ρ3 σ3 W3 (a3.weak hg) q3,fun ρ3 σ3 W3 a3 q3=>⟨ρ3,W3,rfl,a3,q3⟩⟩
theorem At.now {K:PySem.W.Frag} {W0:Vw} {G:Hp} {W:Vw} {ρ:DS} {σ:St} (a:At K Z W0 G W ρ σ):At K Z W0 W.g W ρ σ:=⟨a.le,Same.refl _,a.rl⟩
theorem bP {j:Nat} {x:Str} {iter:Expr} {body:List Stmt} {tb:DTS} {px:Pos} (hc:X.calm=true) (hN:X.N.Nodup) (hi:X.N[j]? = some x) (hx:Loc X.env.scope x) (hp:PassesOwn (model X.prog X.w) X.A X.env X.xe)
  (h:DE X iter te) (hb:DSs X fr body tb) (hs:∀ x,foldedSetIterable iter X.env x=pure x:=by intro _; rfl)
  (hf:X.fn x=true∨X.env.scope.names.lookup x=some .local:=by first | exact .inl rfl | exact .inr rfl | assumption):DSt X fr (.For (.Name x px) iter body [] pos) (Tq j te tb):=by
 obtain ⟨tt,p,l⟩:=h
 obtain ⟨tbs,p2,l2⟩:=hb
 refine ⟨_,uR hp hc (o3 p) (yj hN hi hx hf) p2 hs,fun W0 G ρ σ W D D' at_ s h=>l ρ σ W _ at_.rl h _ fun d v W1 s1 i1 ⟨ds,Pv,el,h0,ht,hd⟩=>?_⟩
 have hg:Same G W1.g:=at_.gs.trans s1.g
 have hq:∃ a xs,v=.ref a∧(∀ W2:Vw,Same W1.g W2.g→SqL X.K W2.h a xs)∧AllIs X.K W1.g ds xs:=by
  cases d with
  | lst es=>
   obtain rfl:es=ds:=Option.some.inj el
   obtain ⟨a,xs,rfl,h1,h2⟩:=is_lst.mp i1
   exact ⟨a,xs,rfl,fun W2 s2=>.of (W2.sub _ _ (s2 _ _ h1)),h2⟩
  | scr ns=>
   obtain rfl:ns.map Dt.int=ds:=Option.some.inj el
   obtain ⟨a,rfl,h1⟩:=is_scr.mp i1
   exact ⟨a,_,rfl,fun W2 s2=>W2.sub.seq (s2.seq h1),AllIs.ints⟩
  | _=>cases el
 obtain ⟨a,xs,rfl,hq,ha⟩:=hq
 refine ⟨a,rfl,⟨xs,hq W1 (Same.refl _)⟩,lI (K:=X.K) (a:=a) (xs:=xs) (fun i=>InL X.K (Zx X) W0 W1 (Pv i)) ⟨ρ,W1,rfl,(at_.step s1).now,h0⟩ (fun i σ' H' _ ⟨_,W2,e2,a2,_⟩=>e2 ▸ hq W2 a2.gs) ?_ ?_⟩
 ·rintro i x σ' _ hi ⟨ρ',W2,rfl,a2,hp2⟩
  obtain ⟨e,he,ie⟩:=ha.get' hi
  exact l2 W0 W1.g _ _ W2 { D with nx:=Pv (i+1),ct:=Pv (i+1),bk:=D.nx } _ (a2.set j (Is.mono0 a2.gs ie)) (xl s hg) (ht i e ρ' he hp2)
 ·rintro σ' _ ⟨ρ',W2,rfl,a2,hp2⟩
  exact s.nx ρ' σ' W2 (a2.weak hg) (hd ρ' (by rw [ha.length]; exact hp2))
theorem nW {j:Nat} {x:Str} {a:Expr} {body:List Stmt} {tb:DTS} {px p0 pos1:Pos} (hc:X.calm=true) (hN:X.N.Nodup) (hi:X.N[j]? = some x) (hx:Loc X.env.scope x) (hp:PassesOwn (model X.prog X.w) X.A X.env X.xe)
  (hg:Gl X "range") (hm:X.mg "range"=none) (h:DE X a te) (hb:DSs X fr body tb) (hs:∀ x,foldedSetIterable (.Call (.Name "range" p0) [a] [] pos1) X.env x=pure x:=by intro _; rfl)
  (hst:starEach [a] X.env=[(false,eval a X.env)]:=by rfl) (hst2:starEach [a] X.env=(false,eval a X.env)::starEach [] X.env:=by rfl)
  (hf:X.fn x=true∨X.env.scope.names.lookup x=some .local:=by first | exact .inl rfl | exact .inr rfl | assumption):DSt X fr (.For (.Name x px) (.Call (.Name "range" p0) [a] [] pos1) body [] pos) (Tp j te tb):=by
 obtain ⟨tt,p,l⟩:=h
 obtain ⟨tbs,p2,l2⟩:=hb
 refine ⟨_,uR hp hc (ol hg hm (zR p yp hst2) hst) (yj hN hi hx hf) p2 hs,fun W0 G ρ σ W D D' at_ s h=>l ρ σ W _ at_.rl h _ fun d v W1 s1 i1 ⟨n,Pv,ed,n1,n2,h0,ht,hd⟩=>?_⟩
 subst ed
 have hg:Same G W1.g:=at_.gs.trans s1.g
 refine ⟨n,by rw [is_int.mp i1],n1,n2,oy (lo:=0) (n:=n.toNat) (fun i=>InL X.K (Zx X) W0 W1 (Pv i)) ⟨ρ,W1,rfl,(at_.step s1).now,h0⟩ ?_ ?_⟩
 ·rintro i σ' _ hi ⟨ρ',W2,rfl,a2,hp2⟩
  have ez:(0:Int)+(i:Int)=(i:Int):=Int.zero_add _
  rw [ez]
  exact l2 W0 W1.g _ _ W2 { D with nx:=Pv (i+1),ct:=Pv (i+1),bk:=D.nx } _ (a2.set j (is_int.mpr rfl)) (xl s hg) (ht i ρ' hi hp2)
 ·rintro σ' _ ⟨ρ',W2,rfl,a2,hp2⟩
  exact s.nx ρ' σ' W2 (a2.weak hg) (hd ρ' hp2)
theorem w_ {c:Expr} {body:List Stmt} {tc:DTT} {tb:DTS} (hp:PassesOwn (model X.prog X.w) X.A X.env X.xe) (hc:DT X c tc) (hb:DSs X fr body tb):DSt X fr (.While c body [] pos) (ij tc tb):=by
 obtain ⟨t0,p0,l0⟩:=hc
 obtain ⟨tbs,p2,l2⟩:=hb
 refine ⟨_,dN hp p0 p2,fun W0 G ρ σ W D D' at_ s h=>?_⟩
 obtain ⟨Pv,⟨m0,h0⟩,ht⟩:=h
 refine ⟨fun m=>InL X.K (Zx X) W0 W (Pv m),⟨m0,ρ,W,rfl,at_.now,h0⟩,?_⟩
 rintro m σ' _ ⟨ρ',W2,rfl,a2,hp2⟩
 refine l0 ρ' σ' W2 _ a2.rl (ht m ρ' hp2) _ fun b W3 s3 q3=>?_
 have a3:=a2.step s3
 cases b with
 | true=>
  refine ⟨InL X.K (Zx X) W0 W (fun ρ2=>∃ m',m'<m∧Pv m' ρ2),fun σ4 H4 ⟨ρ4,W4,e4,a4,m',hm,p4⟩=>⟨m',hm,ρ4,W4,e4,a4,p4⟩,?_⟩
  exact l2 W0 W.g _ _ W3 { D with nx:=fun ρ2=>∃ m',m'<m∧Pv m' ρ2,ct:=fun ρ2=>∃ m',m'<m∧Pv m' ρ2,bk:=D.nx } _ a3 (xl s at_.gs) q3
 | false=>exact s.nx ρ' σ' W3 (a3.weak at_.gs) q3
variable {i:Nat} {x:Str}
def Qy (i:Nat) (te:DTE):DTS:=fun D ρ=>∃ ds,ρ[i]? = some (.own ds)∧te ρ fun d=>ds.length≤100000∧D.nx (ρ.set i (.own (ds++[d])))
theorem wB (i:Nat) (h:DE X e te) (hN:X.N[i]? = some x:=by rfl) (hv:Vis X.env.scope x:=by first | exact Or.inl rfl | exact Or.inr (Or.inl rfl) | exact Or.inr (Or.inr rfl)) (hd:(x == ("__debug__":Str))=false:=by decide)
  (hcd:(x == ("__classdict__":Str))=false:=by decide) (hst:starEach [e] X.env=(false,eval e X.env)::starEach [] X.env:=by rfl) (hpl:(backTo p2 (starEach [] X.env)).any (·.1)=false:=by rfl)
  (hfew:((backTo p2 (starEach [e] X.env)).all (fun x=>!x.1) && (backToKw p2 (keywordEach [] X.env)).all (fun x=>x.1.isSome)
   && decide ([e].length+([]:List Keyword).length+(if ([]:List Keyword).isEmpty then 0 else 1)<30))=true:=by rfl)
  (hbase:attributeBase (.Name x p0) "append" X.env (eval (.Name x p0) X.env)=eval (.Name x p0) X.env:=by rfl) (hline:(p1.endLine == p2.line)=true:=by rfl)
  (hs:swapsWith (.Call (.Attribute (.Name x p0) "append" p1) [e] [] p2) none pos.line X.env=pure false:=by rfl):
  DSt X fr (.Expr (.Call (.Attribute (.Name x p0) "append" p1) [e] [] p2) pos) (Qy i te):=by
 obtain ⟨tt,p,l⟩:=h
 refine ⟨_,vj (d8 PySem.F.plainAttrs_list PySem.F.slot_list_append PySem.F.type_list_append vm (yo hN hv hd hcd) (zR p yp hst) hbase hfew hline hst hpl) hs,fun W0 G ρ σ W D D' at_ s h=>?_⟩
 obtain ⟨ds,ei,h⟩:=h
 obtain ⟨b,xs,e1,e2,e3,e4,e5⟩:=at_.rl.ow i ds ei
 refine ⟨.ref b,e1,.inl ⟨rfl,xs,.of e2⟩,l ρ σ W _ at_.rl h _ fun d v W1 s1 i1 ⟨hl,q1⟩=>?_⟩
 have a1:=at_.step s1
 have hg1:W1.g b=none:=s1.n b (by rw [e2]; intro z; cases z) e3
 refine ⟨b,xs,v,rfl,rfl,s1.h _ _ e2,by rw [← e5.length]; exact Nat.lt_of_le_of_lt hl (by decide),?_⟩
 exact s.nx _ _ _ (a1.put ei e1 hg1 e4 ((e5.mono s1).append (allIs_cons.mpr ⟨v,[],rfl,i1,allIs_nil.mpr rfl⟩))) q1
theorem AllIs.dropLast {G:Hp} {ds:List Dt} {xs:List V} (h:AllIs K G ds xs):AllIs K G ds.dropLast xs.dropLast:=by
 rw [List.dropLast_eq_take,List.dropLast_eq_take,h.length]
 exact h.take _
theorem AllIs.reverse {G:Hp}:∀ {ds:List Dt} {xs:List V},AllIs K G ds xs→AllIs K G ds.reverse xs.reverse
 | [],_,h=>by rw [allIs_nil.mp h]; exact allIs_nil.mpr rfl
 | d::ds,_,h=>by
  obtain ⟨x,r,rfl,h1,h2⟩:=allIs_cons.mp h
  rw [List.reverse_cons,List.reverse_cons]
  exact (AllIs.reverse h2).append (allIs_cons.mpr ⟨x,[],rfl,h1,allIs_nil.mpr rfl⟩)
theorem AllIs.set {G:Hp}:∀ {ds:List Dt} {xs:List V} {d:Dt} {v:V} (j:Nat),AllIs K G ds xs→Is K G d v→AllIs K G (ds.set j d) (xs.set j v)
 | [],_,_,_,_,h,_=>by rw [allIs_nil.mp h]; exact allIs_nil.mpr rfl
 | d::ds,_,_,_,0,h,i=>by
  obtain ⟨x,r,rfl,h1,h2⟩:=allIs_cons.mp h
  exact allIs_cons.mpr ⟨_,_,rfl,i,h2⟩
 | d::ds,_,_,_,j+1,h,i=>by
  obtain ⟨x,r,rfl,h1,h2⟩:=allIs_cons.mp h
  exact allIs_cons.mpr ⟨_,_,rfl,h1,AllIs.set j h2 i⟩
def Vx (i:Nat):DTS:=fun D ρ=>∃ ds,ρ[i]? = some (.own ds)∧ds.isEmpty=false∧D.nx (ρ.set i (.own ds.dropLast))
theorem bN (i:Nat) (hN:X.N[i]? = some x:=by rfl) (hv:Vis X.env.scope x:=by first | exact Or.inl rfl | exact Or.inr (Or.inl rfl) | exact Or.inr (Or.inr rfl)) (hd:(x == ("__debug__":Str))=false:=by decide)
  (hcd:(x == ("__classdict__":Str))=false:=by decide)
  (hbase:attributeBase (.Name x p0) "pop" X.env (eval (.Name x p0) X.env)=eval (.Name x p0) X.env:=by rfl) (hline:(p1.endLine == p2.line)=true:=by rfl)
  (hs:swapsWith (.Call (.Attribute (.Name x p0) "pop" p1) [] [] p2) none pos.line X.env=pure false:=by rfl):
  DSt X fr (.Expr (.Call (.Attribute (.Name x p0) "pop" p1) [] [] p2) pos) (Vx i):=by
 refine ⟨_,vj (XM PySem.F.plainAttrs_list PySem.F.slot_list_pop PySem.F.type_list_pop WZ (yo hN hv hd hcd) hbase hline) hs,fun W0 G ρ σ W D D' at_ s h=>?_⟩
 obtain ⟨ds,ei,hne,q1⟩:=h
 obtain ⟨b,xs,e1,e2,e3,e4,e5⟩:=at_.rl.ow i ds ei
 have hx:xs≠[]:=fun z=>by
  have:=e5.length
  rw [z] at this
  rw [List.length_eq_zero_iff.mp this] at hne
  cases hne
 have hlt:xs.length - 1<xs.length:=by
  have:=List.length_pos_iff.mpr hx
  omega
 exact ⟨.ref b,e1,.inl ⟨rfl,xs,.of e2⟩,b,xs,xs[xs.length - 1],rfl,rfl,e2,List.getElem?_eq_getElem hlt,s.nx _ _ _ (at_.put ei e1 e3 e4 e5.dropLast) q1⟩
def Qn (i:Nat) (ti te:DTE):DTS:=fun D ρ=>∃ ds,ρ[i]? = some (.own ds)∧te ρ fun d=>ti ρ fun z=>∃ n j,z=.int n∧ixN ds.length n=some j∧D.nx (ρ.set i (.own (ds.set j d)))
theorem Vm (i:Nat) {k:Expr} {ti:DTE} (hk:DE X k ti) (h:DE X e te) (hN:X.N[i]? = some x:=by rfl) (hv:Vis X.env.scope x:=by first | exact Or.inl rfl | exact Or.inr (Or.inl rfl) | exact Or.inr (Or.inr rfl)) (hd:(x == ("__debug__":Str))=false:=by decide)
  (hcd:(x == ("__classdict__":Str))=false:=by decide)
  (ha:∀ v,assign (.Subscript (.Name x p0) k p1) X.env v=(do
   let ov ← holding [v] (eval (.Name x p0) X.env)
   let iv ← holding [v,ov] (eval k X.env)
   standAt p1
   holding [v,ov,iv] (setItem ov iv v)
   release [v,ov,iv] []):=by intro _; rfl)
  (hs:swapsWithSole [.Subscript (.Name x p0) k p1] e pos.line X.env=pure false:=by rfl) (hw:swappedStores [.Subscript (.Name x p0) k p1] e X.env=pure none:=by rfl)
  (h1:(assignEach [.Subscript (.Name x p0) k p1] X.env).map (·.2)=[assign (.Subscript (.Name x p0) k p1) X.env]:=by rfl):
  DSt X fr (.Assign [.Subscript (.Name x p0) k p1] e pos) (Qn i ti te):=by
 obtain ⟨tt,p,l⟩:=h
 obtain ⟨tk,pk,lk⟩:=hk
 refine ⟨_,dR p (XE (yo hN hv hd hcd) pk mv ha) hs hw h1,fun W0 G ρ σ W D D' at_ s h=>?_⟩
 obtain ⟨ds,ei,h⟩:=h
 refine l ρ σ W _ at_.rl h _ fun d v W1 s1 i1 q1=>?_
 have a1:=at_.step s1
 obtain ⟨b,xs,e1,e2,e3,e4,e5⟩:=a1.rl.ow i ds ei
 refine ⟨.ref b,e1,lk ρ σ W1 _ a1.rl q1 _ fun z u W2 s2 i2 ⟨n,j,ez,ej,q2⟩=>?_⟩
 subst ez
 have a2:=a1.step s2
 have hg2:W2.g b=none:=s2.n b (by rw [e2]; intro z; cases z) e3
 refine ⟨b,xs,n,j,rfl,is_int.mp i2,s2.h _ _ e2,by rw [← e5.length]; exact ej,?_⟩
 exact s.nx _ _ _ (a2.put ei e1 hg2 e4 ((e5.mono s2).set j (i1.mono s2))) q2
end
section
variable {P:Program} {w:World} {K:PySem.W.Frag} {mg:Str→Option Value} {base:Heap}
theorem vf {W:Vw} {N:List Str} {ds:List Dt} {vs:List V} (ia:AllIs K W.g ds vs) (hz:Z=W.h):At K Z W W.g W (yB N.length ds) (start N vs):=⟨Le.refl W,Same.refl _,Rl.start ia (hz ▸ Same.refl _)⟩
theorem okD {x qual:Str} {st:Stmt} {f:Addr} {fd:FuncData} {N ps:List Str} {k:Nat} {S:DSp} (F:Fun K x qual st f fd) (sc:zi N ps (defScope st)) (len:∀ ds Q,S ds Q→ds.length=ps.length)
  (hbody:∀ (cdv:Value) (A:Around) (outer:List Env) (s:Shared) (H:Hp) (E:XK),Room k (A.deeper (envOfC qual (defScope st) s.heap.objs.size f cdv))→∀ (ds:List Dt) (Q:Dt→Prop),S ds Q→
   ∃ t,DSs (yF CX0 P w K mg base N qual (defScope st) f cdv A outer s H E).nox .d (defBody st) t∧t { nx:=fun _=>Q .non,rt:=Q } (yB N.length ds)):FnOk P w K mg base CX0 (k+1) f fd ps (zt K S):=by
 refine F.ok sc (fun vs H Q E h=>?_) (fun cdv A outer s H vs Q E hr h=>?_)
 ·obtain ⟨W,ds,Qd,_,ia,hS,_⟩:=h
  rw [← ia.length]
  exact len ds Qd hS
 obtain ⟨W,ds,Qd,rfl,ia,hS,kk⟩:=h
 obtain ⟨t,⟨ts,p,l⟩,ht⟩:=hbody cdv A outer s W.h E hr ds Qd hS
 refine ⟨ts,p,l W W.g (yB N.length ds) (start N vs) W { nx:=fun _=>Qd .non,rt:=Qd } _ (vf ia (rj (Nat.succ_ne_self _))) ⟨fun ρ σ W' a q=>kk .non .non W' a.le (is_non.mpr rfl) q,fun d v W' s' i' q=>kk d v W' s' i' q,fun _ _ _ _ q=>q.elim,fun _ _ _ _ q=>q.elim⟩ ht⟩
theorem okF {x qual:Str} {st:Stmt} {f:Addr} {fd:FuncData} {N ps:List Str} {k:Nat} {S:DSp} (F:Fun K x qual st f fd) (sc:zi N ps (defScope st)) (len:∀ ds Q,S ds Q→ds.length=ps.length)
  (hbody:∀ (cdv:Value) (A:Around) (outer:List Env) (s:Shared) (H:Hp) (E:XK),Room k (A.deeper (envOfC qual (defScope st) s.heap.objs.size f cdv))→∀ (ds:List Dt) (Q:Dt→Prop),S ds Q→
   ∃ t,DSs (yF CX0 P w K mg base N qual (defScope st) f cdv A outer s H E).nox .l (defBody st) t∧t { nx:=fun _=>False,rt:=Q } (yB N.length ds)):FnOk P w K mg base CX0 (k+1) f fd ps (yZ K S):=by
 refine F.ok sc (fun vs H Q E h=>?_) (fun cdv A outer s H vs Q E hr h=>?_)
 ·obtain ⟨W,ds,Qd,_,ia,hS,_⟩:=h
  rw [← ia.length]
  exact len ds Qd hS
 obtain ⟨W,ds,Qd,rfl,ia,hS,kk⟩:=h
 obtain ⟨t,⟨ts,p,l⟩,ht⟩:=hbody cdv A outer s W.h E hr ds Qd hS
 exact ⟨ts,p,l W W.g (yB N.length ds) (start N vs) W { nx:=fun _=>False,rt:=Qd } _ (vf ia (rj (Nat.succ_ne_self _))) ⟨fun ρ σ W' a q=>q.elim,fun d v W' s' ⟨es,p,xs,e1,e2,e3,e4,e5,e6⟩ q=>by subst e1; subst e2; exact kk es p xs W' s' e3 e4 e5 e6 q,fun _ _ _ _ q=>q.elim,fun _ _ _ _ q=>q.elim⟩ ht⟩
theorem DOk.mk' {x qual:Str} {st:Stmt} {f:Addr} {fd:FuncData} {ps:List Str} {n:Nat} {S:DSp} (F:Fun K x qual st f fd) (hm:mg x=some (.ref f)) (hb:Binds K fd ps []) (h:FnOk P w K mg base CX0 n f fd ps (zt K S)):DOk P w K mg base n x S:=
 ⟨f,fd,ps,hm,F.kp,hb,h⟩
theorem FOk.mk' {x qual:Str} {st:Stmt} {f:Addr} {fd:FuncData} {ps:List Str} {n:Nat} {S:DSp} (F:Fun K x qual st f fd) (hm:mg x=some (.ref f)) (hb:Binds K fd ps []) (h:FnOk P w K mg base CX0 n f fd ps (yZ K S)):FOk P w K mg base n x S:=
 ⟨f,fd,ps,hm,F.kp,hb,h⟩
theorem DOk.mono {x:Str} {m n:Nat} {S:DSp} (h:DOk P w K mg base m x S) (hl:m≤n):DOk P w K mg base n x S:=
 let ⟨f,fd,ps,h1,h2,h3,h4⟩:=h.ex; ⟨f,fd,ps,h1,h2,h3,h4.mono hl⟩
theorem FOk.mono {x:Str} {m n:Nat} {S:DSp} (h:FOk P w K mg base m x S) (hl:m≤n):FOk P w K mg base n x S:=
 let ⟨f,fd,ps,h1,h2,h3,h4⟩:=h.ex; ⟨f,fd,ps,h1,h2,h3,h4.mono hl⟩
theorem MOk.mono {C:Addr} {x:Str} {m n:Nat} {S:DSp} (h:MOk P w K mg base m C x S) (hl:m≤n):MOk P w K mg base n C x S:=
 ⟨h.cl,let ⟨f,fd,ps,h1,h3,h4⟩:=h.ex; ⟨f,fd,ps,h1,h3,h4.mono hl⟩⟩
theorem FMOk.mono {C:Addr} {x:Str} {m n:Nat} {S:DSp} (h:FMOk P w K mg base m C x S) (hl:m≤n):FMOk P w K mg base n C x S:=
 ⟨h.cl,let ⟨f,fd,ps,h1,h3,h4⟩:=h.ex; ⟨f,fd,ps,h1,h3,h4.mono hl⟩⟩
theorem MOk.imp {C:Addr} {x:Str} {n:Nat} {S S':DSp} (h:MOk P w K mg base n C x S) (hi:∀ ds Q,S' ds Q→S ds Q):MOk P w K mg base n C x S':=
 ⟨h.cl,let ⟨f,fd,ps,h1,h3,h4⟩:=h.ex; ⟨f,fd,ps,h1,h3,h4.imp fun vs H Q E ⟨W,ds,Qd,a,b,c,d⟩=>⟨W,ds,Qd,a,b,hi _ _ c,d⟩⟩⟩
theorem FMOk.imp {C:Addr} {x:Str} {n:Nat} {S S':DSp} (h:FMOk P w K mg base n C x S) (hi:∀ ds Q,S' ds Q→S ds Q):FMOk P w K mg base n C x S':=
 ⟨h.cl,let ⟨f,fd,ps,h1,h3,h4⟩:=h.ex; ⟨f,fd,ps,h1,h3,h4.imp fun vs H Q E ⟨W,ds,Qd,a,b,c,d⟩=>⟨W,ds,Qd,a,b,hi _ _ c,d⟩⟩⟩
theorem DOk.imp {x:Str} {n:Nat} {S S':DSp} (h:DOk P w K mg base n x S) (hi:∀ ds Q,S' ds Q→S ds Q):DOk P w K mg base n x S':=
 let ⟨f,fd,ps,h1,h2,h3,h4⟩:=h.ex; ⟨f,fd,ps,h1,h2,h3,h4.imp fun vs H Q E ⟨W,ds,Qd,a,b,c,d⟩=>⟨W,ds,Qd,a,b,hi _ _ c,d⟩⟩
theorem vn {qual:Str} {st:Stmt} {g C:Addr} {fd:FuncData} {y f:Str} {k:Nat} {ok:Int→Prop} (F:Fun K "__init__" qual st g fd) (sc:zi ["self",y] ["self",y] (defScope st)) (cl:Cls K C) (na:NoAttr K C f)
  (hbody:∀ (cdv:Value) (A:Around) (outer:List Env) (s:Shared) (H:Hp) (E:XK),Room k (A.deeper (envOfC qual (defScope st) s.heap.objs.size g cdv))→
   ∃ te t,PSs (yF CX0 P w K mg base ["self",y] qual (defScope st) g cdv A outer s H E).nox (defBody st) (V3 K (aE 0) te f)∧LiE K (Zx (yF CX0 P w K mg base ["self",y] qual (defScope st) g cdv A outer s H E)) te t∧∀ i,ok i→t [.none,.some (.int i)] fun d=>d=.int i):
  FnOk P w K mg base CX0 (k+1) g fd ["self",y] (xE C f ok):=by
 refine F.ok sc (fun vs H Q E h=>?_) (fun cdv A outer s H vs Q E hr h=>?_)
 ·obtain ⟨p,dx,i,rfl,_⟩:=h
  rfl
 obtain ⟨p,dx,i,rfl,hp,hok,q⟩:=h
 obtain ⟨te,t,ps,l,ht⟩:=hbody cdv A outer s H E hr
 rw [eV] at l
 refine ⟨_,ps,l (F:=H) [.none,.some (.int i)] _ ⟨H,H,Same.refl H⟩ _ ⟨rfl,fun j d e=>?_,fun j ds e=>?_,fun j j' ds es _ e _=>?_,Same.refl H,Same.refl H,fun j a ds e=>?_⟩ (ht i hok) _ fun d v W1 s1 i1 ed=>?_⟩
 ·match j,e with
  | 0,e=>cases e
  | 1,e=>
   have e':Dt.int i=d:=by cases e; rfl
   subst e'
   exact ⟨.int i,rfl,is_int.mpr rfl⟩
  | j+2,e=>cases e
 ·match j,e with
  | 0,e=>cases e
  | 1,e=>cases e
  | j+2,e=>cases e
 ·match j,e with
  | 0,e=>cases e
  | 1,e=>cases e
  | j+2,e=>cases e
 ·match j,e with
  | 0,e=>cases e
  | 1,e=>cases e
  | j+2,e=>cases e
 ·subst ed
  obtain rfl:=is_int.mp i1
  refine ⟨.ref p,rfl,p,C,dx,[],rfl,s1.h _ _ hp,cl,na,(by show 0<1000; decide),?_⟩
  refine q _ zx fun b o hb hbp=>?_
  rw [zy hbp]
  exact s1.h _ _ hb
end
end OD
namespace OD
open PySem PySem.Spec PyProof.Rows L2
mutual
def eqD:Dt→Dt→Bool
 | .non,.non=>true
 | .bl a,.bl b=>a == b
 | .bl a,.int b=>(if a then (1:Int) else 0) == b
 | .int a,.bl b=>a == (if b then (1:Int) else 0)
 | .int a,.int b=>a == b
 | .str a,.str b=>a == b
 | .tup ds,.tup es=>wy ds es
 | .lst ds,.lst es=>wy ds es
 | _,_=>false
def wy:List Dt→List Dt→Bool
 | [],[]=>true
 | d::ds,e::es=>eqD d e && wy ds es
 | _,_=>false
end
def okE:Nat→Dt→Bool
 | _,.non=>true
 | _,.bl _=>true
 | _,.int _=>true
 | _,.str _=>true
 | n+1,.tup ds=>ds.all (okE n)
 | n+1,.lst ds=>ds.all (okE n)
 | _,_=>false
theorem xh (a b:Int):eqD (.int a) (.int b)=(a == b):=by unfold eqD; rfl
theorem bH (a b:Bool):eqD (.bl a) (.bl b)=(a == b):=by unfold eqD; rfl
theorem hZ (a b:Str):eqD (.str a) (.str b)=(a == b):=by unfold eqD; rfl
theorem uv (ds es:List Dt):eqD (.tup ds) (.tup es)=wy ds es:=by rw [eqD]
theorem s_ (ds es:List Dt):eqD (.lst ds) (.lst es)=wy ds es:=by rw [eqD]
theorem uu:wy [] []=true:=by unfold wy; rfl
theorem x6 (d e:Dt) (ds es:List Dt):wy (d::ds) (e::es)=(eqD d e && wy ds es):=by rw [wy]
theorem pZ (e:Dt) (es:List Dt):wy [] (e::es)=false:=by unfold wy; rfl
theorem p5 (e:Dt) (es:List Dt):wy (e::es) []=false:=by unfold wy; rfl
theorem xy:∀ ds es:List Dt,(((List.range (min ds.length es.length)).all fun j=>eqD (ds.getD j .non) (es.getD j .non)) && (ds.length == es.length))=wy ds es
 | [],[]=>by rw [uu]; rfl
 | [],e::es=>by
  rw [pZ]
  have h:((([]:List Dt).length == (e::es).length))=false:=by simp
  rw [h,Bool.and_false]
 | d::ds,[]=>by
  rw [p5]
  have h:(((d::ds).length == ([]:List Dt).length))=false:=by simp
  rw [h,Bool.and_false]
 | d::ds,e::es=>by
  have ih:=xy ds es
  rw [x6,← ih]
  have hm:min (d::ds).length (e::es).length=min ds.length es.length+1:=by
   rw [List.length_cons,List.length_cons]; omega
  rw [hm,List.range_succ_eq_map,List.all_cons,List.all_map,Bool.and_assoc]
  have hl:((d::ds).length == (e::es).length)=(ds.length == es.length):=by
   rw [List.length_cons,List.length_cons]
   rw [Bool.eq_iff_iff,beq_iff_eq,beq_iff_eq]
   omega
  rw [hl]
  rfl
theorem oA {ds es:List Dt} (h:ds.length≠es.length):wy ds es=false:=by
 rw [← xy ds es]
 have h:(ds.length == es.length)=false:=beq_eq_false_iff_ne.mpr h
 rw [h,Bool.and_false]
theorem lO {ds es:List Dt} (h:ds.length=es.length):((List.range ds.length).all fun j=>eqD (ds.getD j .non) (es.getD j .non))=wy ds es:=by
 rw [← xy ds es]
 have h':(ds.length == es.length)=true:=beq_iff_eq.mpr h
 rw [h',Bool.and_true,← h,Nat.min_self]
theorem tO:∀ {ds:List Dt},(∀ d∈ds,eqD d d=true)→wy ds ds=true
 | [],_=>uu
 | d::ds,h=>by
  rw [x6,h d List.mem_cons_self,tO fun e he=>h e (List.mem_cons_of_mem _ he)]
  rfl
theorem qw:∀ (n:Nat) {d:Dt},okE n d=true→eqD d d=true:=by
 intro n
 induction n with
 | zero=>
  intro d h
  cases d with
  | non=>unfold eqD; rfl
  | bl b=>rw [bH]; exact beq_self_eq_true _
  | int b=>rw [xh]; exact beq_self_eq_true _
  | str b=>rw [hZ]; exact beq_self_eq_true _
  | _=>simp [okE] at h
 | succ n ih=>
  intro d h
  cases d with
  | non=>unfold eqD; rfl
  | bl b=>rw [bH]; exact beq_self_eq_true _
  | int b=>rw [xh]; exact beq_self_eq_true _
  | str b=>rw [hZ]; exact beq_self_eq_true _
  | tup ds=>
   rw [uv]
   have h':∀ d∈ds,okE n d=true:=by simpa [okE] using h
   exact tO fun d hd=>ih (h' d hd)
  | lst ds=>
   rw [s_]
   have h':∀ d∈ds,okE n d=true:=by simpa [okE] using h
   exact tO fun d hd=>ih (h' d hd)
  | _=>simp [okE] at h
example:eqD (.int ((2:Nat):Int)) (.int 2)=true:=by rfl
section
variable {X:Cx} {pins:List (Addr × Obj)} {σ:St} {K:PySem.W.Frag} {H:Hp} {s:Shared}
theorem j9:∀ {ds es:List Dt} {xs:List V},(∀ d e v,d∈ds→e∈es→Is K H d v→Is K H e v→eqD d e=true)→AllIs K H ds xs→AllIs K H es xs→wy ds es=true
 | [],es,xs,ih,i1,i2=>by
  obtain rfl:=allIs_nil.mp i1
  cases es with
  | nil=>exact uu
  | cons e es=>obtain ⟨_,_,z,_⟩:=allIs_cons.mp i2; cases z
 | d::ds,es,xs,ih,i1,i2=>by
  obtain ⟨x,r,rfl,j1,j2⟩:=allIs_cons.mp i1
  cases es with
  | nil=>cases allIs_nil.mp i2
  | cons e es=>
   obtain ⟨y,r',z,k1,k2⟩:=allIs_cons.mp i2
   cases z
   rw [x6,ih d e x List.mem_cons_self List.mem_cons_self j1 k1,j9 (fun d' e' v' hd he=>ih d' e' v' (List.mem_cons_of_mem _ hd) (List.mem_cons_of_mem _ he)) j2 k2]
   rfl
def w6:Dt→Bool
 | .non=>true
 | .bl _=>true
 | .int _=>true
 | .str _=>true
 | _=>false
def vD:Dt→V
 | .bl b=>.bl b
 | .int i=>.int i
 | .str x=>.str x
 | _=>.non
theorem zW {d:Dt} {v:V} (h:w6 d=true) (i:Is K H d v):v=vD d:=by
 cases d <;> first | exact is_non.mp i | exact is_bl.mp i | exact is_int.mp i | exact is_str.mp i | cases h
theorem tM {d:Dt} (h:w6 d=true):hG (vD d)=true:=by cases d <;> first | rfl | cases h
theorem ur {d:Dt} {a:Addr} (h:w6 d=true) (e:vD d=.ref a):False:=by cases d <;> first | cases e | cases h
theorem lN {v:V} (h:hG v=true):eqV v v=true:=by cases v <;> first | rfl | exact beq_self_eq_true _ | cases h
theorem uw {d e:Dt} (h1:w6 d=true) (h2:w6 e=true):eqD d e=eqV (vD d) (vD e):=by cases d <;> first | exact absurd h1 Bool.false_ne_true | (cases e <;> first | exact absurd h2 Bool.false_ne_true | rfl)
theorem w9 {d:Dt} {es:List Dt} (h:w6 d=true):eqD d (.tup es)=false∧eqD (.tup es) d=false∧eqD d (.lst es)=false∧eqD (.lst es) d=false:=by
 cases d <;> first | exact ⟨rfl,rfl,rfl,rfl⟩ | cases h
theorem xm {n:Nat} {d:Dt} (h:okE n d=true):w6 d=true∨∃ m ds,n=m+1∧(d=.tup ds∨d=.lst ds)∧∀ d∈ds,okE m d=true:=by
 cases d with
 | non=>exact .inl rfl
 | bl b=>exact .inl rfl
 | int b=>exact .inl rfl
 | str b=>exact .inl rfl
 | tup ds=>
  cases n with
  | zero=>simp [okE] at h
  | succ m=>exact .inr ⟨m,ds,rfl,.inl rfl,by simpa [okE] using h⟩
 | lst ds=>
  cases n with
  | zero=>simp [okE] at h
  | succ m=>exact .inr ⟨m,ds,rfl,.inr rfl,by simpa [okE] using h⟩
 | _=>cases n <;> simp [okE] at h
theorem hW:∀ (n:Nat) {d e:Dt} {v:V},okE n d=true→okE n e=true→Is K H d v→Is K H e v→eqD d e=true:=by
 intro n
 induction n with
 | zero=>
  intro d e v h1 h2 i1 i2
  rcases xm h1 with f1 | ⟨m,ds,z,_⟩
  ·rcases xm h2 with f2 | ⟨m,ds,z,_⟩
   ·rw [uw f1 f2,← zW f1 i1,← zW f2 i2]
    exact lN (by rw [zW f1 i1]; exact tM f1)
   ·cases z
  ·cases z
 | succ n ih=>
  intro d e v h1 h2 i1 i2
  rcases xm h1 with f1 | ⟨m,ds,z,hk,hd⟩
  ·rcases xm h2 with f2 | ⟨m,es,z,hk,he⟩
   ·rw [uw f1 f2,← zW f1 i1,← zW f2 i2]
    exact lN (by rw [zW f1 i1]; exact tM f1)
   ·obtain rfl:=zW f1 i1
    rcases hk with rfl | rfl
    ·obtain ⟨_,_,e,_⟩:=is_tup.mp i2; exact (ur f1 e).elim
    ·obtain ⟨_,_,e,_⟩:=is_lst.mp i2; exact (ur f1 e).elim
  ·cases z
   rcases xm h2 with f2 | ⟨m,es,z,hk2,he⟩
   ·obtain rfl:=zW f2 i2
    rcases hk with rfl | rfl
    ·obtain ⟨_,_,e,_⟩:=is_tup.mp i1; exact (ur f2 e).elim
    ·obtain ⟨_,_,e,_⟩:=is_lst.mp i1; exact (ur f2 e).elim
   ·cases z
    rcases hk with rfl | rfl
    ·obtain ⟨a,xs,rfl,hx,ha⟩:=is_tup.mp i1
     rcases hk2 with rfl | rfl
     ·obtain ⟨b,ys,eb,hy,hb⟩:=is_tup.mp i2
      cases eb
      rw [hx] at hy
      cases hy
      rw [uv]
      exact j9 (fun d e v q1 q2=>ih (hd d q1) (he e q2)) ha hb
     ·obtain ⟨b,ys,eb,hy,hb⟩:=is_lst.mp i2
      cases eb
      rw [hx] at hy
      cases hy
    ·obtain ⟨a,xs,rfl,hx,ha⟩:=is_lst.mp i1
     rcases hk2 with rfl | rfl
     ·obtain ⟨b,ys,eb,hy,hb⟩:=is_tup.mp i2
      cases eb
      rw [hx] at hy
      cases hy
     ·obtain ⟨b,ys,eb,hy,hb⟩:=is_lst.mp i2
      cases eb
      rw [hx] at hy
      cases hy
      rw [s_]
      exact j9 (fun d e v q1 q2=>ih (hd d q1) (he e q2)) ha hb
section
variable {A:Around}
open SeqAt
theorem vx {d:Dt} {v:Value} {b:Addr} {its:Array Value} (f:w6 d=true) (q:RelV (vD d) v) (t:s.heap.IsTuple b its) (hA:A.units<cLine):
  (EqAt A s v (.ref b) false∧EqAt A s (.ref b) v false)∧(RcAt A s v (.ref b) false∧RcNeAt A s v (.ref b) true)∧RcAt A s (.ref b) v false∧RcNeAt A s (.ref b) v true:=by
 cases d with
 | non=>cases q; exact ⟨⟨.none_tuple t hA,.tuple_none t hA⟩,⟨.none_tuple t hA,.none_tuple t hA⟩,.tuple_none t hA,.tuple_none t hA⟩
 | bl a=>cases q; exact ⟨⟨.bool_tuple a t hA,.tuple_bool a t hA⟩,⟨.bool_tuple a t hA,.bool_tuple a t hA⟩,.tuple_bool a t hA,.tuple_bool a t hA⟩
 | int a=>obtain ⟨u,rfl⟩:=q; exact ⟨⟨.int_tuple a u t hA,.tuple_int a u t hA⟩,⟨.int_tuple a u t hA,.int_tuple a u t hA⟩,.tuple_int a u t hA,.tuple_int a u t hA⟩
 | str a=>obtain ⟨u,rfl⟩:=q; exact ⟨⟨.str_tuple a u t hA,.tuple_str a u t hA⟩,⟨.str_tuple a u t hA,.str_tuple a u t hA⟩,.tuple_str a u t hA,.tuple_str a u t hA⟩
 | _=>cases f
theorem vy {d:Dt} {v:Value} {b:Addr} {its:Array Value} (f:w6 d=true) (q:RelV (vD d) v) (t:s.heap.IsList b its) (hA:A.units<cLine):
  (EqAt A s v (.ref b) false∧EqAt A s (.ref b) v false)∧(RcAt A s v (.ref b) false∧RcNeAt A s v (.ref b) true)∧RcAt A s (.ref b) v false∧RcNeAt A s (.ref b) v true:=by
 cases d with
 | non=>cases q; exact ⟨⟨.none_list t hA,.list_none t hA⟩,⟨.none_list t hA,.none_list t hA⟩,.list_none t hA,.list_none t hA⟩
 | bl a=>cases q; exact ⟨⟨.bool_list a t hA,.list_bool a t hA⟩,⟨.bool_list a t hA,.bool_list a t hA⟩,.list_bool a t hA,.list_bool a t hA⟩
 | int a=>obtain ⟨u,rfl⟩:=q; exact ⟨⟨.int_list a u t hA,.list_int a u t hA⟩,⟨.int_list a u t hA,.int_list a u t hA⟩,.list_int a u t hA,.list_int a u t hA⟩
 | str a=>obtain ⟨u,rfl⟩:=q; exact ⟨⟨.str_list a u t hA,.list_str a u t hA⟩,⟨.str_list a u t hA,.str_list a u t hA⟩,.list_str a u t hA,.list_str a u t hA⟩
 | _=>cases f
theorem Z3 {d e:Dt} {v u:Value} (f1:w6 d=true) (f2:w6 e=true) (q1:RelV (vD d) v) (q2:RelV (vD e) u):RcAt A s v u (eqD d e)∧RcNeAt A s v u (!eqD d e):=by
 cases d with
 | non=>
  cases q1
  cases e with
  | non=>cases q2; exact ⟨.none_none,.none_none⟩
  | bl b=>cases q2; exact ⟨.none_bool b,.none_bool b⟩
  | int b=>obtain ⟨t,rfl⟩:=q2; exact ⟨.none_int b t,.none_int b t⟩
  | str b=>obtain ⟨t,rfl⟩:=q2; exact ⟨.none_str b t,.none_str b t⟩
  | _=>cases f2
 | bl a=>
  cases q1
  cases e with
  | non=>cases q2; exact ⟨.bool_none a,.bool_none a⟩
  | bl b=>cases q2; exact ⟨.bool_bool a b,.bool_bool a b⟩
  | int b=>obtain ⟨t,rfl⟩:=q2; exact ⟨.bool_int a b t,.bool_int a b t⟩
  | str b=>obtain ⟨t,rfl⟩:=q2; exact ⟨.bool_str a b t,.bool_str a b t⟩
  | _=>cases f2
 | int a=>
  obtain ⟨ta,rfl⟩:=q1
  cases e with
  | non=>cases q2; exact ⟨.int_none a ta,.int_none a ta⟩
  | bl b=>cases q2; exact ⟨.int_bool a ta b,.int_bool a ta b⟩
  | int b=>obtain ⟨t,rfl⟩:=q2; exact ⟨.int_int a ta b t,.int_int a ta b t⟩
  | str b=>obtain ⟨t,rfl⟩:=q2; exact ⟨.int_str a ta b t,.int_str a ta b t⟩
  | _=>cases f2
 | str a=>
  obtain ⟨ta,rfl⟩:=q1
  cases e with
  | non=>cases q2; exact ⟨.str_none a ta,.str_none a ta⟩
  | bl b=>cases q2; exact ⟨.str_bool a ta b,.str_bool a ta b⟩
  | int b=>obtain ⟨t,rfl⟩:=q2; exact ⟨.str_int a ta b t,.str_int a ta b t⟩
  | str b=>obtain ⟨t,rfl⟩:=q2; exact ⟨.str_str a ta b t,.str_str a ta b t⟩
  | _=>cases f2
 | _=>cases f1
end
theorem um {n:Nat} {A:Around} {ds es:List Dt} {xs ys:List V} {its its2:List Value}
  (ih:∀ {d e:Dt} {x y:V} {v u:Value},okE n d=true→okE n e=true→Is K H d x→Is K H e y→RelV x v→RelV y u→SeqAt.EqAt A s v u (eqD d e))
  (hd:∀ d∈ds,okE n d=true) (he:∀ d∈es,okE n d=true) (a1:AllIs K H ds xs) (a2:AllIs K H es ys) (r1:Vals xs its) (r2:Vals ys its2):
  ∀ j (h1:j<its.toArray.size) (h2:j<its2.toArray.size),SeqAt.EqAt A s its.toArray[j] its2.toArray[j] (eqD (ds.getD j .non) (es.getD j .non)):=by
 intro j h1 h2
 have l1:=a1.length.trans r1.length
 have l2:=a2.length.trans r2.length
 rw [List.size_toArray] at h1 h2
 have g1:ds[j]? = some ds[j]:=List.getElem?_eq_getElem (by omega)
 have g2:es[j]? = some es[j]:=List.getElem?_eq_getElem (by omega)
 obtain ⟨x,e1,i1⟩:=a1.get g1
 obtain ⟨y,e2,i2⟩:=a2.get g2
 obtain ⟨v,e3,q1⟩:=r1.get e1
 obtain ⟨u,e4,q2⟩:=r2.get e2
 have f1:ds.getD j .non=ds[j]:=by rw [List.getD_eq_getElem?_getD,g1]; rfl
 have f2:es.getD j .non=es[j]:=by rw [List.getD_eq_getElem?_getD,g2]; rfl
 have f3:its.toArray[j]=v:=by
  have z:its[j]? = some its[j]:=List.getElem?_eq_getElem h1
  rw [z] at e3
  simpa using Option.some.inj e3
 have f4:its2.toArray[j]=u:=by
  have z:its2[j]? = some its2[j]:=List.getElem?_eq_getElem h2
  rw [z] at e4
  simpa using Option.some.inj e4
 rw [f1,f2,f3,f4]
 exact ih (hd _ (List.mem_of_getElem? g1)) (he _ (List.mem_of_getElem? g2)) i1 i2 q1 q2
theorem UU (I:Inv X pins σ H s):∀ (n:Nat) {A:Around} {d e:Dt} {x y:V} {v u:Value},A.units+n<cLine→okE n d=true→okE n e=true→Is X.K H d x→Is X.K H e y→RelV x v→RelV y u→SeqAt.EqAt A s v u (eqD d e):=by
 intro n
 induction n with
 | zero=>
  intro A d e x y v u hu h1 h2 i1 i2 q1 q2
  rcases xm h1 with f1 | ⟨m,ds,z,_⟩
  ·rcases xm h2 with f2 | ⟨m,ds,z,_⟩
   ·rw [uw f1 f2]
    rw [zW f1 i1] at q1
    rw [zW f2 i2] at q2
    exact bI q1 q2 (tM f1) (tM f2)
   ·cases z
  ·cases z
 | succ n ih=>
  intro A d e x y v u hu h1 h2 i1 i2 q1 q2
  have hA:A.units<cLine:=by omega
  have hu':A.in1.units+n<cLine:=by show A.units+1+n<cLine; omega
  rcases xm h1 with f1 | ⟨m,ds,z,hk,hd⟩
  ·rw [zW f1 i1] at q1
   rcases xm h2 with f2 | ⟨m,es,z,rfl | rfl,he⟩
   ·rw [uw f1 f2]
    rw [zW f2 i2] at q2
    exact bI q1 q2 (tM f1) (tM f2)
   ·obtain ⟨b,ys,rfl,hy,hb⟩:=is_tup.mp i2
    obtain ⟨its2,r2,t2,_⟩:=I.tuple (.of hy)
    cases q2
    rw [(w9 f1).1]
    exact (vx f1 q1 t2 hA).1.1
   ·obtain ⟨b,ys,rfl,hy,hb⟩:=is_lst.mp i2
    obtain ⟨its2,r2,t2,_⟩:=I.list (.of hy)
    cases q2
    rw [(w9 f1).2.2.1]
    exact (vy f1 q1 t2.isList hA).1.1
  ·cases z
   rcases hk with rfl | rfl
   ·obtain ⟨a,xs,rfl,hx,ha⟩:=is_tup.mp i1
    obtain ⟨its,r1,t1,_⟩:=I.tuple (.of hx)
    cases q1
    rcases xm h2 with f2 | ⟨m,es,z,rfl | rfl,he⟩
    ·rw [zW f2 i2] at q2
     rw [(w9 f2).2.1]
     exact (vx f2 q2 t1 hA).1.2
    ·cases z
     have i2':=i2
     obtain ⟨b,ys,rfl,hy,hb⟩:=is_tup.mp i2
     obtain ⟨its2,r2,t2,_⟩:=I.tuple (.of hy)
     cases q2
     by_cases hab:a=b
     ·subst hab
      rw [hW _ h1 h2 i1 i2']
      exact SeqAt.EqAt.same _
     ·have q:=SeqAt.RcAt.tuples t1 t2 hA (um (fun {d e x y v u}=>ih (A:=A.in1) hu') hd he ha hb r1 r2)
      rw [List.size_toArray,List.size_toArray,← r1.length,← r2.length,← ha.length,← hb.length,xy] at q
      rw [uv]
      exact .of_refs hab q
    ·obtain ⟨b,ys,rfl,hy,hb⟩:=is_lst.mp i2
     obtain ⟨its2,r2,t2,_⟩:=I.list (.of hy)
     cases q2
     exact SeqAt.EqAt.tuple_list t1 t2.isList hA
   ·obtain ⟨a,xs,rfl,hx,ha⟩:=is_lst.mp i1
    obtain ⟨its,r1,t1,_⟩:=I.list (.of hx)
    cases q1
    rcases xm h2 with f2 | ⟨m,es,z,rfl | rfl,he⟩
    ·rw [zW f2 i2] at q2
     rw [(w9 f2).2.2.2]
     exact (vy f2 q2 t1.isList hA).1.2
    ·obtain ⟨b,ys,rfl,hy,hb⟩:=is_tup.mp i2
     obtain ⟨its2,r2,t2,_⟩:=I.tuple (.of hy)
     cases q2
     exact SeqAt.EqAt.list_tuple t1.isList t2 hA
    ·cases z
     have i2':=i2
     obtain ⟨b,ys,rfl,hy,hb⟩:=is_lst.mp i2
     obtain ⟨its2,r2,t2,_⟩:=I.list (.of hy)
     cases q2
     by_cases hab:a=b
     ·subst hab
      rw [hW _ h1 h2 i1 i2']
      exact SeqAt.EqAt.same _
     ·rw [s_]
      have l1:=ha.length.trans r1.length
      have l2:=hb.length.trans r2.length
      by_cases hl:ds.length=es.length
      ·have q:=SeqAt.RcAt.lists t1.isList t2.isList (by rw [List.size_toArray,List.size_toArray]; omega) hA (um (fun {d e x y v u}=>ih (A:=A.in1) hu') hd he ha hb r1 r2)
       rw [List.size_toArray,← l1,lO hl] at q
       exact .of_refs hab q
      ·have q:=SeqAt.RcAt.lists_lengths t1.isList t2.isList (by rw [List.size_toArray,List.size_toArray,bne_iff_ne]; omega) hA
       rw [oA hl]
       exact .of_refs hab q
theorem YD (I:Inv X pins σ H s) {n:Nat} {A:Around} {d e:Dt} {x y:V} {v u:Value} (hu:A.units+(n+1)<cLine) (h1:okE (n+1) d=true) (h2:okE (n+1) e=true) (i1:Is X.K H d x) (i2:Is X.K H e y) (q1:RelV x v) (q2:RelV y u):
  SeqAt.RcAt A s v u (eqD d e)∧SeqAt.RcNeAt A s v u (!eqD d e):=by
 have hA:A.units<cLine:=by omega
 have hu':A.in1.units+n<cLine:=by show A.units+1+n<cLine; omega
 have ih:=fun {d e:Dt} {x y:V} {v u:Value}=>UU I n (A:=A.in1) (d:=d) (e:=e) (x:=x) (y:=y) (v:=v) (u:=u) hu'
 rcases xm h1 with f1 | ⟨m,ds,z,hk,hd⟩
 ·rw [zW f1 i1] at q1
  rcases xm h2 with f2 | ⟨m,es,z,rfl | rfl,he⟩
  ·rw [zW f2 i2] at q2
   exact Z3 f1 f2 q1 q2
  ·obtain ⟨b,ys,rfl,hy,hb⟩:=is_tup.mp i2
   obtain ⟨its2,r2,t2,_⟩:=I.tuple (.of hy)
   cases q2
   rw [(w9 f1).1]
   exact (vx f1 q1 t2 hA).2.1
  ·obtain ⟨b,ys,rfl,hy,hb⟩:=is_lst.mp i2
   obtain ⟨its2,r2,t2,_⟩:=I.list (.of hy)
   cases q2
   rw [(w9 f1).2.2.1]
   exact (vy f1 q1 t2.isList hA).2.1
 ·cases z
  rcases hk with rfl | rfl
  ·obtain ⟨a,xs,rfl,hx,ha⟩:=is_tup.mp i1
   obtain ⟨its,r1,t1,_⟩:=I.tuple (.of hx)
   cases q1
   rcases xm h2 with f2 | ⟨m,es,z,rfl | rfl,he⟩
   ·rw [zW f2 i2] at q2
    rw [(w9 f2).2.1]
    exact (vx f2 q2 t1 hA).2.2
   ·cases z
    obtain ⟨b,ys,rfl,hy,hb⟩:=is_tup.mp i2
    obtain ⟨its2,r2,t2,_⟩:=I.tuple (.of hy)
    cases q2
    have it:=um (A:=A.in1) ih hd he ha hb r1 r2
    have q:=SeqAt.RcAt.tuples t1 t2 hA it
    have q':=SeqAt.RcNeAt.tuples t1 t2 hA it
    rw [List.size_toArray,List.size_toArray,← r1.length,← r2.length,← ha.length,← hb.length,xy] at q q'
    rw [uv]
    exact ⟨q,q'⟩
   ·obtain ⟨b,ys,rfl,hy,hb⟩:=is_lst.mp i2
    obtain ⟨its2,r2,t2,_⟩:=I.list (.of hy)
    cases q2
    exact ⟨SeqAt.RcAt.tuple_list t1 t2.isList hA,SeqAt.RcNeAt.tuple_list t1 t2.isList hA⟩
  ·obtain ⟨a,xs,rfl,hx,ha⟩:=is_lst.mp i1
   obtain ⟨its,r1,t1,_⟩:=I.list (.of hx)
   cases q1
   rcases xm h2 with f2 | ⟨m,es,z,rfl | rfl,he⟩
   ·rw [zW f2 i2] at q2
    rw [(w9 f2).2.2.2]
    exact (vy f2 q2 t1.isList hA).2.2
   ·obtain ⟨b,ys,rfl,hy,hb⟩:=is_tup.mp i2
    obtain ⟨its2,r2,t2,_⟩:=I.tuple (.of hy)
    cases q2
    exact ⟨SeqAt.RcAt.list_tuple t1.isList t2 hA,SeqAt.RcNeAt.list_tuple t1.isList t2 hA⟩
   ·cases z
    obtain ⟨b,ys,rfl,hy,hb⟩:=is_lst.mp i2
    obtain ⟨its2,r2,t2,_⟩:=I.list (.of hy)
    cases q2
    rw [s_]
    have l1:=ha.length.trans r1.length
    have l2:=hb.length.trans r2.length
    by_cases hl:ds.length=es.length
    ·have it:=um (A:=A.in1) ih hd he ha hb r1 r2
     have q:=SeqAt.RcAt.lists t1.isList t2.isList (by rw [List.size_toArray,List.size_toArray]; omega) hA it
     have q':=SeqAt.RcNeAt.lists t1.isList t2.isList (by rw [List.size_toArray,List.size_toArray]; omega) hA it
     rw [List.size_toArray,← l1,lO hl] at q q'
     exact ⟨q,q'⟩
    ·have q:=SeqAt.RcAt.lists_lengths t1.isList t2.isList (by rw [List.size_toArray,List.size_toArray,bne_iff_ne]; omega) hA
     have q':=SeqAt.RcNeAt.lists_lengths t1.isList t2.isList (by rw [List.size_toArray,List.size_toArray,bne_iff_ne]; omega) hA
     rw [oA hl]
     exact ⟨q,q'⟩
def gEq:Dt→Dt→(Dt→Prop)→Prop:=fun d e Q=>okE 40 d=true∧okE 40 e=true∧Q (.bl (eqD d e))
def gNe:Dt→Dt→(Dt→Prop)→Prop:=fun d e Q=>okE 40 d=true∧okE 40 e=true∧Q (.bl (!eqD d e))
theorem yu {k:Nat} (hr:Room k X.A):DOp X (compareOp .Eq) gEq:=by
 refine ⟨fun x y H Q=>∃ d e,Is X.K H d x∧Is X.K H e y∧okE 40 d=true∧okE 40 e=true∧Q (.bl (eqD d e)) H,fun pins s σ H x y v u Q I rx ry h=>?_,fun H x y d e Q i1 i2 q R k=>⟨d,e,Is.mono0 H.sub i1,Is.mono0 H.sub i2,q.1,q.2.1,k _ _ H (Le.refl H) (is_bl.mpr rfl) q.2.2⟩⟩
 obtain ⟨d,e,i1,i2,h1,h2,q⟩:=h
 have hu:=hr.units
 exact (YD (n:=39) I (A:=X.A) (by omega) h1 h2 i1 i2 rx ry).1 _ _ _ _ ⟨.bl _,H,I,rfl,q⟩
theorem ng {k:Nat} (hr:Room k X.A):DOp X (compareOp .NotEq) gNe:=by
 refine ⟨fun x y H Q=>∃ d e,Is X.K H d x∧Is X.K H e y∧okE 40 d=true∧okE 40 e=true∧Q (.bl (!eqD d e)) H,fun pins s σ H x y v u Q I rx ry h=>?_,fun H x y d e Q i1 i2 q R k=>⟨d,e,Is.mono0 H.sub i1,Is.mono0 H.sub i2,q.1,q.2.1,k _ _ H (Le.refl H) (is_bl.mpr rfl) q.2.2⟩⟩
 obtain ⟨d,e,i1,i2,h1,h2,q⟩:=h
 have hu:=hr.units
 exact (YD (n:=39) I (A:=X.A) (by omega) h1 h2 i1 i2 rx ry).2 _ _ _ _ ⟨.bl _,H,I,rfl,q⟩
end
end OD
namespace OD
open PySem PySem.Spec PyProof.Rows L2
section
variable {X:Cx} {pins:List (Addr × Obj)} {σ:St} {H:Hp} {s:Shared} {scope:Scope} {x:Str} {fp:List Addr}
end
end OD
namespace OD
variable {Z:Hp}
open PySem PySem.Spec PyProof.Rows L2
section
variable {X:Cx} {pins:List (Addr × Obj)} {σ:St} {H:Hp} {s:Shared} {h':Heap}
theorem YN {ch:List Addr} (hn:∀ b∈ch,xQ X pins H b):∀ b∈ch,(b∈X.ex∨X.s₀.heap.objs.size≤b)∧b≠X.env.locals∧(∀ x c,X.env.cells.lookup x=some c→c≠b)∧∀ p∈X.pn++pins,p.1≠b:=fun b hb=>by
 obtain ⟨_,h2,_,h4,h5,h6⟩:=hn b hb
 exact ⟨h4,h2,h5,h6⟩
theorem jH {ch:List Addr} {t':Nat} (I:Inv X pins σ H s) (hn:∀ b∈ch,xQ X pins H b) (k:∀ b o,b∉ch→s.heap.get? b=some o→h'.get? b=some o):Inv X pins σ H { s with heap:=h',toks:=t' }:=by
 have nit:∀ b u,H b=some u→b∉ch:=fun b u e z=>by rw [(hn b z).1] at e; cases e
 refine I.step (g':=s.gens) (d':=s.drawn) (ch:=ch) (YN hn) (fun b o _ _ hc e _=>k b o hc e) (fun b o _ _ hc e _=>⟨o.slots,k b o hc e⟩) (fun _ _ _ _ n=>n)
  (fun b o hc e=>⟨o,k b o hc e⟩) (fun _ _ e=>e) (fun _ _ _ e=>e) (fun b ps e=>⟨#[],by rw [e]; simp⟩) (fun m hm=>?_) (fun b u e=>?_) I.bare
 ·obtain ⟨o,es,ep,ho,r⟩:=hm
  exact ⟨o,es,ep,k _ o (fun z=>(hn _ z).2.1 rfl) ho,r⟩
 ·refine (I.hok b u e).stay (fun c v hc q=>k c v ?_ q) (fun _ q=>q) fun _ _ q=>q
  rcases hc with z | z
  ·rw [z]; exact nit b u e
  ·exact nit c _ z
theorem lD {ch:List Addr} {t':Nat} {T:Addr} {xs:List V} (I:Inv X pins σ H s) (hn:∀ b∈ch,xQ X pins H b) (k:∀ b o,b∉ch→s.heap.get? b=some o→h'.get? b=some o) (hT:s.heap.objs.size≤T)
  (new:ObjOk X.prog X.w (upd H T (.tup xs)) h' T (.tup xs)):Inv X pins σ (upd H T (.tup xs)) { s with heap:=h',toks:=t' }:=by
 have nit:∀ b u,H b=some u→b∉ch:=fun b u e z=>by rw [(hn b z).1] at e; cases e
 have fT:H T=none:=I.hok.fresh hT
 have old:∀ b o,s.heap.get? b=some o→b≠T:=fun b o e=>Nat.ne_of_lt (Nat.lt_of_lt_of_le (Heap.lt_size e) hT)
 have up:∀ b u,H b=some u→upd H T (.tup xs) b=some u:=fun b u e=>(zy (z7 e fT)).trans e
 refine I.step (g':=s.gens) (d':=s.drawn) (ch:=ch) (YN hn) (fun b o _ _ hc e _=>k b o hc e) (fun b o _ _ hc e _=>⟨o.slots,k b o hc e⟩) (fun b o _ e n=>(zy (old b o e)).trans n)
  (fun b o hc e=>⟨o,k b o hc e⟩) (fun b xs e=>up b _ e) (fun b o u e=>up b _ e) (fun b ps e=>⟨#[],by rw [up b _ e]; simp⟩) (fun m hm=>?_) (fun b u e=>?_) I.bare
 ·obtain ⟨o,es,ep,ho,r⟩:=hm
  exact ⟨o,es,ep,k _ o (fun z=>(hn _ z).2.1 rfl) ho,r⟩
 ·by_cases hb:b=T
  ·subst hb
   rw [zx] at e
   cases e
   exact new
  ·rw [zy hb] at e
   refine (I.hok b u e).stay (fun c v hc q=>k c v ?_ q) (fun c q=>up c _ q) fun c ys q=>up c _ q
   rcases hc with z | z
   ·rw [z]; exact nit b u e
   ·exact nit c _ z
end
section
variable {X:Cx}
end
section
variable {X:Cx} {fr:Fr} {ta:DTA} {tb:DTS} {pos:Pos}
theorem jF {K:PySem.W.Frag} {W1:Vw} {d:Dt} {v:V} {ds:List Dt} (i1:Is K W1.g d v) (el:wZ d=some ds):∃ a xs,v=.ref a∧(∀ W2:Vw,Same W1.g W2.g→SqL K W2.h a xs)∧AllIs K W1.g ds xs:=by
 cases d with
 | lst es=>
  obtain rfl:es=ds:=Option.some.inj el
  obtain ⟨a,xs,rfl,h1,h2⟩:=is_lst.mp i1
  exact ⟨a,xs,rfl,fun W2 s2=>.of (W2.sub _ _ (s2 _ _ h1)),h2⟩
 | scr ns=>
  obtain rfl:ns.map Dt.int=ds:=Option.some.inj el
  obtain ⟨a,rfl,h1⟩:=is_scr.mp i1
  exact ⟨a,_,rfl,fun W2 s2=>W2.sub.seq (s2.seq h1),AllIs.ints⟩
 | _=>cases el
def YH (K:PySem.W.Frag) (t:DTE):TE:=fun σ H R=>∃ (F:Hp) (ρ:DS) (W:Vw) (Q:Dt→Prop),W.h=H∧Rl K (fun _=>none) F W ρ σ∧t ρ Q∧∀ d v W',Le W W'→Is K W'.g d v→Q d→R v W'.h
theorem DE.up {e:Expr} {t:DTE} (h:DE X e t) (hz:X.stack.length=X.outer.length:=by rfl):PE X e (YH X.K t):=by
 obtain ⟨te,p,l⟩:=h
 intro pins s σ H R I q
 obtain ⟨F,ρ,W,Q,rfl,r,h,k⟩:=q
 have r':Rl X.K (Zx X) F W ρ σ:=by unfold Zx; rw [if_pos (Or.inl hz)]; exact r
 exact p pins s σ W.h R I (l ρ σ W Q r' h R k)
theorem nO {K:PySem.W.Frag} {t:DTE}:LiE K (fun _=>none) (YH K t) t:=fun ρ σ H Q r h R k=>⟨_,ρ,H,Q,rfl,r,h,k⟩
theorem LiF.le {K:PySem.W.Frag} {te:TE} {t:DTE} (l:LiF K Z te t):LiE K Z te t:=fun ρ σ H Q r h R k=>l ρ σ H Q r h R fun es q xs H' s h0 h1 h2 i z=>k (.lst es) (.ref q) (H'.frz q _ h1) (tH s h0 h1 h2) (is_lst.mpr ⟨q,xs,rfl,zx,AllIs.mono0 (zU h2 _) i⟩) z
variable {scope:Scope} {x:Str} {elt iter:Expr} {px:Pos} {tl te:DTE}
end
end OD
namespace OD
variable {Z:Hp}
open PySem PySem.Spec PyProof.Rows L2
def Ite (K:PySem.W.Frag) (l:Addr):It:=
 ⟨fun i H=>∃ xs x,SqL K H l xs∧xs[i]? = some x,
  fun i H v H'=>∃ T x,v=.ref T∧H T=none∧H'=upd H T (.tup [.int i,x])∧∀ xs,SqL K H l xs→xs[i]? = some x,
  fun i H=>∃ xs,SqL K H l xs∧xs.length≤i⟩
def Xl (l e it:Addr) (i:Nat) (h:Heap):Prop:=(∃ old,IsEnum h e it (i:Int) old)∧h.IsListIter it l i
theorem gC {P:Program} {w:World} {K:PySem.W.Frag} {elts:List Expr} {x1} {tpos:Pos} (l e it:Addr) (hne:e≠it):p7 P w K (.Tuple elts x1 tpos) (Ite K l) [e,it] e (Xl l e it) where
 mem:=by simp
 obj:=fun i h ⟨⟨old,h1⟩,⟨o4,e4,c4,d4⟩⟩ b hb=>by
  simp only [List.mem_cons,List.not_mem_nil,or_false] at hb
  rcases hb with rfl | rfl
  ·exact ⟨_,h1,fun v z=>by cases z⟩
  ·exact ⟨_,e4,fun v z=>by rw [d4] at z; cases z⟩
 keep:=fun i h h' ⟨⟨old,h1⟩,⟨o4,e4,c4⟩⟩ k=>⟨⟨old,k e (by simp) _ h1⟩,⟨o4,k it (by simp) _ e4,c4⟩⟩
 item:=fun X hP hw hK hc i pins s σ H E I hfp ⟨⟨old,h1⟩,h4⟩ ⟨xs,x,q1,e1⟩=>by
  subst hP hw hK
  obtain ⟨its1,r1,p1,z1⟩:=I.list q1
  obtain ⟨u,eu,ru⟩:=r1.get e1
  refine wpAny_pyNext_enum_item h1 h4 p1.isList (x:=u) (by simpa using eu) hne fun h' a1 a2 a3 a4 a5=>?_
  refine ⟨_,rfl,wpAny_letOwnedTupleGo_enum a1 fun h'' b1 b2=>?_⟩
  have ne:∀ b∈[e,it],b≠s.heap.objs.size:=fun b hb=>by
   simp only [List.mem_cons,List.not_mem_nil,or_false] at hb
   obtain ⟨o4,e4,_⟩:=id h4
   rcases hb with rfl | rfl
   ·exact Nat.ne_of_lt (Heap.lt_size h1)
   ·exact Nat.ne_of_lt (Heap.lt_size e4)
  have en:e≠s.heap.objs.size:=ne e (by simp)
  have aT:=b2.extBut _ _ (Ne.symm en) a3
  have I':Inv X pins σ (upd H s.heap.objs.size (.tup [.int i,x])) { s with heap:=h'',toks:=s.toks+1 }:=lD (ch:=[e,it]) (t':=s.toks+1) I hfp (fun b o hb q=>by
    simp only [List.mem_cons,List.not_mem_nil,or_false,not_or] at hb
    exact b2.extBut b o hb.1 (a5 b o hb.1 hb.2 q)) (Nat.le_refl _) ⟨by show 2≤sizeLine; rw [sizeLine_eq]; decide,[.int i s.toks,u],.cons ⟨_,rfl⟩ (.cons ru .nil),_,aT,rfl,_,rfl⟩
  refine ⟨.ref s.heap.objs.size,_,I',rfl,⟨_,x,rfl,I.fresh,rfl,fun xs' q=>?_⟩,⟨⟨u,?_⟩,a2.extBut b2.extBut (Ne.symm hne)⟩,fun b hb=>?_⟩
  ·rw [I.list_inj q q1]; exact e1
  ·have:((i+1:Nat):Int)=(i:Int)+1:=by omega
   show IsEnum h'' e it ((i+1:Nat):Int) u
   rw [this]
   exact b1
  ·exact (zy (ne b hb)).trans (hfp b hb).1
 done:=fun X hP hw hK hc i pins s σ H E I hfp ⟨⟨old,h1⟩,h4⟩ ⟨xs,q1,e1⟩=>by
  subst hP hw hK
  obtain ⟨its1,r1,p1,z1⟩:=I.list q1
  refine wpAny_pyNext_enum_end (I.ok.hd hc) h1 h4 p1.isList ?_ fun h' hk=>⟨rfl,?_⟩
  ·have:=r1.length
   simp; omega
  ·exact jH (ch:=[e,it]) (t':=s.toks) I hfp fun b o hb q=>by
    simp only [List.mem_cons,List.not_mem_nil,or_false,not_or] at hb
    exact hk b o hb.2 q
 self:=fun A i s Q E ⟨⟨old,h1⟩,_⟩ q=>wpAny_pyIter_enum h1 q
def UQ (K:PySem.W.Frag) (ta:TA):TI:=fun σ H R=>ta σ H fun vs H1=>∃ l xs,vs=[.ref l]∧SqL K H1 l xs∧R (Ite K l) H1
section
variable {X:Cx}
theorem eT:bootBuiltins "enumerate"=some (.type "enumerate"):=by decide +kernel
theorem aS {a:Expr} {ta:TA} {p pos:Pos} {elts:List Expr} {x1} {tpos:Pos} (hg:Gl X "enumerate") (hm:X.mg "enumerate"=none) (ha:PA X [a] ta) (hs:starEach [a] X.env=(false,eval a X.env)::starEach [] X.env:=by rfl)
  (hpl:(backTo pos (starEach [] X.env)).any (·.1)=false:=by rfl):PI X (.Tuple elts x1 tpos) (.Call (.Name "enumerate" p) [a] [] pos) (UQ X.K ta):=by
 intro pins s σ H R I h
 refine Call_ (ww I hg hm eT (PyProof.Rows.callWith_type1 (thn (ha pos pins s σ H _ I h) fun us s1 ⟨vs,H1,I1,r1,q1⟩=>?_) hs hpl))
 obtain ⟨l,xs,e,q1,q⟩:=q1
 subst e
 obtain ⟨u,rfl,ru⟩:=r1.one
 cases ru
 obtain ⟨its1,r1,p1,z1⟩:=I1.list q1
 refine call_enumerate_list p1.isList fun h' b1 b2 b3 b4=>?_
 have I2:Inv X pins σ H1 { s1 with heap:=h' }:=I1.kept (t':=s1.toks) b4
 refine wpAny_pyIter_enum b1 ⟨s1.heap.objs.size+1,[s1.heap.objs.size+1,s1.heap.objs.size],_,_,H1,rfl,I2,gC l (s1.heap.objs.size+1) s1.heap.objs.size (Nat.succ_ne_self _),⟨⟨_,b1⟩,b2⟩,fun b hb=>?_,q⟩
 have hb':s1.heap.objs.size≤b:=by
  simp only [List.mem_cons,List.not_mem_nil,or_false] at hb
  rcases hb with rfl | rfl
  ·exact Nat.le_add_right _ _
  ·exact Nat.le_refl _
 have f:=I1.fpOk hb' (I1.hok.fresh hb')
 exact f
theorem bB {K:PySem.W.Frag} {l:Addr} {xs:List V} {g:TG} {tb:TS} {D:uc} {σ:St} {H:Hp} (Pv:Nat→St→Hp→Prop) (h0:Pv 0 σ H) (hl:∀ i σ H,Pv i σ H→SqL K H l xs)
  (hs:∀ (i:Nat) x T σ H,xs[i]? = some x→H T=none→Pv i σ H→g (.ref T) σ (upd H T (.tup [.int i,x])) fun σ2 H2=>tb { D with nx:=Pv (i+1),ct:=Pv (i+1),bk:=D.nx } σ2 H2) (hd:∀ σ H,Pv xs.length σ H→D.nx σ H):
  ∃ W:Nat→Nat→St→Hp→Prop,(∃ m,W 0 m σ H)∧∀ i m σ H,W i m σ H→
   ((Ite K l).stop i H∧D.nx σ H)∨((Ite K l).go i H∧∃ N:St→Hp→Prop,(∀ σ' H',N σ' H'→∃ m',m'<m∧W (i+1) m' σ' H')∧∀ x H',(Ite K l).yld i H x H'→g x σ H' fun σ2 H2=>tb { D with nx:=N,ct:=N,bk:=D.nx } σ2 H2):=by
 refine ⟨fun i m σ H=>m=xs.length - i∧i≤xs.length∧Pv i σ H,⟨_,rfl,Nat.zero_le _,h0⟩,?_⟩
 rintro i m σ H ⟨rfl,hi,p⟩
 have q1:=hl i σ H p
 by_cases hlt:i<xs.length
 ·have g1:xs[i]? = some xs[i]:=List.getElem?_eq_getElem hlt
  refine .inr ⟨⟨xs,xs[i],q1,g1⟩,Pv (i+1),fun σ' H' p'=>⟨xs.length - (i+1),by omega,rfl,hlt,p'⟩,fun v H' y=>?_⟩
  obtain ⟨T,x,rfl,hT,rfl,e1⟩:=y
  exact hs i x T σ H (e1 xs q1) hT p
 ·have e:i=xs.length:=by omega
  subst e
  exact .inl ⟨⟨xs,q1,Nat.le_refl _⟩,hd σ H p⟩
end
section
variable {X:Cx} {fr:Fr} {ta:DTA} {tb:DTS} {pos p0 p1 p2:Pos}
def Tr (i j:Nat) (ta:DTA) (tb:DTS):DTS:=fun D ρ=>ta ρ fun ds=>∃ (d:Dt) (xs:List Dt) (Pv:Nat→DS→Prop),ds=[d]∧wZ d=some xs∧Pv 0 ρ∧
 (∀ (n:Nat) x ρ',xs[n]? = some x→Pv n ρ'→tb { D with nx:=Pv (n+1),ct:=Pv (n+1),bk:=D.nx } ((ρ'.set i (.some (.int n))).set j (.some x)))∧∀ ρ',Pv xs.length ρ'→D.nx ρ'
theorem tQ {i j:Nat} {x y:Str} {a:Expr} {body:List Stmt} {px py pt p0 pos1:Pos} {kt:Nat} (hc:X.calm=true) (hN:X.N.Nodup) (hi:X.N[i]? = some x) (hj:X.N[j]? = some y) (hx:Loc X.env.scope x) (hy:Loc X.env.scope y) (hp:PassesOwn (model X.prog X.w) X.A X.env X.xe)
  (hg:Gl X "enumerate") (hm:X.mg "enumerate"=none) (ha:DA X [a] ta) (hb:DSs X fr body tb) (hs:∀ z,foldedSetIterable (.Call (.Name "enumerate" p0) [a] [] pos1) X.env z=pure z:=by intro _; rfl)
  (hst:starEach [a] X.env=(false,eval a X.env)::starEach [] X.env:=by rfl) (hpl:(backTo pos1 (starEach [] X.env)).any (·.1)=false:=by rfl)
  (hf:X.fn x=true∨X.env.scope.names.lookup x=some .local:=by first | exact .inl rfl | exact .inr rfl | assumption) (hf2:X.fn y=true∨X.env.scope.names.lookup y=some .local:=by first | exact .inl rfl | exact .inr rfl | assumption):
  DSt X fr (.For (.Tuple [.Name x px,.Name y py] kt pt) (.Call (.Name "enumerate" p0) [a] [] pos1) body [] pos) (Tr i j ta tb):=by
 obtain ⟨tt,p,l⟩:=ha
 obtain ⟨tbs,p2,l2⟩:=hb
 refine ⟨_,uR hp hc (aS hg hm p hst hpl) (kA hc (xU (yj hN hi hx hf) (xU (yj hN hj hy hf2) o5))) p2 hs,fun W0 G ρ σ W D D' at_ s h=>l ρ σ W _ at_.rl h _ fun ds vs W1 s1 i1 ⟨d,xs,Pv,ed,el1,h0,ht,hd⟩=>?_⟩
 subst ed
 obtain ⟨v1,rfl,j1⟩:=i1.one
 have hg1:Same G W1.g:=at_.gs.trans s1.g
 obtain ⟨l1,us,rfl,hq1,ha1⟩:=jF j1 el1
 refine ⟨l1,us,rfl,hq1 W1 (Same.refl _),bB (K:=X.K) (xs:=us) (fun n=>InL X.K (Zx X) W0 W1 (Pv n)) ⟨ρ,W1,rfl,(at_.step s1).now,h0⟩ (fun n σ' H' ⟨_,W2,e2,a2,_⟩=>e2 ▸ hq1 W2 a2.gs) ?_ ?_⟩
 ·rintro n u T σ' _ hu hT ⟨ρ',W2,rfl,a2,hp2⟩
  obtain ⟨x',ex,ix⟩:=ha1.get' hu
  have s3:=qo hT (.tup [.int n,u])
  have a3:=a2.step s3
  refine ⟨T,_,rfl,.of zx,rfl,.int n,[u],rfl,u,[],rfl,rfl,?_⟩
  exact l2 W0 W1.g _ _ (W2.new T (.tup [.int n,u])) { D with nx:=Pv (n+1),ct:=Pv (n+1),bk:=D.nx } _ ((a3.set i (is_int.mpr rfl)).set j (Is.mono0 a3.gs ix)) (xl s hg1) (ht n x' ρ' ex hp2)
 ·rintro σ' _ ⟨ρ',W2,rfl,a2,hp2⟩
  exact s.nx ρ' σ' W2 (a2.weak hg1) (hd ρ' (by rw [ha1.length]; exact hp2))
theorem bO {j:Nat} {x:Str} {a b:Expr} {body:List Stmt} {px p0 pos1:Pos} (hc:X.calm=true) (hN:X.N.Nodup) (hi:X.N[j]? = some x) (hx:Loc X.env.scope x) (hp:PassesOwn (model X.prog X.w) X.A X.env X.xe)
  (hg:Gl X "range") (hm:X.mg "range"=none) (h:DA X [a,b] ta) (hb:DSs X fr body tb) (hs:∀ x,foldedSetIterable (.Call (.Name "range" p0) [a,b] [] pos1) X.env x=pure x:=by intro _; rfl)
  (hst:starEach [a,b] X.env=[(false,eval a X.env),(false,eval b X.env)]:=by rfl) (hst2:starEach [b] X.env=[(false,eval b X.env)]:=by rfl)
  (hf:X.fn x=true∨X.env.scope.names.lookup x=some .local:=by first | exact .inl rfl | exact .inr rfl | assumption):DSt X fr (.For (.Name x px) (.Call (.Name "range" p0) [a,b] [] pos1) body [] pos) (VD j ta tb):=by
 obtain ⟨tt,p,l⟩:=h
 obtain ⟨tbs,p2,l2⟩:=hb
 refine ⟨_,uR hp hc (gT hg hm p hst hst2) (yj hN hi hx hf) p2 hs,fun W0 G ρ σ W D D' at_ s h=>l ρ σ W _ at_.rl h _ fun ds vs W1 s1 i1 ⟨m,n,Pv,ed,m1,m2,n1,n2,h0,ht,hd⟩=>?_⟩
 subst ed
 obtain ⟨v1,v2,rfl,j1,j2⟩:=i1.two
 have hg1:Same G W1.g:=at_.gs.trans s1.g
 refine ⟨m,n,by rw [is_int.mp j1,is_int.mp j2],⟨m1,m2,n1,n2⟩,oy (lo:=m) (n:=(n - m).toNat) (fun i=>InL X.K (Zx X) W0 W1 (Pv i)) ⟨ρ,W1,rfl,(at_.step s1).now,h0⟩ ?_ ?_⟩
 ·rintro i σ' _ hi ⟨ρ',W2,rfl,a2,hp2⟩
  exact l2 W0 W1.g _ _ W2 { D with nx:=Pv (i+1),ct:=Pv (i+1),bk:=D.nx } _ (a2.set j (is_int.mpr rfl)) (xl s hg1) (ht i ρ' hi hp2)
 ·rintro σ' _ ⟨ρ',W2,rfl,a2,hp2⟩
  exact s.nx ρ' σ' W2 (a2.weak hg1) (hd ρ' hp2)
def Qr (ta:DTA):DTE:=fun ρ Q=>ta ρ fun ds=>∃ i j,ds=[.int i,.int j]∧Q (.int (if j<i then j else i))
theorem b_ {a b:Expr} (hc:X.calm=true) (hg:Gl X "min") (hm:X.mg "min"=none) (ha:DA X [a,b] ta) (hs:starEach [a,b] X.env=(false,eval a X.env)::starEach [b] X.env:=by rfl) (hpl:(backTo pos (starEach [b] X.env)).any (·.1)=false:=by rfl):
  DE X (.Call (.Name "min" p0) [a,b] [] pos) (Qr ta):=by
 obtain ⟨te,p1,l1⟩:=ha
 refine ⟨_,xt (eO hc) hg hm (by decide +kernel) p1 (by decide) (by decide) hs hpl,fun ρ σ H Q r h R k=>l1 ρ σ H _ r h _ fun ds vs H1 s1 i1 ⟨i,j,ed,q⟩=>?_⟩
 subst ed
 obtain ⟨v1,v2,rfl,j1,j2⟩:=i1.two
 exact ⟨i,j,by rw [is_int.mp j1,is_int.mp j2],k _ _ H1 s1 (is_int.mpr rfl) q⟩
structure sd (K:PySem.W.Frag) (C:Addr):Prop where
 cl:Cls K C
 ha:PySem.W.findIn K (.ref C) "__class__"=some (some (.builtin "object.__class__"))
 hn:PySem.W.specialIn K (.builtin "object.__class__") "__get__"=some (some (.builtin "getset_descriptor.__get__"))
 htk:PySem.W.takesIn K (.builtin "object.__class__")=some true
 hm:PySem.W.mroIn K C (.type "object")=some true
theorem eQ:CallR X (.builtin "isinstance") (fun xs H Q=>∃ v D tv b,xs=[v,.ref D]∧ua X.K H v tv∧PySem.W.kitOne X.K tv (.ref D)=some b∧Q (.bl b) H):=by
 intro pins s σ H xs us Q I r h
 obtain ⟨v,D,tv,b,rfl,hty,hk,q⟩:=h
 cases r with
 | cons r1 r2=>
  cases r2 with
  | cons r3 r4=>
   cases r4
   cases r3
   exact ox I r1 hty hk fun tk=>⟨.bl b,H,I.tok _,rfl,q⟩
def Tn (K:PySem.W.Frag) (D:Addr) (ta:DTE):DTE:=fun ρ Q=>ta ρ fun d=>∃ C f n b,d=.way C f n∧sd K C∧PySem.W.kitOne K (.ref C) (.ref D)=some b∧Q (.bl b)
theorem ux {a:Expr} {t:DTE} {y:Str} {p':Pos} {D:Addr} (hm:X.mg "isinstance"=none) (hmc:X.mg y=some (.ref D)) (ha:DE X a t)
  (hg:Gl X "isinstance":=by rfl) (hgc:Gl X y:=by rfl) (hdy:(y == ("__debug__":Str))=false:=by decide)
  (hs:starEach [a,.Name y p'] X.env=(false,eval a X.env)::starEach [.Name y p'] X.env:=by rfl) (hs2:starEach [.Name y p'] X.env=(false,eval (.Name y p') X.env)::starEach [] X.env:=by rfl)
  (hpl:(backTo pos (starEach [.Name y p'] X.env)).any (·.1)=false:=by rfl):
  DE X (.Call (.Name "isinstance" p0) [a,.Name y p'] [] pos) (Tn X.K D t):=by
 obtain ⟨te,p1,l1⟩:=ha
 have pc:PE X (.Name y p') (tC (.ref D)):=aX hgc hmc rfl hdy
 refine ⟨_,xt eQ hg hm boot_isinstance (zR p1 (zR pc yp hs2) hs) (by decide) (by decide) hs hpl,fun ρ σ H Q r h R k=>l1 ρ σ H _ r h _ fun d v H1 s1 i1 ⟨C,f,n,b,ed,ok,e,q⟩=>?_⟩
 subst ed
 obtain ⟨p,dx,rfl,hp⟩:=is_way.mp i1
 exact ⟨_,D,_,b,rfl,.ins (H1.sub _ _ hp) ok.cl ok.ha ok.hn ok.htk ok.hm,e,k _ _ H1 s1 (is_bl.mpr rfl) q⟩
def Tx (i:Nat) (g:Int→Int→Int) (te:DTE):DTS:=fun D ρ=>∃ d,ρ[i]? = some (.some d)∧te ρ fun e=>∃ m n,d=.int m∧e=.int n∧D.nx (ρ.set i (.some (.int (g m n))))
theorem Yc {i:Nat} {x:Str} {e:Expr} {te:DTE} {op:Operator} {g:Int→Int→Int} {pos':Pos} (ho:PIp X op (ipI g)) (hN:X.N.Nodup) (hi:X.N[i]? = some x) (hx:Loc X.env.scope x) (h:DE X e te)
  (hf:X.fn x=true∨X.env.scope.names.lookup x=some .local:=by first | exact .inl rfl | exact .inr rfl | assumption):DSt X fr (.AugAssign (.Name x pos') op e pos) (Tx i g te):=by
 obtain ⟨tt,p,l⟩:=h
 refine ⟨_,XA hN hi hx p ho hf,fun W0 G ρ σ W D D' a s h=>?_⟩
 obtain ⟨d,ed,h⟩:=h
 obtain ⟨v,ev,iv⟩:=a.rl.at_ i d ed
 refine ⟨v,ev,l ρ σ W _ a.rl h _ fun z u W1 s1 i1 ⟨m,n,em,en,q⟩=>?_⟩
 subst em
 subst en
 exact ⟨m,n,is_int.mp iv,is_int.mp i1,s.nx _ _ W1 ((a.step s1).set i (is_int.mpr rfl)) q⟩
end
end OD
namespace OD
variable {Z:Hp}
open PySem PySem.Spec PyProof.Rows L2
def Itd (lo:Int) (n:Nat):It:=⟨fun i _=>i<n,fun i H x H'=>H'=H∧x=.int (lo - i),fun i _=>n≤i⟩
theorem gE {P:Program} {w:World} {K:PySem.W.Frag} {tg:Expr} (it:Addr) (lo:Int) (n:Nat):p7 P w K tg (Itd lo n) [it] it (fun i h=>IsRangeIter h it (lo+(i:Nat)*(-1)) ((n:Int) - (i:Nat)) (-1)) where
 mem:=by simp
 obj:=fun i h st b hb=>by
  have e:b=it:=by simpa using hb
  subst e
  exact ⟨_,st,fun v z=>by
   have z':Data.fields _=Data.cell v:=z
   cases z'⟩
 keep:=fun i h h' st k=>k it (by simp) _ st
 item:=by
  intro X hP hw hK hc i pins s σ H E I hf st hg
  subst hP hw hK
  obtain ⟨f0,f1,f2,f3,f4,f5⟩:=hf it (by simp)
  have W:=Walks.range (prog:=X.prog) (w:=X.w) (I.ok.hd hc) it lo (-1) n
  refine W.item i s _ _ hg st fun v h' tk hv st' kk=>?_
  obtain ⟨t,rfl⟩:=hv
  have I1:Inv X pins σ H { s with heap:=h',toks:=tk }:=I.turned (fun b o hb e=>kk b o (by simpa using hb) e) f0 f1 f3 f4 f5
  refine ⟨_,rfl,i_ (s:={ s with heap:=h',toks:=tk }) (n:="range_iterator") st' rfl rfl (by decide) ⟨.int (lo - i),H,I1,⟨t,?_⟩,⟨rfl,rfl⟩,st',fun b hb=>(hf b hb).1⟩⟩
  rw [show lo+(i:Int)*(-1)=lo - i by omega]
 done:=by
  intro X hP hw hK hc i pins s σ H E I hf st hg
  subst hP hw hK
  obtain ⟨f0,f1,f2,f3,f4,f5⟩:=hf it (by simp)
  exact wpAny_pyNext_range_end (I.ok.hd hc) st (by have:n≤i:=hg; omega) fun h' eb=>⟨rfl,I.turned (t':=s.toks) (fun b o hb e=>eb b o hb e) f0 f1 f3 f4 f5⟩
 self:=fun _ _ _ _ _ st h=>wpAny_pyIter_rangeiter st h
theorem wU (a b:Int):Builtin.Range.rangeSize a b (-1)=if b<a then a - b else 0:=by
 unfold Builtin.Range.rangeSize
 rw [if_neg (by decide)]
 split
 ·rename_i h
  have:(a - b - 1) / (- -1)=a - b - 1:=by rw [show (- -1:Int)=1 by decide,Int.ediv_one]
  omega
 ·rfl
theorem kh {a b:Int} (ha:-(2 ^ 62)≤a) (ha':a<2 ^ 62) (hb:-(2 ^ 62)≤b) (hb':b<2 ^ 62):Builtin.Range.small a b (-1)=true:=by
 unfold Builtin.Range.small
 rw [wU]
 simp only [Builtin.Range.rangeFitsLong,Bool.and_eq_true,Bool.or_eq_true,decide_eq_true_eq,beq_iff_eq,show ¬ (-1:Int)>0 by decide,if_false]
 split <;> omega
section
variable {X:Cx} {tg:Expr}
def UR (ta:TA):TI:=fun σ H R=>ta σ H fun vs H1=>∃ i j:Int,vs=[.int i,.int j,.int (-1)]∧(-(2 ^ 30)≤i∧i<2 ^ 30∧-(2 ^ 30)≤j∧j<2 ^ 30)∧R (Itd i (i - j).toNat) H1
theorem aU {a b c:Expr} {ta:TA} {p pos:Pos} (hg:Gl X "range") (hm:X.mg "range"=none) (ha:PA X [a,b,c] ta) (hs:starEach [a,b,c] X.env=(false,eval a X.env)::starEach [b,c] X.env:=by rfl)
  (hpl:(backTo pos (starEach [b,c] X.env)).any (·.1)=false:=by rfl):PI X tg (.Call (.Name "range" p) [a,b,c] [] pos) (UR ta):=by
 intro pins s σ H R I h
 refine Call_ (ww I hg hm boot_range (PyProof.Rows.callWith_type1 (thn (ha pos pins s σ H _ I h) fun us s1 ⟨vs,H1,I1,r1,q1⟩=>?_) hs hpl))
 obtain ⟨i,j,e,⟨q1,q2,q3,q4⟩,q⟩:=q1
 subst e
 cases r1 with
 | cons r rr=>
 cases rr with
 | cons r' rr=>
 cases rr with
 | cons r'' rr=>
  cases rr
  obtain ⟨t,rfl⟩:=r
  obtain ⟨t',rfl⟩:=r'
  obtain ⟨t'',rfl⟩:=r''
  refine call_range_3 (by decide) ?_ (Or.inl (PyProof.noPylong_small (by omega)))
  refine wpAny_pyIter_range (IsRange.new ..) (kh (by omega) (by omega) (by omega) (by omega)) ?_
  have I2:Inv X pins σ H1 { s1 with heap:=s1.heap.push { cls:=.type "range",data:=.fields #[.int i t,.int j t',.int (-1) t''] },toks:=s1.toks }:=I1.kept fun b o e=>Heap.get?_push_of_some _ e
  refine ⟨(s1.heap.push { cls:=.type "range",data:=.fields #[.int i t,.int j t',.int (-1) t''] }).objs.size,[(s1.heap.push { cls:=.type "range",data:=.fields #[.int i t,.int j t',.int (-1) t''] }).objs.size],_,_,H1,rfl,
   I2.kept (t':=s1.toks) fun b o e=>Heap.get?_push_of_some _ e,gE _ i (i - j).toNat,?_,fun b hb=>?_,q⟩
  ·have e1:i+((0:Nat):Int)*(-1)=i:=by simp
   have e2:(((i - j).toNat:Nat):Int) - ((0:Nat):Int)=Builtin.Range.rangeSize i j (-1):=by rw [wU]; split <;> omega
   show IsRangeIter _ _ (i+((0:Nat):Int)*(-1)) ((((i - j).toNat:Nat):Int) - ((0:Nat):Int)) (-1)
   rw [e1,e2]
   exact Heap.get?_push_size _ rfl
  ·have e:b=(s1.heap.push { cls:=.type "range",data:=.fields #[.int i t,.int j t',.int (-1) t''] }).objs.size:=by simpa using hb
   subst e
   exact I2.fpOk (Nat.le_refl _) (I2.hok.fresh (Nat.le_refl _))
theorem bC {lo:Int} {n:Nat} {g:TG} {tb:TS} {D:uc} {σ:St} {H:Hp} (Pv:Nat→St→Hp→Prop) (h0:Pv 0 σ H)
  (hs:∀ i σ H,i<n→Pv i σ H→g (.int (lo - i)) σ H fun σ2 H2=>tb { D with nx:=Pv (i+1),ct:=Pv (i+1),bk:=D.nx } σ2 H2) (hd:∀ σ H,Pv n σ H→D.nx σ H):
  ∃ W:Nat→Nat→St→Hp→Prop,(∃ m,W 0 m σ H)∧∀ i m σ H,W i m σ H→
   ((Itd lo n).stop i H∧D.nx σ H)∨((Itd lo n).go i H∧∃ N:St→Hp→Prop,(∀ σ' H',N σ' H'→∃ m',m'<m∧W (i+1) m' σ' H')∧∀ x H',(Itd lo n).yld i H x H'→g x σ H' fun σ2 H2=>tb { D with nx:=N,ct:=N,bk:=D.nx } σ2 H2):=by
 refine ⟨fun i m σ H=>m=n - i∧i≤n∧Pv i σ H,⟨n,by simp,Nat.zero_le _,h0⟩,?_⟩
 rintro i m σ H ⟨rfl,hi,p⟩
 by_cases hlt:i<n
 ·refine .inr ⟨hlt,Pv (i+1),fun σ' H' p'=>⟨n - (i+1),by omega,rfl,hlt,p'⟩,fun x H' y=>?_⟩
  obtain ⟨e,y⟩:=y
  subst e y
  exact hs i σ _ hlt p
 ·have e:i=n:=by omega
  subst e
  exact .inl ⟨Nat.le_refl _,hd σ H p⟩
variable {fr:Fr} {ta:DTA} {tb:DTS} {te:DTE} {pos p0 p1 p2:Pos}
def Ts (j:Nat) (ta:DTA) (tb:DTS):DTS:=fun D ρ=>ta ρ fun ds=>∃ (m n:Int) (Pv:Nat→DS→Prop),ds=[.int m,.int n,.int (-1)]∧-(2 ^ 30)≤m∧m<2 ^ 30∧-(2 ^ 30)≤n∧n<2 ^ 30∧Pv 0 ρ∧
 (∀ (i:Nat) ρ',i<(m - n).toNat→Pv i ρ'→tb { D with nx:=Pv (i+1),ct:=Pv (i+1),bk:=D.nx } (ρ'.set j (.some (.int (m - i)))))∧∀ ρ',Pv (m - n).toNat ρ'→D.nx ρ'
theorem AllIs.three {K:PySem.W.Frag} {H:Hp} {d e f:Dt} {xs:List V} (h:AllIs K H [d,e,f] xs):∃ v u w,xs=[v,u,w]∧Is K H d v∧Is K H e u∧Is K H f w:=by
 obtain ⟨x,r,rfl,h1,h2⟩:=allIs_cons.mp h
 obtain ⟨u,w,rfl,h3,h4⟩:=h2.two
 exact ⟨x,u,w,rfl,h1,h3,h4⟩
theorem nX {j:Nat} {x:Str} {a b c:Expr} {body:List Stmt} {px p0 pos1:Pos} (hc:X.calm=true) (hN:X.N.Nodup) (hi:X.N[j]? = some x) (hx:Loc X.env.scope x) (hp:PassesOwn (model X.prog X.w) X.A X.env X.xe)
  (hg:Gl X "range") (hm:X.mg "range"=none) (h:DA X [a,b,c] ta) (hb:DSs X fr body tb) (hs:∀ x,foldedSetIterable (.Call (.Name "range" p0) [a,b,c] [] pos1) X.env x=pure x:=by intro _; rfl)
  (hst:starEach [a,b,c] X.env=(false,eval a X.env)::starEach [b,c] X.env:=by rfl) (hpl:(backTo pos1 (starEach [b,c] X.env)).any (·.1)=false:=by rfl)
  (hf:X.fn x=true∨X.env.scope.names.lookup x=some .local:=by first | exact .inl rfl | exact .inr rfl | assumption):DSt X fr (.For (.Name x px) (.Call (.Name "range" p0) [a,b,c] [] pos1) body [] pos) (Ts j ta tb):=by
 obtain ⟨tt,p,l⟩:=h
 obtain ⟨tbs,p2,l2⟩:=hb
 refine ⟨_,uR hp hc (aU hg hm p hst hpl) (yj hN hi hx hf) p2 hs,fun W0 G ρ σ W D D' at_ s h=>l ρ σ W _ at_.rl h _ fun ds vs W1 s1 i1 ⟨m,n,Pv,ed,m1,m2,n1,n2,h0,ht,hd⟩=>?_⟩
 subst ed
 obtain ⟨v1,v2,v3,rfl,j1,j2,j3⟩:=i1.three
 have hg1:Same G W1.g:=at_.gs.trans s1.g
 refine ⟨m,n,by rw [is_int.mp j1,is_int.mp j2,is_int.mp j3],⟨m1,m2,n1,n2⟩,bC (lo:=m) (n:=(m - n).toNat) (fun i=>InL X.K (Zx X) W0 W1 (Pv i)) ⟨ρ,W1,rfl,(at_.step s1).now,h0⟩ ?_ ?_⟩
 ·rintro i σ' _ hi ⟨ρ',W2,rfl,a2,hp2⟩
  exact l2 W0 W1.g _ _ W2 { D with nx:=Pv (i+1),ct:=Pv (i+1),bk:=D.nx } _ (a2.set j (is_int.mpr rfl)) (xl s hg1) (ht i ρ' hi hp2)
 ·rintro σ' _ ⟨ρ',W2,rfl,a2,hp2⟩
  exact s.nx ρ' σ' W2 (a2.weak hg1) (hd ρ' hp2)
def Qs (ta:DTA):DTE:=fun ρ Q=>ta ρ fun ds=>∃ i j,ds=[.int i,.int j]∧Q (.int (if j>i then j else i))
theorem Vu {a b:Expr} (hc:X.calm=true) (hg:Gl X "max") (hm:X.mg "max"=none) (ha:DA X [a,b] ta) (hs:starEach [a,b] X.env=(false,eval a X.env)::starEach [b] X.env:=by rfl) (hpl:(backTo pos (starEach [b] X.env)).any (·.1)=false:=by rfl):
  DE X (.Call (.Name "max" p0) [a,b] [] pos) (Qs ta):=by
 obtain ⟨te,p1,l1⟩:=ha
 refine ⟨_,xt (eP hc) hg hm (by decide +kernel) p1 (by decide) (by decide) hs hpl,fun ρ σ H Q r h R k=>l1 ρ σ H _ r h _ fun ds vs H1 s1 i1 ⟨i,j,ed,q⟩=>?_⟩
 subst ed
 obtain ⟨v1,v2,rfl,j1,j2⟩:=i1.two
 exact ⟨i,j,by rw [is_int.mp j1,is_int.mp j2],k _ _ H1 s1 (is_int.mpr rfl) q⟩
def bu:Dt→Bool
 | .non=>true
 | _=>false
theorem fY {K:PySem.W.Frag} {H:Hp} {d:Dt} {v:V} (h:Is K H d v):decide (v=.non)=bu d:=by
 cases d with
 | non=>rw [is_non.mp h]; rfl
 | bl b=>rw [is_bl.mp h]; rfl
 | int b=>rw [is_int.mp h]; rfl
 | str b=>rw [is_str.mp h]; rfl
 | tup b=>obtain ⟨a,xs,rfl,_⟩:=is_tup.mp h; rfl
 | lst b=>obtain ⟨a,xs,rfl,_⟩:=is_lst.mp h; rfl
 | scr b=>obtain ⟨a,rfl,_⟩:=is_scr.mp h; rfl
 | way b _ _=>obtain ⟨a,xs,rfl,_⟩:=is_way.mp h; rfl
 | exc b=>obtain ⟨a,rfl,_⟩:=is_exc.mp h; rfl
def YX (ta:DTE):DTE:=fun ρ Q=>ta ρ fun d=>Q (.bl (bu d))
theorem Vk {a:Expr} {j pos'} (ha:DE X a te):DT X (.Compare a [.Is] [.Constant .none j pos'] pos) (tZ (YX te)):=by
 obtain ⟨t1,p1,l1⟩:=ha
 refine ⟨_,Xz (XQ p1),nP (te:=VV t1) (t:=YX te) fun ρ σ H Q r h R k=>l1 ρ σ H _ r h _ fun d v H1 s1 i1 q=>k (.bl (bu d)) (.bl (decide (v=.non))) H1 s1 (is_bl.mpr (by rw [fY i1])) q⟩
end
end OD
namespace OD
variable {Z:Hp}
open PySem PySem.Spec PyProof.Rows L2
section
variable {X:Cx} {a:Expr} {te:TE} {tl th ts:TO} {lo hi:Option Expr} {st:Expr} {pos p2:Pos} {ta:DTE} {dl dh dt:DTO}
variable {fr:Fr} {tA:DTA} {tb:DTS} {p0 p1:Pos}
def UZ (t u:DTS):DTS:=fun D ρ=>∃ P:DS→Prop,t { D with nx:=P } ρ∧∀ ρ',P ρ'→u D ρ'
theorem yb {sst:Stmt} {yI:List Stmt} {t u:DTS} (h1:DSt X fr sst t) (h2:DSs X fr yI u):DSs X fr (sst::yI) (UZ t u):=by
 obtain ⟨ts,p1,l1⟩:=h1
 obtain ⟨us,p2,l2⟩:=h2
 refine ⟨_,mJ p1 p2,fun W0 G ρ σ W D D' a s h=>?_⟩
 obtain ⟨P,h,k⟩:=h
 exact l1 W0 G ρ σ W { D with nx:=P } { D' with nx:=us D' } a ⟨fun ρ' σ' W' a' q=>l2 W0 G ρ' σ' W' D D' a' s (k ρ' q),s.tl,s.bk,s.ct⟩ h
end
end OD
namespace OD
open PySem PySem.Spec PyProof.Rows L2
section
variable {X:Cx} {ta:DTE} {pos p0:Pos}
end
end OD
namespace OD
variable {Z:Hp}
open PySem PySem.Spec PyProof.Rows L2
section
variable {X:Cx} {K:PySem.W.Frag} {H:Hp}
def gS (f:Str→Str→Dt):Dt→Dt→(Dt→Prop)→Prop:=fun d e Q=>∃ x y,d=.str x∧e=.str y∧Q (f x y)
theorem bY {x y:Str}:decide (V.str x=V.str y)=(x == y):=by
 rw [Bool.eq_iff_iff]
 simp
theorem YF:DOp X (compareOp .Eq) (gS fun x y=>.bl (x == y)):=by
 refine ⟨_,Ui,fun H x y d e Q i1 i2 ⟨a,b,ed,ee,q⟩ R k=>?_⟩
 subst ed
 subst ee
 obtain rfl:=is_str.mp i1
 obtain rfl:=is_str.mp i2
 refine ⟨rfl,?_⟩
 rw [bY]
 exact k _ _ H (Le.refl H) (is_bl.mpr rfl) q
end
section
variable {X:Cx} {fr:Fr} {te:DTE} {tb:DTS} {pos p0 p1 p2:Pos}
def Tt (i j:Nat) (te:DTE) (tb:DTS):DTS:=fun D ρ=>te ρ fun d=>∃ (xs:List Dt) (Pv:Nat→DS→Prop),wZ d=some xs∧Pv 0 ρ∧
 (∀ (n:Nat) x ρ',xs[n]? = some x→Pv n ρ'→∃ a b,x=.tup [a,b]∧tb { D with nx:=Pv (n+1),ct:=Pv (n+1),bk:=D.nx } ((ρ'.set i (.some a)).set j (.some b)))∧∀ ρ',Pv xs.length ρ'→D.nx ρ'
theorem Yb {i j:Nat} {x y:Str} {iter:Expr} {body:List Stmt} {px py pt:Pos} {kt:Nat} (hc:X.calm=true) (hN:X.N.Nodup) (hi:X.N[i]? = some x) (hj:X.N[j]? = some y) (hx:Loc X.env.scope x) (hy:Loc X.env.scope y) (hp:PassesOwn (model X.prog X.w) X.A X.env X.xe)
  (h:DE X iter te) (hb:DSs X fr body tb) (hs:∀ z,foldedSetIterable iter X.env z=pure z:=by intro _; rfl)
  (hf:X.fn x=true∨X.env.scope.names.lookup x=some .local:=by first | exact .inl rfl | exact .inr rfl | assumption) (hf2:X.fn y=true∨X.env.scope.names.lookup y=some .local:=by first | exact .inl rfl | exact .inr rfl | assumption):
  DSt X fr (.For (.Tuple [.Name x px,.Name y py] kt pt) iter body [] pos) (Tt i j te tb):=by
 obtain ⟨tt,p,l⟩:=h
 obtain ⟨tbs,p2,l2⟩:=hb
 refine ⟨_,uR hp hc (o3 p) (kA hc (xU (yj hN hi hx hf) (xU (yj hN hj hy hf2) o5))) p2 hs,fun W0 G ρ σ W D D' at_ s h=>l ρ σ W _ at_.rl h _ fun d v W1 s1 i1 ⟨ds,Pv,el,h0,ht,hd⟩=>?_⟩
 have hg:Same G W1.g:=at_.gs.trans s1.g
 obtain ⟨a,xs,rfl,hq,ha⟩:=jF i1 el
 refine ⟨a,rfl,⟨xs,hq W1 (Same.refl _)⟩,lI (K:=X.K) (a:=a) (xs:=xs) (fun i=>InL X.K (Zx X) W0 W1 (Pv i)) ⟨ρ,W1,rfl,(at_.step s1).now,h0⟩ (fun i σ' H' _ ⟨_,W2,e2,a2,_⟩=>e2 ▸ hq W2 a2.gs) ?_ ?_⟩
 ·rintro n x σ' _ hi ⟨ρ',W2,rfl,a2,hp2⟩
  obtain ⟨e,he,ie⟩:=ha.get' hi
  obtain ⟨a1,b1,rfl,q⟩:=ht n e ρ' he hp2
  obtain ⟨T,us,rfl,hT,hu⟩:=is_tup.mp (Is.mono0 a2.gs ie)
  obtain ⟨v1,v2,rfl,k1,k2⟩:=hu.two
  refine ⟨T,_,rfl,.of (W2.sub _ _ hT),rfl,v1,[v2],rfl,v2,[],rfl,rfl,?_⟩
  exact l2 W0 W1.g _ _ W2 { D with nx:=Pv (n+1),ct:=Pv (n+1),bk:=D.nx } _ ((a2.set i k1).set j k2) (xl s hg) q
 ·rintro σ' _ ⟨ρ',W2,rfl,a2,hp2⟩
  exact s.nx ρ' σ' W2 (a2.weak hg) (hd ρ' (by rw [ha.length]; exact hp2))
end
end OD
namespace OD
variable {Z:Hp}
open PySem PySem.Spec PyProof.Rows L2
def zX (X:Cx) (scope:Scope) (cl:List (Str × Addr)) (x:Str) (caps:List Str) (C:Addr) (s:Shared) (H:Hp) (fp:List Addr) (pins:List (Addr × Obj)):Cx where
 prog:=X.prog
 w:=X.w
 K:=X.K
 mg:=X.mg
 base:=X.base
 A:=X.A
 N:=x::caps
 s₀:=s
 H₀:=H
 env:=compEnvC scope cl C X.env
 outer:=X.stack
 stack:=X.stack
 ex:=fp
 fn:=fun y=>y == x
 calm:=X.calm
 pn:=X.pn++pins
 xe:=fun _ _=>False
structure uC (X:Cx) (scope:Scope) (cl:List (Str × Addr)) (x:Str) (caps:List Str) (js:List Nat):Prop where
 clos:closureFor scope X.env=pure cl
 sub:∀ y c,cl.lookup y=some c→X.env.cells.lookup y=some c
 has:∀ y,((relabel scope X.env).names.lookup y=some .cell∨(relabel scope X.env).names.lookup y=some .free)→∃ c,cl.lookup y=some c
 nox:cl.lookup x=none
 cell:∀ y∈scope.names,y.2≠.cell
 kind:scope.kind=.function
 names:∀ y∈scope.names,y.2=.local→scope.names.lookup y.1=some .local
 loc:scope.names.lookup x=some .local
 nd:(x::caps).Nodup
 len:js.length=caps.length
 at_:∀ (k:Nat) y,caps[k]? = some y→∃ j,js[k]? = some j∧X.N[j]? = some y
 cap:∀ y∈caps,(relabel scope X.env).names.lookup y=some .cell∧X.env.scope.names.lookup y=some .cell
def y6 (σ:St) (js:List Nat):St:=js.map fun j=>(σ[j]?).getD none
section
variable {X:Cx} {pins:List (Addr × Obj)} {σ:St} {H:Hp} {s:Shared} {scope:Scope} {cl:List (Str × Addr)} {x:Str} {caps:List Str} {js:List Nat} {fp:List Addr}
theorem eh {h₁:Heap} {t:Nat} {m:Str→Option Value} (I:Inv X pins σ H s) (S:uC X scope cl x caps js) (hfp:∀ b∈fp,xQ X pins H b) (hob:∀ b∈fp,∃ o,s.heap.get? b=some o)
  (hn:h₁.Ns s.heap.objs.size m) (hk:∀ b o,s.heap.get? b=some o→h₁.get? b=some o):Inv (zX X scope cl x caps s.heap.objs.size s H fp pins) [] (none::y6 σ js) H { s with heap:=h₁,toks:=t }:=by
 refine ⟨⟨I.ok.mod,S.kind,I.ok.glob,I.ok.blt,Nat.le_refl _,fun y z c h1 h2=>?_,fun y hy=>?_,fun y c hf h=>?_,I.ok.hd,I.ok.frames,.inl rfl,fun b hb=>⟨?_,fun y c h=>?_⟩,I.bs,Nat.le_trans I.ok.bsz I.sz,fun b o e hb=>?_,fun b hb z=>?_,I.stack,I.stkFree⟩,
  rfl,I.bare,Un.kept hk,⟨_,hn,fun i y v h1 h2 h3=>?_⟩,fun y c h=>?_,I.hok.fresh (Nat.le_refl _),fun y c h=>?_,fun p hp=>?_,I.hok.kept hk,?_⟩
 ·exact I.ok.inj y z c (S.sub y c h1) (S.sub z c h2)
 ·exact S.has y hy
 ·obtain rfl:y=x:=eq_of_beq hf
  have h:cl.lookup y=some c:=h
  rw [S.nox] at h
  cases h
 ·obtain ⟨o,e⟩:=hob b hb
  exact Nat.ne_of_lt (Heap.lt_size e)
 ·exact (hfp b hb).2.2.2.2.1 y c (S.sub y c h)
 ·obtain ⟨_,_,_,h4,_⟩:=hfp b hb
  rcases h4 with h4 | h4
  ·exact I.ok.noex b o e h4
  ·exact absurd (Nat.lt_of_lt_of_le (Heap.lt_size e) (Nat.le_trans I.ok.bsz h4)) (Nat.lt_irrefl _)
 ·obtain ⟨_,h2,h3,_⟩:=hfp b hb
  rcases List.mem_cons.mp (I.stkSub b z) with q | q
  ·exact h2 q
  ·exact h3 q
 ·match i,h1,h2 with
  | 0,_,h2=>cases h2
  | i+1,h1,h2=>
   have h1:caps[i]? = some y:=h1
   have h2:(y6 σ js)[i]? = some (some v):=h2
   obtain ⟨j,hj,hN⟩:=S.at_ i y h1
   have hv:σ[j]? = some (some v):=by
    unfold y6 at h2
    rw [List.getElem?_map,hj] at h2
    have h2:(σ[j]?).getD none=some v:=Option.some.inj h2
    cases q:σ[j]? with
    | none=>rw [q] at h2; cases h2
    | some w=>rw [q] at h2; exact congrArg some h2
   obtain ⟨c1,c2⟩:=S.cap y (List.mem_of_getElem? h1)
   obtain ⟨m0,_,hl⟩:=I.loc
   obtain ⟨u,ru,lk⟩:=hl j y v hN hv (.inr (.inl c2))
   refine ⟨u,ru,.inr ⟨.inl c1,?_⟩⟩
   obtain ⟨c,hc⟩:=S.has y (.inl c1)
   rcases lk with ⟨lk,_⟩ | ⟨_,c',hc',hcell⟩
   ·have lk:X.env.scope.names.lookup y=some .local:=lk
    rw [c2] at lk
    cases lk
   ·have e:=S.sub y c hc
    rw [hc'] at e
    cases e
    obtain ⟨o,ho,hd⟩:=hcell
    exact ⟨_,hc,o,hk _ _ ho,hd⟩
 ·obtain ⟨v,o,ho,hd⟩:=I.cell y c (S.sub y c h)
  exact ⟨v,o,hk _ _ ho,hd⟩
 ·exact I.freeC y c (S.sub y c h)
 ·have hp:p∈X.pn++pins:=by
   rcases List.mem_append.mp hp with q | q
   ·exact q
   ·cases q
  obtain ⟨h1,h2,h3,h4,h5⟩:=I.pin p hp
  refine ⟨hk _ _ h1,h2,Nat.ne_of_lt (Heap.lt_size h1),fun z=>?_,h5⟩
  rcases List.mem_cons.mp (I.stkSub _ z) with q | q
  ·exact h3 q
  ·exact h4 q
 ·show (none::y6 σ js).length=(x::caps).length
  unfold y6
  rw [List.length_cons,List.length_map,S.len,List.length_cons]
theorem ey {C:Addr} {σ':St} {H':Hp} {s':Shared} (I:Inv X pins σ H s) (hfp:∀ b∈fp,xQ X pins H b) (I':Inv (zX X scope cl x caps C s H fp pins) [] σ' H' s'):Inv X pins σ H' s':=
 I.call' (ch:=fp) I'.os I'.base I'.hok I'.bare fun b hb=>by
  obtain ⟨_,h2,_,h4,h5,h6⟩:=hfp b hb
  exact ⟨h4,h2,h5,h6⟩
def kz (te:TE) (τ:St) (Q:V→Hp→Prop):It→Hp→Prop:=fun J H1=>∃ (n:Nat) (vals:Nat→V→Prop),n<sizeLine∧∀ D,H1 D=none→∃ Pv:Nat→List V→Hp→Prop,
 Pv 0 [] (upd H1 D (.lst []))∧(∀ i ys H2,i≤n→Pv i ys H2→H2 D=some (.lst ys)∧ys.length=i)∧
 (∀ i ys H2,i<n→Pv i ys H2→J.go i H2∧∀ v H3,J.yld i H2 v H3→H3=H2∧vals i v)∧(∀ ys H2,Pv n ys H2→J.stop n H2)∧
 (∀ i v ys H2,i<n→vals i v→Pv i ys H2→te (some v::τ) H2 fun y H3=>H3 D=some (.lst ys)∧Pv (i+1) (ys++[y]) (upd H3 D (.lst (ys++[y]))))∧∀ ys H2,Pv n ys H2→Q (.ref D) H2
def kf (wi:TI) (te:TE) (js:List Nat):TE:=fun σ H Q=>wi σ H (kz te (y6 σ js) Q)
theorem lW {elt iter:Expr} {px pos:Pos} {it D:Addr} {n:Nat} {J:It} {vals:Nat→V→Prop} {τ:St} {tn:Nat→Heap→Prop} {te:TE} {R:Result→Shared→Prop} {s₄:Shared} {Pv:Nat→List V→Hp→Prop} {C:Addr} (hc:X.calm=true) (S:uC X scope cl x caps js)
  (he:PE (zX X scope cl x caps C s H fp pins) elt te) (I:Inv (zX X scope cl x caps C s H fp pins) [] (none::τ) H s₄) (T:p7 X.prog X.w X.K (.Name x px) J fp it tn) (t0:tn 0 s₄.heap)
  (hfp:∀ b∈fp,xQ (zX X scope cl x caps C s H fp pins) [] H b) (hn:n<sizeLine)
  (h0:Pv 0 [] H) (hl:∀ i ys H2,i≤n→Pv i ys H2→H2 D=some (.lst ys)∧ys.length=i)
  (hgo:∀ i ys H2,i<n→Pv i ys H2→J.go i H2∧∀ v H3,J.yld i H2 v H3→H3=H2∧vals i v) (hst:∀ ys H2,Pv n ys H2→J.stop n H2)
  (ht:∀ i v ys H2,i<n→vals i v→Pv i ys H2→te (some v::τ) H2 fun y H3=>H3 D=some (.lst ys)∧Pv (i+1) (ys++[y]) (upd H3 D (.lst (ys++[y]))))
  (hR:∀ σ' H' ys s',Inv (zX X scope cl x caps C s H fp pins) [] σ' H' s'→Pv n ys H'→R (.ok .next) s'):
  codeAny (model X.prog X.w) X.A (.compStart (.ListComp elt [⟨.Name x px,iter,[],0⟩] scope pos) 0 (.ref it) (.ref D) (compEnvC scope cl C X.env)) R s₄:=by
 have loop:codeAny (model X.prog X.w) X.A (.compLoop (.ListComp elt [⟨.Name x px,iter,[],0⟩] scope pos) 0 (.ref it) (.ref D) (compEnvC scope cl C X.env)) R s₄:=by
  refine codeAny_compLoop_list (fun k s'=>∃ i ys v0 H',k=n+1 - i∧i≤n∧Inv (zX X scope cl x caps C s H fp pins) [] (v0::τ) H' s'∧tn i s'.heap∧(∀ b∈fp,xQ (zX X scope cl x caps C s H fp pins) [] H' b)∧Pv i ys H') ?_ (n+1) ⟨0,[],none,H,rfl,Nat.zero_le _,I,t0,hfp,h0⟩
  rintro k s' ⟨i,ys,v0,H',rfl,hi,I',tn',hfp',hp⟩
  obtain ⟨q2,q3⟩:=hl i ys H' hi hp
  by_cases hlt:i<n
  ·obtain ⟨g,gy⟩:=hgo i ys H' hlt hp
   refine wpAny_mono (T.item (zX X scope cl x caps C s H fp pins) rfl rfl rfl hc i [] s' (v0::τ) H' (fun _ _=>False) I' hfp' tn' g) (fun r s1 ⟨u,er,hq⟩=>?_) fun _ _ z=>z.elim
   subst er
   show wpAny (model X.prog X.w) X.A (assign (.Name x px) (compEnvC scope cl C X.env) u) _ _ s1
   intro Γ p hΓ
   have hq':∃ v H1,Inv (zX X scope cl x caps C s H fp pins) [] (v0::τ) H1 s1∧RelV v u∧J.yld i H' v H1∧tn (i+1) s1.heap∧∀ b∈fp,H1 b=none:=hq Γ p hΓ
   obtain ⟨v,H1,I1,rv,yv,tn1,fn1⟩:=hq'
   obtain ⟨eH,hv⟩:=gy v H1 yv
   subst eH
   refine (?_:wpAny (model X.prog X.w) X.A (assign (.Name x px) (compEnvC scope cl C X.env) u) _ _ s1) Γ p hΓ
   have hpin:∀ b∈fp,∃ o,s1.heap.get? b=some o∧∀ v,o.data≠.cell v:=T.obj (i+1) s1.heap tn1
   have IP:Inv (zX X scope cl x caps C s H fp pins) (yJ fp s1.heap) (v0::τ) H1 s1:=by
    have:=I1.pinned hfp' hpin
    rw [List.nil_append] at this
    exact this
   refine wpAny_mono (yj (X:=zX X scope cl x caps C s H fp pins) (i:=0) (x:=x) (pos:=px) S.nd rfl (.inl (lookup_relabel_local S.loc)) (.inl (beq_self_eq_true x)) (yJ fp s1.heap) s1 (v0::τ) H1 v u (fun σ2 H2=>σ2=some v::τ∧H2=H1) IP rv ⟨rfl,rfl⟩) (fun _ s2 h2=>?_) fun _ _ z=>z.elim
   obtain ⟨σ2,H2,I2,e1,e2⟩:=h2
   subst e1
   subst e2
   refine wpAny_mono (he (yJ fp s1.heap) s2 (some v::τ) H2 _ I2 (ht i v ys H2 hlt hv hp)) (fun y s3 h3=>?_) fun _ _ z=>z.elim
   obtain ⟨y',H3,I3,ry,hD,hp3⟩:=h3
   refine wpAny_mono (vm (X:=zX X scope cl x caps C s H fp pins) (yJ fp s1.heap) s3 (some v::τ) H3 (.ref D) [y'] (.ref D) [y] (fun _ H4=>H4=upd H3 D (.lst (ys++[y']))) I3 rfl (.cons ry .nil) ⟨D,ys,y',rfl,rfl,hD,by omega,rfl⟩) (fun _ s4 h4=>?_) fun _ _ z=>z.elim
   obtain ⟨_,H4,I4,_,e4⟩:=h4
   subst e4
   have pinned:∀ b∈fp,∀ o,s1.heap.get? b=some o→s4.heap.get? b=some o∧(upd H3 D (.lst (ys++[y']))) b=none:=fun b hb o e=>
    have z:=I4.pin (b,o) (List.mem_append_right _ (wv hb e))
    ⟨z.1,z.2.1⟩
   refine ⟨n+1 - (i+1),by omega,i+1,ys++[y'],some v,_,rfl,hlt,I4.pins_of (fun p z=>nomatch z),T.keep _ _ _ tn1 fun b hb o e=>(pinned b hb o e).1,fun b hb=>⟨?_,(hfp' b hb).2⟩,hp3⟩
   obtain ⟨o,e,_⟩:=hpin b hb
   exact (pinned b hb o e).2
  ·have e:i=n:=by omega
   subst e
   refine wpAny_mono (T.done (zX X scope cl x caps C s H fp pins) rfl rfl rfl hc i [] s' (v0::τ) H' (fun _ _=>False) I' hfp' tn' (hst ys H' hp)) (fun r s1 ⟨er,I1⟩=>?_) fun _ _ z=>z.elim
   subst er
   exact hR _ H' ys s1 I1 hp
 exact codeAny_compStart_list loop (T.self X.A 0 s₄ _ _ t0 loop)
theorem iw {elt iter:Expr} {px pos:Pos} {te:TE} {Q:V→Hp→Prop} {s2:Shared} {it:Addr} {tn:Nat→Heap→Prop} {J:It} {H':Hp} {RR:Value→Addr→Result→Shared→Prop} {E:Value→Shared→Prop} (hc:X.calm=true) (S:uC X scope cl x caps js)
  (he:∀ C s H fp pins,PE (zX X scope cl x caps C s H fp pins) elt te) (I2:Inv X pins σ H' s2) (T:p7 X.prog X.w X.K (.Name x px) J fp it tn) (t0:tn 0 s2.heap) (hfp:∀ b∈fp,xQ X pins H' b) (hr:kz te (y6 σ js) Q J H')
  (hRR:∀ D C H3 s',Inv X pins σ H3 s'→(∃ m,s'.heap.Ns C m)→H3 C=none→C≠X.env.locals→X.s₀.heap.objs.size≤C→(∀ y c,X.env.cells.lookup y=some c→c≠C)→(∀ p∈X.pn++pins,p.1≠C)→Q (.ref D) H3→
   RR (.ref D) C (.ok .next) s'):
  wpAny (model X.prog X.w) X.A (newList []) (fun acc s₃=>wpAny (model X.prog X.w) X.A (newFunctionEnv scope X.env.globals cl [] X.env.qual none .none (some X.env)) (fun cenv s₄=>
   codeAny (model X.prog X.w) X.A (.compStart (.ListComp elt [⟨.Name x px,iter,[],0⟩] scope pos) 0 (.ref it) acc { cenv with scope:=relabel scope X.env }) (RR acc cenv.locals) s₄) E s₃) E s2:=by
 obtain ⟨n,vals,hn,hD⟩:=hr
 obtain ⟨Pv,h0,hl,hgo,hst,ht,hd⟩:=hD s2.heap.objs.size I2.fresh
 refine wpAny_newObj_type (wpAny_newFunctionEnv S.cell (by intro y hy; simp at hy) (fun h₁ hns₁ hsb₁=>?_) S.kind)
 dsimp only at hns₁ hsb₁ ⊢
 have I3:Inv X pins σ (upd H' s2.heap.objs.size (.lst [])) { s2 with heap:=s2.heap.push { cls:=.type "list",data:=.seq ([]:List Value).toArray } }:=I2.lnew (its:=[]) (t':=s2.toks) .nil (by show 0≤sizeLine; omega)
 have hob:=T.obj 0 s2.heap t0
 have keep:∀ b o,(s2.heap.push { cls:=.type "list",data:=.seq ([]:List Value).toArray }).get? b=some o→h₁.get? b=some o:=fun b o e=>
  hsb₁.extBut b o (Nat.ne_of_lt (Heap.lt_size e)) (Heap.get?_push_of_some _ e)
 have fp3:∀ b∈fp,xQ X pins (upd H' s2.heap.objs.size (.lst [])) b:=fun b hb=>by
  obtain ⟨o,e,_⟩:=hob b hb
  exact ⟨(zy (Nat.ne_of_lt (Heap.lt_size e))).trans (hfp b hb).1,(hfp b hb).2⟩
 have IY:=eh (t:=s2.toks+([]:List (Str × Value)).length) I3 S fp3 (fun b hb=>by
  obtain ⟨o,e,_⟩:=hob b hb
  exact ⟨o,Heap.get?_push_of_some _ e⟩) hns₁ keep
 refine lW (D:=s2.heap.objs.size) (n:=n) (vals:=vals) (Pv:=Pv) hc S (he _ _ _ _ _) IY T (T.keep _ _ _ t0 fun b hb o e=>keep b o (Heap.get?_push_of_some _ e)) (fun b hb=>?_) hn h0 hl hgo hst ht (fun σ' H3 ys s' I' hp=>?_)
 ·obtain ⟨f1,f2,f3,f4,f5,f6⟩:=fp3 b hb
  obtain ⟨o,e,_⟩:=hob b hb
  refine ⟨f1,Nat.ne_of_lt (Heap.lt_size (Heap.get?_push_of_some _ e)),fun z=>?_,.inl hb,fun y c h=>f5 y c (S.sub y c h),fun p hp=>?_⟩
  ·rcases List.mem_cons.mp (I3.stkSub b z) with q | q
   ·exact f2 q
   ·exact f3 q
  ·rcases List.mem_append.mp hp with q | q
   ·exact f6 p q
   ·cases q
 ·obtain ⟨m,hn,_⟩:=I'.loc
  refine hRR _ _ H3 s' (ey I3 fp3 I') ⟨m,hn⟩ I'.free (Nat.ne_of_gt I3.lt) I3.sz (fun y c h z=>?_) (fun p hp z=>?_) (hd ys H3 hp)
  ·obtain ⟨v,q⟩:=I3.cell y c h
   exact absurd q.lt (by rw [z]; exact Nat.lt_irrefl _)
  ·exact absurd (Heap.lt_size (I3.pin p hp).1) (by rw [z]; exact Nat.lt_irrefl _)
theorem mL {elt iter:Expr} {px pos:Pos} {wi:TI} {te:TE} (hc:X.calm=true) (S:uC X scope cl x caps js) (hl:PI X (.Name x px) iter wi) (he:∀ C s H fp pins,PE (zX X scope cl x caps C s H fp pins) elt te)
  (hs:∀ y,foldedSetIterable iter X.env y=pure y:=by intro _; rfl):PE X (.ListComp elt [⟨.Name x px,iter,[],0⟩] scope pos) (kf wi te js):=by
 intro pins s σ H Q I h
 rw [eval_ListComp]
 refine wpAny_comprehension_free (use:=none) rfl hs S.clos S.kind S.names (thn (hl pins s σ H (kz te (y6 σ js) Q) I h) fun v s1 h1=>thn h1 fun itv s2 h2=>?_)
 obtain ⟨it,fp,tn,J,H',rfl,I2,T,t0,hfp,hr⟩:=h2
 refine iw (RR:=fun acc C=>compPost (model X.prog X.w) X.A X.xe none (EP X pins σ Q) acc C) hc S he I2 T t0 hfp hr ?_
 intro D C H3 s' I' ⟨m,hn⟩ hC h1 h2 h3 h4 q
 exact ⟨m,hn,fun h' hs'=>⟨.ref D,H3,I'.turned (it:=C) (fun b o hb e=>hs'.extBut b o hb e) hC h1 (.inr h2) h3 h4,rfl,q⟩⟩
end
def wC (cells:List (Str × Addr)) (names:List (Str × NameKind)):List (Str × Addr):=(names.filterMap fun y=>if y.2 == .free then (cells.lookup y.1).map (y.1,·) else none).reverse
theorem vX {α:Type} {y:Str} {c:α}:∀ {l:List (Str × α)},(y,c)∈l→∃ c',l.lookup y=some c'
 | [],h=>nomatch h
 | (z,d)::r,h=>by
  rw [List.lookup_cons]
  cases q:y == z with
  | true=>exact ⟨d,rfl⟩
  | false=>
   rcases List.mem_cons.mp h with e | e
   ·cases e
    rw [beq_self_eq_true] at q
    cases q
   ·exact vX e
theorem mem_clOf {cells:List (Str × Addr)} {names:List (Str × NameKind)} {y:Str} {c:Addr}:(y,c)∈wC cells names↔(y,NameKind.free)∈names∧cells.lookup y=some c:=by
 unfold wC
 rw [List.mem_reverse,List.mem_filterMap]
 constructor
 ·rintro ⟨⟨z,k⟩,hz,e⟩
  split at e
  ·rename_i hk
   obtain rfl:=eq_of_beq hk
   obtain ⟨d,hd,e⟩:=Option.map_eq_some_iff.mp e
   cases e
   exact ⟨hz,hd⟩
  ·cases e
 ·rintro ⟨h1,h2⟩
  exact ⟨(y,.free),h1,by show Option.map _ (List.lookup y cells)=_; rw [h2]; rfl⟩
theorem gh {scope:Scope} {env:Env} (h:∀ y,(y,NameKind.free)∈scope.names→∃ c,env.cells.lookup y=some c):closureFor scope env=pure (wC env.cells scope.names):=by
 have key:∀ (names:List (Str × NameKind)) (acc:List (Str × Addr)),(∀ y,(y,NameKind.free)∈names→∃ c,env.cells.lookup y=some c)→
   (forIn names acc fun x r=>(if x.2 == NameKind.free then do let c ← cellOf env x.1; pure (ForInStep.yield ((x.1,c)::r)) else pure (ForInStep.yield r):Sem (ForInStep (List (Str × Addr)))))=(pure (wC env.cells names++acc):Sem (List (Str × Addr))):=by
  intro names
  induction names with
  | nil=>intro acc _; rfl
  | cons a r ih=>
   intro acc ha
   obtain ⟨n,k⟩:=a
   rw [List.forIn_cons]
   cases hk:k == NameKind.free with
   | true=>
    obtain rfl:=eq_of_beq hk
    obtain ⟨c,hc⟩:=ha n List.mem_cons_self
    have e1:cellOf env n=pure c:=by unfold cellOf; rw [hc]
    have e2:wC env.cells ((n,NameKind.free)::r)=wC env.cells r++[(n,c)]:=by
     unfold wC
     rw [List.filterMap_cons_some (b:=(n,c)) (by show Option.map _ (List.lookup n env.cells)=_; rw [hc]; rfl),List.reverse_cons]
    show (do let c ← cellOf env n; pure (ForInStep.yield ((n,c)::acc)):Sem _) >>= _=_
    rw [e1,pure_bind,pure_bind,e2,List.append_assoc]
    exact ih ((n,c)::acc) fun y hy=>ha y (List.mem_cons_of_mem _ hy)
   | false=>
    have e2:wC env.cells ((n,k)::r)=wC env.cells r:=by
     unfold wC
     rw [List.filterMap_cons_none (by show (if (k == NameKind.free)=true then _ else none)=none; rw [hk]; rfl)]
    show (pure (ForInStep.yield acc):Sem _) >>= _=_
    rw [pure_bind,e2]
    exact ih acc fun y hy=>ha y (List.mem_cons_of_mem _ hy)
 have:=key scope.names [] h
 rw [List.append_nil] at this
 unfold closureFor
 rw [← this]
 exact (bind_pure _).trans rfl
theorem yq {env:Env} (hk:env.scope.kind=.function):∀ {names:List (Str × NameKind)} {x:Str},names.lookup x=some .free→env.scope.names.lookup x=some .cell→
  (names.map fun (n,k)=>if (k == NameKind.free && env.scope.kind == .function && env.kindOf n == some .cell) then (n,NameKind.cell) else (n,k)).lookup x=some .cell
 | [],_,h,_=>by simp at h
 | (n,k)::r,x,h,he=>by
  have ih:=@yq env hk r x
  show List.lookup x ((if (k == NameKind.free && env.scope.kind == .function && env.kindOf n == some .cell)=true then (n,NameKind.cell) else (n,k))::_)=_
  cases hx:x == n with
  | true=>
   obtain rfl:=eq_of_beq hx
   simp only [List.lookup_cons,hx] at h
   cases h
   have e:env.kindOf x=some .cell:=he
   rw [hk,e]
   simp [List.lookup_cons]
  | false=>
   simp only [List.lookup_cons,hx] at h
   by_cases hc:(k == NameKind.free && env.scope.kind == .function && env.kindOf n == some .cell)=true
   ·rw [if_pos hc]; simp only [List.lookup_cons,hx]; exact ih h he
   ·rw [if_neg hc]; simp only [List.lookup_cons,hx]; exact ih h he
def rc (osc scope:Scope) (x:Str) (caps:List Str) (js:List Nat) (N:List Str):Bool:=
 scope.names.all (fun y=>y.2 != .cell && (y.2 != .local || scope.names.lookup y.1 == some .local) && (y.2 != .free || (osc.names.lookup y.1 == some .cell && y.1 != x))) && (scope.kind == .function) && (osc.kind == .function) && (scope.names.lookup x == some .local) &&
 decide (x::caps).Nodup && (js.map (fun j=>N[j]?) == caps.map some) && caps.all (fun y=>scope.names.lookup y == some .free && osc.names.lookup y == some .cell)
theorem gg {X:Cx} {osc scope:Scope} {x:Str} {caps:List Str} {js:List Nat} {L:Addr} (h:rc osc scope x caps js X.N=true) (he:X.env.scope=osc) (hc:X.env.cells=cellsFrom (L+1) osc.names []):uC X scope (wC X.env.cells scope.names) x caps js:=by
 unfold rc at h
 simp only [Bool.and_eq_true] at h
 obtain ⟨⟨⟨⟨⟨⟨h1,h2⟩,h3⟩,h4⟩,h5⟩,h6⟩,h7⟩:=h
 rw [List.all_eq_true] at h1 h7
 have hfree:∀ y,(y,NameKind.free)∈scope.names→osc.names.lookup y=some .cell∧y≠x:=fun y hy=>by
  have q:=h1 _ hy
  rw [Bool.and_eq_true,Bool.and_eq_true] at q
  have q:(osc.names.lookup y == some .cell && y != x)=true:=q.2
  rw [Bool.and_eq_true] at q
  exact ⟨eq_of_beq q.1,bne_iff_ne.mp q.2⟩
 have hcell:∀ y,osc.names.lookup y=some .cell→∃ c,X.env.cells.lookup y=some c:=fun y hy=>by rw [hc]; exact uy hy
 have hfc:∀ y,(y,NameKind.free)∈scope.names→∃ c,X.env.cells.lookup y=some c:=fun y hy=>hcell y (hfree y hy).1
 have hk:X.env.scope.kind=.function:=by rw [he]; exact eq_of_beq h3
 have hj:js.map (fun j=>X.N[j]?)=caps.map some:=eq_of_beq h6
 refine ⟨gh hfc,fun y c q=>(mem_clOf.mp (PySem.mem_of_lookup q)).2,fun y q=>?_,?_,fun y hy e=>?_,eq_of_beq h2,fun y hy e=>?_,eq_of_beq h4,of_decide_eq_true h5,?_,fun k y q=>?_,fun y hy=>?_⟩
 ·have:(y,NameKind.free)∈scope.names:=by
   have mem:∃ k,(y,k)∈(relabel scope X.env).names∧(k=.cell∨k=.free):=by
    rcases q with q | q
    ·exact ⟨_,PySem.mem_of_lookup q,.inl rfl⟩
    ·exact ⟨_,PySem.mem_of_lookup q,.inr rfl⟩
   obtain ⟨k,hm,hk'⟩:=mem
   obtain ⟨⟨n,k0⟩,hn,e⟩:=List.mem_map.mp hm
   have ncell:k0≠.cell:=fun z=>by
    have q:=h1 _ hn
    rw [Bool.and_eq_true,Bool.and_eq_true] at q
    exact absurd z (bne_iff_ne.mp q.1.1)
   dsimp only at e
   split at e
   ·rename_i hz
    rw [Bool.and_eq_true,Bool.and_eq_true] at hz
    obtain rfl:=eq_of_beq hz.1.1
    cases e
    exact hn
   ·cases e
    rcases hk' with z | z
    ·exact absurd z ncell
    ·rw [z] at hn; exact hn
  obtain ⟨c,hc'⟩:=hfc y this
  exact vX (mem_clOf.mpr ⟨this,hc'⟩)
 ·cases q:(wC X.env.cells scope.names).lookup x with
  | none=>rfl
  | some c=>exact absurd rfl (hfree x (mem_clOf.mp (PySem.mem_of_lookup q)).1).2
 ·have q:=h1 y hy
  rw [Bool.and_eq_true,Bool.and_eq_true] at q
  exact absurd e (bne_iff_ne.mp q.1.1)
 ·have q:=h1 y hy
  rw [Bool.and_eq_true,Bool.and_eq_true,e] at q
  exact eq_of_beq (show (scope.names.lookup y.1 == some .local)=true from q.1.2)
 ·have:=congrArg List.length hj
  rwa [List.length_map,List.length_map] at this
 ·have e:(js.map fun j=>X.N[j]?)[k]? = (caps.map some)[k]?:=by rw [hj]
  rw [List.getElem?_map,List.getElem?_map,q] at e
  obtain ⟨j,hj1,hj2⟩:=Option.map_eq_some_iff.mp e
  exact ⟨j,hj1,hj2⟩
 ·have q:=h7 y hy
  rw [Bool.and_eq_true] at q
  have q2:X.env.scope.names.lookup y=some .cell:=by rw [he]; exact eq_of_beq q.2
  exact ⟨yq hk (eq_of_beq q.1) q2,q2⟩
def yQ (ρ:DS) (js:List Nat):DS:=js.map fun j=>match (ρ[j]?:Option Sl) with
 | Option.some (Sl.some d)=>Sl.some d
 | _=>Sl.none
theorem dG {K:PySem.W.Frag} {F:Hp} {W W2:Vw} {ρ:DS} {σ:St} {js:List Nat} {d:Dt} {v:V} (r:Rl K Z F W ρ σ) (s2:Same W.g W2.g) (i:Is K W2.g d v):Rl K (fun _=>none) W2.h W2 (.some d::yQ ρ js) (some v::y6 σ js):=by
 have no:∀ (j:Nat) (ds:List Dt),(Sl.some d::yQ ρ js)[j]? = some (.own ds)→False:=fun j ds q=>by
  match j,q with
  | 0,q=>cases q
  | k+1,q=>
   have q:(yQ ρ js)[k]? = some (.own ds):=q
   unfold yQ at q
   rw [List.getElem?_map] at q
   obtain ⟨j,_,e⟩:=Option.map_eq_some_iff.mp q
   split at e <;> cases e
 have noA:∀ (j:Nat) (a:Addr) (ds:List Dt),(Sl.some d::yQ ρ js)[j]? = some (.arg a ds)→False:=fun j a ds q=>by
  match j,q with
  | 0,q=>cases q
  | k+1,q=>
   have q:(yQ ρ js)[k]? = some (.arg a ds):=q
   unfold yQ at q
   rw [List.getElem?_map] at q
   obtain ⟨j,_,e⟩:=Option.map_eq_some_iff.mp q
   split at e <;> cases e
 refine ⟨by unfold yQ y6; rw [List.length_cons,List.length_cons,List.length_map,List.length_map],fun j e q=>?_,fun j ds q=>(no j ds q).elim,fun j j' ds ds' _ q _=>(no j ds q).elim,Same.refl _,(fun _ _ q=>nomatch q),fun j a ds q=>(noA j a ds q).elim⟩
 match j,q with
 | 0,q=>cases q; exact ⟨v,rfl,i⟩
 | k+1,q=>
  have q:(yQ ρ js)[k]? = some (.some e):=q
  unfold yQ at q
  rw [List.getElem?_map] at q
  obtain ⟨j,hj,e2⟩:=Option.map_eq_some_iff.mp q
  split at e2
  ·rename_i d' hd
   cases e2
   obtain ⟨u,hu,iu⟩:=r.at_ j e hd
   refine ⟨u,?_,Is.mono0 s2 iu⟩
   show (y6 σ js)[k]? = _
   unfold y6
   rw [List.getElem?_map,hj]
   show some ((σ[j]?).getD none)=_
   rw [hu]
   rfl
  ·cases e2
def ad (js:List Nat) (ta te:DTE):DTE:=fun ρ Q=>ta ρ fun d=>∃ (m:Int) (Pv:Nat→List Dt→Prop),d=.int m∧-(2 ^ 62)≤m∧m≤100000∧Pv 0 []∧
 (∀ (i:Nat) es,i<m.toNat→Pv i es→te (.some (.int i)::yQ ρ js) fun y=>Pv (i+1) (es++[y]))∧∀ es,Pv m.toNat es→Q (.lst es)
def YK (t:TE):TI:=fun σ H R=>t σ H fun v H1=>∃ j:Int,v=.int j∧-(2 ^ 62)≤j∧j<2 ^ 62∧R (Itr 0 j.toNat) H1
theorem bn {K:PySem.W.Frag} {tl te:TE} {t u:DTE} {js:List Nat} (h1:LiE K Z tl t) (h2:LiE K (fun _=>none) te u):LiF K Z (kf (YK tl) te js) (ad js t u):=by
 intro F ρ σ H Q r h R k
 refine h1 ρ σ H _ r h _ fun d v W1 s1 i1 ⟨m,Pv,ed,hm0,hm,h0,ht,hd⟩=>?_
 subst ed
 have r1:=r.mono s1
 refine ⟨m,is_int.mp i1,hm0,by omega,m.toNat,fun i v=>v=.int i,Nat.lt_of_le_of_lt (show m.toNat≤100000 by omega) (by decide),fun D hD=>?_⟩
 have gD:W1.g D=none:=W1.sub.free hD
 refine ⟨fun i ys H2=>∃ (W2:Vw) (es:List Dt),W2.h=H2∧Same W1.g W2.g∧Same W1.h (fun b=>if b=D then none else W2.h b)∧(∀ b,W1.h b≠none→W1.g b=none→W2.g b=none)∧W2.h D=some (.lst ys)∧W2.g D=none∧AllIs K W2.g es ys∧ys.length=i∧Pv i es,?_,?_,?_,?_,?_,?_⟩
 ·refine ⟨W1.mine D (.lst []) gD,[],rfl,Same.refl _,fun b o q=>?_,fun b _ q=>q,zx,gD,allIs_nil.mpr rfl,rfl,h0⟩
  have hb:b≠D:=fun e=>by rw [e,hD] at q; cases q
  show (if b=D then none else upd W1.h D (.lst []) b)=some o
  rw [if_neg hb,zy hb]
  exact q
 ·rintro i ys _ _ ⟨W2,es,rfl,s2,_,_,q1,q2,_,q4,_⟩
  exact ⟨q1,q4⟩
 ·rintro i ys H2 hi _
  refine ⟨hi,fun v H3 ⟨e1,e2⟩=>⟨e1,?_⟩⟩
  rw [Int.zero_add] at e2
  exact e2
 ·rintro ys H2 _
  exact Nat.le_refl _
 ·rintro i v ys _ hi rfl ⟨W2,es,rfl,s2,sh,sn,q1,q2,q3,q4,q5⟩
  refine h2 (F:=W2.h) (.some (.int i)::yQ ρ js) (some (.int i)::y6 σ js) W2 _ (dG r1 s2 (is_int.mpr rfl)) (ht i es hi q5) _ fun y w W3 s3 i3 q6=>?_
  have g3:W3.g D=none:=s3.n D (by rw [q1]; intro z; cases z) q2
  refine ⟨s3.h _ _ q1,W3.mine D (.lst (ys++[w])) g3,es++[y],rfl,s2.trans s3.g,fun b o q=>?_,fun b z1 z2=>?_,zx,g3,(q3.mono s3).append (allIs_cons.mpr ⟨w,[],rfl,i3,allIs_nil.mpr rfl⟩),by rw [List.length_append,q4]; rfl,q6⟩
  ·have q':(if b=D then none else W2.h b)=some o:=sh b o q
   have hb:b≠D:=fun e=>by rw [e,hD] at q; cases q
   rw [if_neg hb] at q'
   show (if b=D then none else upd W3.h D (.lst (ys++[w])) b)=some o
   rw [if_neg hb,zy hb]
   exact s3.h _ _ q'
  ·have hb:b≠D:=fun e=>z1 (e ▸ hD)
   have z3:=sn b z1 z2
   refine s3.n b ?_ z3
   cases q:W1.h b with
   | none=>exact absurd q z1
   | some o=>
    have q':(if b=D then none else W2.h b)=some o:=sh b o q
    rw [if_neg hb] at q'
    rw [q']
    intro z; cases z
 ·rintro ys _ ⟨W2,es,rfl,s2,sh,sn,q1,q2,q3,_,q5⟩
  refine k es D ys W2 (s1.trans ⟨s2,fun b o q=>?_,sn⟩) (s1.h.free hD) q1 q2 q3 (hd es q5)
  have q':(if b=D then none else W2.h b)=some o:=sh b o q
  have hb:b≠D:=fun e=>by rw [e,hD] at q; cases q
  rwa [if_neg hb] at q'
section
variable {X:Cx} {fr:Fr} {osc scope:Scope} {x:Str} {caps:List Str} {js:List Nat} {N0:List Str} {L:Addr} {a elt:Expr} {ta te:DTE} {px p0 pos pos1:Pos}
theorem gR {t:TE} {tg:Expr} (hg:Gl X "range") (hm:X.mg "range"=none) (p:PE X a t) (hst:starEach [a] X.env=[(false,eval a X.env)]) (hst2:starEach [a] X.env=(false,eval a X.env)::starEach [] X.env):PI X tg (.Call (.Name "range" p0) [a] [] pos1) (YK t):=by
 intro pins s σ H R I h
 refine ol hg hm (zR p yp hst2) hst pins s σ H R I ?_
 refine (?_:t σ H fun v H1=>∃ j:Int,[v]=[V.int j]∧-(2 ^ 62)≤j∧j<2 ^ 62∧R (Itr 0 j.toNat) H1)
 have e:(fun (v:V) (H1:Hp)=>∃ j:Int,v=V.int j∧-(2 ^ 62)≤j∧j<2 ^ 62∧R (Itr 0 j.toNat) H1)=fun v H1=>∃ j:Int,[v]=[V.int j]∧-(2 ^ 62)≤j∧j<2 ^ 62∧R (Itr 0 j.toNat) H1:=by
  funext v H1
  refine propext ⟨fun ⟨j,q,z⟩=>⟨j,by rw [q],z⟩,fun ⟨j,q,z⟩=>⟨j,(List.cons.inj q).1,z⟩⟩
 rw [← e]
 exact h
theorem bV (hc:X.calm=true) (S:rc osc scope x caps js N0=true) (hN0:X.N=N0) (he':X.env.scope=osc) (hcs:X.env.cells=cellsFrom (L+1) osc.names []) (hg:Gl X "range") (hm:X.mg "range"=none) (hl:DE X a ta)
  (he:∀ C s H fp pins,DE (zX X scope (wC X.env.cells scope.names) x caps C s H fp pins) elt te)
  (hs:∀ y,foldedSetIterable (.Call (.Name "range" p0) [a] [] pos1) X.env y=pure y:=by intro _; rfl)
  (hst:starEach [a] X.env=[(false,eval a X.env)]:=by rfl) (hst2:starEach [a] X.env=(false,eval a X.env)::starEach [] X.env:=by rfl):
  DF X (.ListComp elt [⟨.Name x px,.Call (.Name "range" p0) [a] [] pos1,[],0⟩] scope pos) (ad js ta te):=by
 obtain ⟨tt,p,l⟩:=hl
 exact ⟨_,mL hc (gg (hN0 ▸ S) he' hcs) (gR hg hm p hst hst2) (fun C s H fp pins=>(he C s H fp pins).up) hs,bn l nO⟩
end
section
variable {X:Cx} {a:Expr} {p0 pos:Pos}
theorem eS:bootBuiltins "int"=some (.type "int"):=by decide +kernel
def VW (ta:TA):TE:=fun σ H Q=>ta σ H fun vs H1=>∃ b:Bool,vs=[.bl b]∧Q (.int (if b then 1 else 0)) H1
theorem aW {ta:TA} (hg:Gl X "int") (hm:X.mg "int"=none) (ha:PA X [a] ta) (hs:starEach [a] X.env=(false,eval a X.env)::starEach [] X.env:=by rfl) (hpl:(backTo pos (starEach [] X.env)).any (·.1)=false:=by rfl):
  PE X (.Call (.Name "int" p0) [a] [] pos) (VW ta):=by
 intro pins s σ H Q I h
 refine Call_ (ww I hg hm eS (PyProof.Rows.callWith_type1 (thn (ha pos pins s σ H _ I h) fun us s1 ⟨vs,H1,I1,r1,q1⟩=>?_) hs hpl))
 obtain ⟨b,e,q⟩:=q1
 subst e
 obtain ⟨u,rfl,ru⟩:=r1.one
 cases ru
 exact call_int_bool ⟨.int _,H1,I1.tok _,⟨_,rfl⟩,q⟩
def To (ta:DTE):DTE:=fun ρ Q=>ta ρ fun d=>∃ b:Bool,d=.bl b∧Q (.int (if b then 1 else 0))
theorem Yk {ta:DTE} (hg:Gl X "int") (hm:X.mg "int"=none) (ha:DE X a ta) (hs:starEach [a] X.env=(false,eval a X.env)::starEach [] X.env:=by rfl) (hpl:(backTo pos (starEach [] X.env)).any (·.1)=false:=by rfl):
  DE X (.Call (.Name "int" p0) [a] [] pos) (To ta):=by
 obtain ⟨te,p1,l1⟩:=ha
 refine ⟨_,aW hg hm (zR p1 yp hs) hs hpl,fun ρ σ H Q r h R k=>l1 ρ σ H _ r h _ fun d v H1 s1 i1 ⟨b,ed,q⟩=>?_⟩
 subst ed
 exact ⟨b,by rw [is_bl.mp i1],k _ _ H1 s1 (is_int.mpr rfl) q⟩
end
end OD
namespace OD
variable {Z:Hp}
open PySem PySem.Spec PyProof.Rows L2
def gf (js:List Nat) (ta te:DTE):DTE:=fun ρ Q=>ta ρ fun d=>∃ (ds:List Dt) (Pv:Nat→List Dt→Prop),wZ d=some ds∧ds.length≤100000∧Pv 0 []∧
 (∀ (i:Nat) e es,ds[i]? = some e→Pv i es→te (.some e::yQ ρ js) fun y=>Pv (i+1) (es++[y]))∧∀ es,Pv ds.length es→Q (.lst es)
theorem fW {K:PySem.W.Frag} {tl te:TE} {t u:DTE} {js:List Nat} (h1:LiE K Z tl t) (h2:LiE K (fun _=>none) te u):LiF K Z (kf (YL K tl) te js) (gf js t u):=by
 intro F ρ σ H Q r h R k
 refine h1 ρ σ H _ r h _ fun d v W1 s1 i1 ⟨ds,Pv,el,hlen,h0,ht,hd⟩=>?_
 have r1:=r.mono s1
 obtain ⟨a,xs,rfl,hq,ha⟩:=jF i1 el
 refine ⟨a,rfl,⟨xs,hq W1 (Same.refl _)⟩,xs.length,fun i v=>xs[i]? = some v,by rw [← ha.length]; exact Nat.lt_of_le_of_lt hlen (by decide),fun D hD=>?_⟩
 have gD:W1.g D=none:=W1.sub.free hD
 refine ⟨fun i ys H2=>∃ (W2:Vw) (es:List Dt),W2.h=H2∧Same W1.g W2.g∧Same W1.h (fun b=>if b=D then none else W2.h b)∧(∀ b,W1.h b≠none→W1.g b=none→W2.g b=none)∧W2.h D=some (.lst ys)∧W2.g D=none∧AllIs K W2.g es ys∧ys.length=i∧Pv i es,?_,?_,?_,?_,?_,?_⟩
 ·refine ⟨W1.mine D (.lst []) gD,[],rfl,Same.refl _,fun b o q=>?_,fun b _ q=>q,zx,gD,allIs_nil.mpr rfl,rfl,h0⟩
  have hb:b≠D:=fun e=>by rw [e,hD] at q; cases q
  show (if b=D then none else upd W1.h D (.lst []) b)=some o
  rw [if_neg hb,zy hb]
  exact q
 ·rintro i ys _ _ ⟨W2,es,rfl,s2,_,_,q1,q2,_,q4,_⟩
  exact ⟨q1,q4⟩
 ·rintro i ys _ hi ⟨W2,es,rfl,s2,_⟩
  obtain ⟨v,hv⟩:∃ v,xs[i]? = some v:=⟨_,List.getElem?_eq_getElem hi⟩
  exact ⟨⟨xs,v,hq W2 s2,hv⟩,fun v' H3 ⟨e1,e2⟩=>⟨e1,e2 xs (hq W2 s2)⟩⟩
 ·rintro ys _ ⟨W2,es,rfl,s2,_⟩
  exact ⟨xs,hq W2 s2,Nat.le_refl _⟩
 ·rintro i v ys _ hi hv ⟨W2,es,rfl,s2,sh,sn,q1,q2,q3,q4,q5⟩
  obtain ⟨e,he,ie⟩:=ha.get' hv
  refine h2 (F:=W2.h) (.some e::yQ ρ js) (some v::y6 σ js) W2 _ (dG r1 s2 (Is.mono0 s2 ie)) (ht i e es he q5) _ fun y w W3 s3 i3 q6=>?_
  have g3:W3.g D=none:=s3.n D (by rw [q1]; intro z; cases z) q2
  refine ⟨s3.h _ _ q1,W3.mine D (.lst (ys++[w])) g3,es++[y],rfl,s2.trans s3.g,fun b o q=>?_,fun b z1 z2=>?_,zx,g3,(q3.mono s3).append (allIs_cons.mpr ⟨w,[],rfl,i3,allIs_nil.mpr rfl⟩),by rw [List.length_append,q4]; rfl,q6⟩
  ·have q':(if b=D then none else W2.h b)=some o:=sh b o q
   have hb:b≠D:=fun e=>by rw [e,hD] at q; cases q
   rw [if_neg hb] at q'
   show (if b=D then none else upd W3.h D (.lst (ys++[w])) b)=some o
   rw [if_neg hb,zy hb]
   exact s3.h _ _ q'
  ·have hb:b≠D:=fun e=>z1 (e ▸ hD)
   have z3:=sn b z1 z2
   refine s3.n b ?_ z3
   cases q:W1.h b with
   | none=>exact absurd q z1
   | some o=>
    have q':(if b=D then none else W2.h b)=some o:=sh b o q
    rw [if_neg hb] at q'
    rw [q']
    intro z; cases z
 ·rintro ys _ ⟨W2,es,rfl,s2,sh,sn,q1,q2,q3,_,q5⟩
  refine k es D ys W2 (s1.trans ⟨s2,fun b o q=>?_,sn⟩) (s1.h.free hD) q1 q2 q3 (hd es (by rw [ha.length]; exact q5))
  have q':(if b=D then none else W2.h b)=some o:=sh b o q
  have hb:b≠D:=fun e=>by rw [e,hD] at q; cases q
  rwa [if_neg hb] at q'
section
variable {X:Cx} {fr:Fr} {osc scope:Scope} {x:Str} {caps:List Str} {js:List Nat} {N0:List Str} {L:Addr} {iter elt:Expr} {ta te:DTE} {px pos:Pos}
theorem eL (hc:X.calm=true) (S:rc osc scope x caps js N0=true) (hN0:X.N=N0) (he':X.env.scope=osc) (hcs:X.env.cells=cellsFrom (L+1) osc.names []) (hl:DE X iter ta)
  (he:∀ C s H fp pins,DE (zX X scope (wC X.env.cells scope.names) x caps C s H fp pins) elt te) (hs:∀ y,foldedSetIterable iter X.env y=pure y:=by intro _; rfl):
  DF X (.ListComp elt [⟨.Name x px,iter,[],0⟩] scope pos) (gf js ta te):=by
 obtain ⟨tt,p,l⟩:=hl
 exact ⟨_,mL hc (gg (hN0 ▸ S) he' hcs) (o3 p) (fun C s H fp pins=>(he C s H fp pins).up) hs,fW l nO⟩
end
end OD
namespace L2
open PySem PySem.Spec PyProof.Rows
section
variable {P:Program} {w:World} {H H':Hp} {h B:Heap}
theorem HOk.part (x:HOk P w H h) (k:∀ b u,H b≠none→h.get? b=some u→B.get? b=some u):HOk P w H B:=fun a o e=>
 (x a o e).stay (fun b u hb q=>k b u (fun z=>by rcases hb with rfl | y; (rw [e] at z; cases z); (rw [y] at z; cases z)) q) (fun _ q=>q) fun _ _ q=>q
theorem ObjOk.there {a:Addr} {o:HO} (x:ObjOk P w H h a o):∃ u,h.get? a=some u:=by
 cases o with
 | lst xs=>obtain ⟨_,_,_,_,e⟩:=x; exact ⟨_,e⟩
 | tup xs=>obtain ⟨_,_,_,o,e,_⟩:=x; exact ⟨_,e⟩
 | dK kvs=>obtain ⟨_,_,_,_,o,_,_,e,_⟩:=x; exact ⟨_,e⟩
 | dT kvs=>obtain ⟨_,_,_,_,o,_,_,e,_⟩:=x; exact ⟨_,e⟩
 | set S n=>obtain ⟨o,_,_,_,e,_⟩:=x; exact ⟨_,e⟩
 | ins C dx fs=>obtain ⟨_,_,_,e,_⟩:=x; exact ⟨_,e⟩
 | own y=>exact x
 | xd fs=>obtain ⟨_,⟨_,_,_,e,_⟩,_⟩:=x; exact ⟨_,e⟩
 | rng lo hi=>obtain ⟨_,_,_,e⟩:=x; exact ⟨_,e⟩
 | frz ob u=>obtain ⟨e,_⟩:=x; exact ⟨_,e⟩
 | tbl ps=>exact ⟨_,(show h.get? a=some _ from x)⟩
 | met f y=>exact ⟨_,(show h.get? a=some _ from x)⟩
 | ext φ=>obtain ⟨_,e,_⟩:=x; exact e
end
structure Flies (P:Program) (w:World) (stack:List Env) (H:Hp) (h0:Heap) (H':Hp) (e:Addr) (cls:Value) (h:Heap):Prop where
 ex:∃ B a0,Heap.FlyingW B stack e cls a0 h∧(∀ b o,h0.get? b=some o→H b=none→b∉frs stack→B.get? b=some o)∧(∀ b o,h0.get? b=some o→b∉frs stack→∃ o',B.get? b=some o')∧HOk P w H' B
 slot:∀ b o,h0.get? b=some o→b∈frs stack→∃ sl,h.get? b=some { o with slots:=sl }
 free:∀ b o,h0.get? b=some o→H b=none→H' b=none
 tups:∀ b xs,H b=some (.tup xs)→H' b=some (.tup xs)
 frzs:∀ b o u,H b=some (.frz o u)→H' b=some (.frz o u)
 tbls:∀ b ps,H b=some (.tbl ps)→∃ more,H' b=some (.tbl (ps++more))
 new:h0.get? e=none
section
variable {P:Program} {w:World} {stack:List Env} {H H':Hp} {h0 h:Heap} {e:Addr} {cls:Value}
theorem Flies.un (f:Flies P w stack H h0 H' e cls h):Un (frs stack) [] H H' h0 h:=by
 obtain ⟨B,a0,⟨st,_,_,_⟩,k1,k2,_⟩:=f.ex
 refine ⟨fun b o q n hb _=>st b o (k1 b o q n hb),fun b o q _ hb _=>f.slot b o q hb,fun b o q n _=>f.free b o q n,fun b o q _=>?_,f.tups,f.frzs,f.tbls⟩
 by_cases hb:b∈frs stack
 ·obtain ⟨sl,z⟩:=f.slot b o q hb
  exact ⟨_,z⟩
 ·obtain ⟨o',z⟩:=k2 b o q hb
  exact ⟨o',st b o' z⟩
theorem Flies.hok (f:Flies P w stack H h0 H' e cls h):HOk P w H' h:=by
 obtain ⟨B,a0,⟨st,_,_,_⟩,_,_,k3⟩:=f.ex
 exact k3.kept st
theorem Flies.go (f:Flies P w stack H h0 H' e cls h):∃ B a0,Heap.FlyingW B stack e cls a0 h∧∀ h',Heap.FlyingW B stack e cls a0 h'→h.UpToSlots h'→Flies P w stack H h0 H' e cls h':=by
 obtain ⟨B,a0,fl,k1,k2,k3⟩:=f.ex
 refine ⟨B,a0,fl,fun h' fl' up=>⟨⟨B,a0,fl',k1,k2,k3⟩,fun b o q hb=>?_,f.free,f.tups,f.frzs,f.tbls,f.new⟩⟩
 obtain ⟨sl,z⟩:=f.slot b o q hb
 obtain ⟨_,ob,ho,hd⟩:=fl.2.2.1.mem hb
 rw [z] at ho
 cases ho
 obtain ⟨sl',z'⟩:=up b _ z hd
 exact ⟨sl',z'⟩
end
section
variable {X:Cx} {pins:List (Addr × Obj)} {σ:St} {H H':Hp} {s s':Shared} {M:Model} {E:Value→Shared→Prop} {e:Addr} {cls:Value}
theorem Inv.neL (I:Inv X pins σ H s) {b:Addr} {o:Obj} (q:X.s₀.heap.get? b=some o):b≠X.env.locals:=Nat.ne_of_lt (Nat.lt_of_lt_of_le (Heap.lt_size q) I.ok.above)
theorem bD {vs:List Value} {h1:Heap} {Q:Unit→Shared→Prop} (I:Inv X pins σ H s) (hstk:X.stack=X.env::X.outer) (hf:X.env.frame=some X.env.locals) (hex:X.ex=[]) (hx:Heap.MadeExcOf s.heap h1 e cls vs)
  (hQ:∀ h',Flies X.prog X.w X.outer X.H₀ X.s₀.heap H e cls h'→Q () { s with heap:=h' }):wpAny M X.A (leaving X.env (.ref e)) Q E { s with heap:=h1 }:=by
 have hfr:X.A.frames=some (X.env::X.outer):=by rw [← hstk]; exact I.ok.frames
 have hfs:frs X.stack=X.env.locals::frs X.outer:=by rw [hstk]; unfold frs; rw [List.filterMap_cons,hf]
 have hl:s.heap.FunFrames (PySem.W.hideAll s.heap (frs X.stack)) (X.env::X.outer):=by
  have z:=I.stack
  rw [hstk] at z
  refine PySem.W.funFrames_hide z fun env he a ha=>?_
  rw [hstk]
  exact List.mem_filterMap.mpr ⟨env,he,ha⟩
 have nx:∀ b,b∉X.ex:=fun b z=>by rw [hex] at z; cases z
 have nst:∀ b o,X.s₀.heap.get? b=some o→b∉frs X.outer→b∉frs X.stack:=fun b o q nb z=>by
  rw [hfs] at z
  rcases List.mem_cons.mp z with z | z
  ·exact I.neL q z
  ·exact nb z
 refine PySem.wpAny_leaves_madeW (s:={ s with heap:=h1 }) (h:=s.heap) (base:=PySem.W.hideAll s.heap (frs X.stack)) hfr hf (fun b o q=>PySem.W.of_hideAll _ q) hl hx fun h' t x1 x2 x3 x4=>hQ h' ⟨⟨_,_,x1,fun b o q n nb=>?_,fun b o q nb=>?_,?_⟩,fun b o q hb=>?_,fun b o q n=>I.base.free b o q n (nx b),I.base.tups,I.base.frzs,I.base.tbls,?_⟩
 ·exact PySem.W.hideAll_get _ (I.base.keep b o q n nb (nx b)) (nst b o q nb)
 ·obtain ⟨o',z⟩:=I.base.there b o q (nx b)
  exact ⟨o',PySem.W.hideAll_get _ z (nst b o q nb)⟩
 ·exact I.hok.part fun b u hb q=>PySem.W.hideAll_get _ q fun z=>hb (I.stkFree b z)
 ·obtain ⟨sl,z⟩:=I.base.slot b o q (I.ok.frf b hb) hb (nx b)
  obtain ⟨_,ob,ho,hd⟩:=I.funs.mem hb
  rw [z] at ho
  cases ho
  obtain ⟨sl',z'⟩:=x4 b _ (hx.keeps b _ z) hd
  exact ⟨sl',z'⟩
 ·cases q:X.s₀.heap.get? e with
  | none=>rfl
  | some o=>
   obtain ⟨o',z⟩:=I.base.there e o q (nx e)
   rw [hx.new] at z; cases z
theorem Vh {Q:Unit→Shared→Prop} (I:Inv X pins σ H s) (hstk:X.stack=X.env::X.outer) (hf:X.env.frame=some X.env.locals) (hex:X.ex=[]) (f:Flies X.prog X.w X.stack H s.heap H' e cls s'.heap)
  (hQ:∀ h',Flies X.prog X.w X.outer X.H₀ X.s₀.heap H' e cls h'→Q () { s' with heap:=h' }):wpAny M X.A (leaving X.env (.ref e)) Q E s':=by
 have hfr:X.A.frames=some (X.env::X.outer):=by rw [← hstk]; exact I.ok.frames
 have hfs:frs X.stack=X.env.locals::frs X.outer:=by rw [hstk]; unfold frs; rw [List.filterMap_cons,hf]
 have nx:∀ b,b∉X.ex:=fun b z=>by rw [hex] at z; cases z
 have nst:∀ b o,X.s₀.heap.get? b=some o→b∉frs X.outer→b∉frs X.stack:=fun b o q nb z=>by
  rw [hfs] at z
  rcases List.mem_cons.mp z with z | z
  ·exact I.neL q z
  ·exact nb z
 obtain ⟨B,a0,fl,k1,k2,k3⟩:=f.ex
 have fl':=fl
 rw [hstk] at fl'
 refine PySem.wpAny_leaves_onW hfr hf fl' fun h' x1 x2=>hQ h' ⟨⟨B,a0,x1,fun b o q n nb=>?_,fun b o q nb=>?_,k3⟩,fun b o q hb=>?_,fun b o q n=>?_,fun b xs q=>f.tups b xs (I.base.tups b xs q),fun b o u q=>f.frzs b o u (I.base.frzs b o u q),fun b ps q=>?_,?_⟩
 ·exact k1 b o (I.base.keep b o q n nb (nx b)) (I.base.free b o q n (nx b)) (nst b o q nb)
 ·obtain ⟨o',z⟩:=I.base.there b o q (nx b)
  exact k2 b o' z (nst b o q nb)
 ·obtain ⟨sl,z⟩:=I.base.slot b o q (I.ok.frf b hb) hb (nx b)
  have hb':b∈frs X.stack:=by rw [hfs]; exact List.mem_cons_of_mem _ hb
  obtain ⟨sl',z'⟩:=f.slot b _ z hb'
  obtain ⟨_,ob,ho,hd⟩:=fl.2.2.1.mem hb'
  rw [z'] at ho
  cases ho
  obtain ⟨sl2,z2⟩:=x2 b _ z' hd
  exact ⟨sl2,z2⟩
 ·obtain ⟨o',z⟩:=I.base.there b o q (nx b)
  exact f.free b o' z (I.base.free b o q n (nx b))
 ·obtain ⟨m1,e1⟩:=I.base.tbls b ps q
  obtain ⟨m2,e2⟩:=f.tbls b _ e1
  exact ⟨m1++m2,by rw [e2,Array.append_assoc]⟩
 ·cases q:X.s₀.heap.get? e with
  | none=>rfl
  | some o=>
   obtain ⟨o',z⟩:=I.base.there e o q (nx e)
   rw [f.new] at z; cases z
end
def ExcK (K:PySem.W.Frag) (C:Addr):Prop:=PySem.W.excIn K C [.type "ValueError",.type "Exception",.type "BaseException",.type "object"] "ValueError.__new__"=true
theorem Z7 {K:PySem.W.Frag} {h:Heap} {C:Addr} (X:K.In h) (q:ExcK K C):∃ bm N nm qn bs hdct sn sub ab col dd k0 k1 k2 k3 k5 mN,h.get? C=some (excClassObj nm qn C N bs bm hdct sn sub ab col dd k0 k1 k2 k3 k5 "ValueError.__new__")∧h.Ns N mN∧mN "__init__"=none∧OwnTail h [.type "ValueError",.type "Exception",.type "BaseException",.type "object"] bm:=by
 unfold ExcK PySem.W.excIn at q
 split at q
 ·rename_i d1 cl s1 look
  split at q
  ·rename_i C1 tl w0 w1 w2 w3 nid w5 em es
   simp only [Bool.and_eq_true,Bool.not_eq_true',beq_iff_eq] at q
   obtain ⟨⟨⟨⟨⟨rfl,rfl⟩,q1⟩,q2⟩,q3⟩,q4⟩:=q
   obtain ⟨a1,a2,a3,a4,a5,a6,a7,a8,a9,b1,b2⟩:=cl
   dsimp only at em q1 q3 q4
   subst em q1
   obtain rfl:s1=#[w0,w1,w2,w3,some (.builtin "ValueError.__new__"),w5]:=by
    obtain ⟨l⟩:=s1
    simp only at es; rw [es]
   exact ⟨tl,a4,a1,a5,a2,a6,a7,a8,a9,b1,d1,w0,w1,w2,w3,w5,_,X _ _ look,.of_isNs (PySem.W.isNs_of_in X q3),PySem.W.nsMap_none_of_in X q3 q4,PySem.W.tail_of_in X q2⟩
  ·cases q
 ·cases q
def XOk (X:Cx) (C:Addr) (H:Hp):Prop:=∀ (pins:List (Addr × Obj)) (σ:St) (s:Shared) (h1:Heap) (e:Addr) (vs:List Value),Inv X pins σ H s→Heap.MadeExcOf s.heap h1 e (.ref C) vs→X.xe (.ref e) { s with heap:=h1 }
def Xq (X:Cx) (C:Addr) (te:TE):TS:=fun _ σ H=>te σ H fun _ H1=>XOk X C H1
theorem dP {X:Cx} {C:Addr} {x:Str} {a:Expr} {te:TE} {np cpos pos:Pos} (hc:X.calm=true) (hg:Gl X x) (hm:X.mg x=some (.ref C)) (hC:ExcK X.K C) (ha:PE X a te)
  (hdb:(x == ("__debug__":Str))=false:=by decide) (he:starEach [a] X.env=(false,eval a X.env)::starEach [] X.env:=by rfl):PS X (.Raise (some (.Call (.Name x np) [a] [] cpos)) none pos) (Xq X C te):=by
 intro pins s σ H D I h
 obtain ⟨bm,N,nm,qn,bs,hdct,sn,sub,ab,col,dd,k0,k1,k2,k3,k5,mN,hO,hN,hni,T⟩:=Z7 I.ok.mod.kin hC
 refine PySem.wpAny_Raise_call_subU (C:=C) (nm:=nm) (q:=qn) (N:=N) (bs:=bs) (bm:=bm) (hdct:=hdct) (sn:=sn) (sub:=sub) (ab:=ab) (col:=col) (dd:=dd) (k0:=k0) (k1:=k1) (k2:=k2) (k3:=k3) (k5:=k5)
  PySem.F.excBase_ValueError (by decide) PySem.F.excBase_ValueError (mN:=mN) (T.hasType PySem.F.excBase_ValueError.hasBase) (I.ok.hd hc) (by rw [he]; rfl) hni (s8 I hg hm ⟨rfl,?_⟩ hdb)
 have z:=zR ha yp he cpos pins s σ H (fun us H1=>us.length=1∧XOk X C H1) I (show te σ H (fun x H1=>[x].length=1∧XOk X C H1) from by
  have h:te σ H (fun _ H1=>XOk X C H1):=h
  simpa using h)
 rw [he] at z ⊢
 refine Calls.evalArgs_plain (thn z fun vs s1 ⟨us,H1,I1,r,hl,q⟩=>⟨rfl,?_,I1.bk _ _ hO,hN.keeps I1.bk,T.keeps I1.bk,fun h' e hx=>q pins σ s1 h' e vs I1 hx⟩)
 show vs.length≤_
 rw [← r.length,hl]
 decide
def CX1 (P:Program) (w:World):CXT:=fun outer H s E e s'=>∃ a C H',e=.ref a∧s'.os=s.os∧AllBare s'.gens∧Flies P w outer H s.heap H' a (.ref C) s'.heap∧E (.ref C) none H'
section
variable {P:Program} {w:World} {K:PySem.W.Frag} {mg:Str→Option Value} {base:Heap} {N:List Str} {qual:Str} {scope:Scope} {f C:Addr} {cd:Value} {A:Around} {outer:List Env} {s:Shared} {H H1:Hp} {E:XK}
theorem Xh (h:E (.ref C) none H1):XOk (yF (CX1 P w) P w K mg base N qual scope f cd A outer s H E) C H1:=fun pins σ s' h1 e vs I hx=>
 bD (X:=yF (CX1 P w) P w K mg base N qual scope f cd A outer s H E) I rfl rfl rfl hx fun h' fl=>⟨e,C,H1,rfl,I.os,I.bare,fl,h⟩
theorem Uc:PassesOwn (model P w) (A.deeper (envOfC qual scope s.heap.objs.size f cd)) (envOfC qual scope s.heap.objs.size f cd) (yF (CX1 P w) P w K mg base N qual scope f cd A outer s H E).xe:=PassesOwn.leaving
end
section
variable {X:Cx} {CX:CXT} {k:Nat} {f C:Addr} {fd:FuncData} {ps:List Str} {sp:Sp} {dvs:List V} {ds:List Value} {x y:Str} {p pos:Pos} {e:Expr} {es:List Expr} {t:TA}
end
abbrev TB:=(St→Hp→Prop)→XK→St→Hp→Prop
section
variable {X:Cx} {pins:List (Addr × Obj)} {σ:St} {H:Hp} {s:Shared} {a:Addr}
end
section
variable {X:Cx} {t:TB} {th:TS} {y:Str} {c:Value} {py hpos pos:Pos} {body:List Stmt} {b₀:Stmt} {suite:List Stmt}
end
section
variable {X:Cx} {pins:List (Addr × Obj)} {σ:St} {H:Hp} {s:Shared}
end
section
variable {X:Cx} {t:TB} {th:TS} {y n:Str} {j:Nat} {c:Value} {py hpos pos:Pos} {body:List Stmt} {b₀:Stmt} {suite:List Stmt}
end
end L2
namespace L2
open PySem PySem.Spec PyProof.Rows PySem.W PySem.Builtin PySem.Builtin.ObjectAttr PySem.Builtin.Getset_descriptor
structure Xf (K:PySem.W.Frag) (C:Addr):Prop where
 ga:PySem.W.findIn K (.ref C) "__getattribute__"=some (some (.builtin "BaseException.__getattribute__"))
 gn:PySem.W.findIn K (.ref C) "__getattr__"=some none
 ha:PySem.W.findIn K (.ref C) "__class__"=some (some (.builtin "object.__class__"))
 hn:PySem.W.specialIn K (.builtin "object.__class__") "__get__"=some (some (.builtin "getset_descriptor.__get__"))
 htk:PySem.W.takesIn K (.builtin "object.__class__")=some true
 hm:PySem.W.mroIn K C (.type "object")=some true
 hb:PySem.W.mroIn K C (.type "BaseException")=some true
section
variable {prog:Program} {w:World} {A:Around} {E:Value→Shared→Prop} {s:Shared} {K:PySem.W.Frag} {a C:Addr} {oa:Obj}
end
end L2
namespace OD
open PySem PySem.Spec PyProof.Rows L2
variable {Z:Hp}
def XOn (X:Cx) (C:Addr) (H':Hp):Prop:=∀ (pins:List (Addr × Obj)) (σ:L2.St) (H:Hp) (s:Shared) (a:Addr) (s':Shared),Inv X pins σ H s→s'.os=s.os→AllBare s'.gens→Flies X.prog X.w X.stack H s.heap H' a (.ref C) s'.heap→X.xe (.ref a) s'
def QC (X:Cx):XK:=fun cls _ H'=>∃ C,cls=.ref C∧XOn X C H'
theorem rR {X:Cx}:tV (CX1 X.prog X.w) X (QC X):=fun pins σ H s e s' I ⟨a,C,H',ee,os,bare,fl,C',ec,h⟩=>by
 cases ec
 subst ee
 exact h pins σ H s a s' I os bare fl
def Rz (X:Cx) (C:Addr):Prop:=∀ H',Same (Zx X) H'→XOk X C H'∧XOn X C H'
section
variable {P:Program} {w:World} {K:PySem.W.Frag} {mg:Str→Option Value} {base:Heap} {N:List Str} {qual:Str} {scope:Scope} {f C:Addr} {cd:Value} {A:Around} {outer:List Env} {s:Shared} {H H1:Hp} {E:XK}
theorem dA (h:∀ H',Same H H'→E (.ref C) none H'):Rz (yF (CX1 P w) P w K mg base N qual scope f cd A outer s H E) C:=fun H' z=>by
 rw [eV] at z
 refine ⟨Xh (h H' z),fun pins σ H2 s2 a s' I os bare fl=>?_⟩
 exact Vh (X:=yF (CX1 P w) P w K mg base N qual scope f cd A outer s H E) I rfl rfl rfl fl fun h' fl'=>⟨a,C,H',rfl,os.trans I.os,bare,fl',h H' z⟩
end
abbrev xC:=List Dt→(Dt→Prop)→(Addr→Prop)→Prop
def rd (K:PySem.W.Frag) (S:xC):Sp:=fun vs H Q E=>∃ (W:Vw) (ds:List Dt) (Qd:Dt→Prop) (Ed:Addr→Prop),W.h=H∧AllIs K W.g ds vs∧S ds Qd Ed∧(∀ d v W',Le W W'→Is K W'.g d v→Qd d→Q v W'.h)∧∀ C H',Same W.h H'→Ed C→E (.ref C) none H'
def uA (K:PySem.W.Frag) (S:xC):Sp:=fun vs H Q E=>∃ (W:Vw) (ds:List Dt) (Qd:Dt→Prop) (Ed:Addr→Prop),W.h=H∧AllIs K W.g ds vs∧S ds Qd Ed∧
 (∀ es p xs W',Le W W'→W.h p=none→W'.h p=some (.lst xs)→W'.g p=none→AllIs K W'.g es xs→Qd (.lst es)→Q (.ref p) W'.h)∧∀ C H',Same W.h H'→Ed C→E (.ref C) none H'
structure DOkX (P:Program) (w:World) (K:PySem.W.Frag) (mg:Str→Option Value) (base:Heap) (n:Nat) (x:Str) (S:xC):Prop where
 ex:∃ f fd ps,mg x=some (.ref f)∧PySem.W.keepIn K (.ref f)=true∧Binds K fd ps []∧FnOk P w K mg base (CX1 P w) n f fd ps (rd K S)
structure FOkX (P:Program) (w:World) (K:PySem.W.Frag) (mg:Str→Option Value) (base:Heap) (n:Nat) (x:Str) (S:xC):Prop where
 ex:∃ f fd ps,mg x=some (.ref f)∧PySem.W.keepIn K (.ref f)=true∧Binds K fd ps []∧FnOk P w K mg base (CX1 P w) n f fd ps (uA K S)
section
variable {P:Program} {w:World} {K:PySem.W.Frag} {mg:Str→Option Value} {base:Heap}
theorem Fun.okX {CX:CXT} {x qual:Str} {st:Stmt} {f:Addr} {fd:FuncData} {N ps:List Str} {k:Nat} {sp:Sp} (F:Fun K x qual st f fd) (S:zi N ps (defScope st)) (len:∀ vs H Q E,sp vs H Q E→vs.length=ps.length)
  (hbody:∀ (cdv:Value) (A:Around) (outer:List Env) (s:Shared) (H:Hp) (vs:List V) (Q:VK) (E:XK),Room k (A.deeper (envOfC qual (defScope st) s.heap.objs.size f cdv))→sp vs H Q E→
   ∃ t,PSs (yF CX P w K mg base N qual (defScope st) f cdv A outer s H E) (defBody st) t∧t { nx:=fun _ H'=>Q .non H',rt:=Q } (start N vs) H):FnOk P w K mg base CX (k+1) f fd ps sp:=by
 obtain ⟨oc,od,kV,doc,pm,an,cdv,ct,osl,rfl,lk,hcd⟩:=F.ex
 exact YO lk hcd S len fun A outer s H vs Q E hr h=>hbody cdv A outer s H vs Q E hr h
theorem Rv {x qual:Str} {st:Stmt} {f:Addr} {fd:FuncData} {N ps:List Str} {k:Nat} {S:xC} (F:Fun K x qual st f fd) (sc:zi N ps (defScope st)) (len:∀ ds Q R,S ds Q R→ds.length=ps.length)
  (hbody:∀ (cdv:Value) (A:Around) (outer:List Env) (s:Shared) (H:Hp) (E:XK),Room k (A.deeper (envOfC qual (defScope st) s.heap.objs.size f cdv))→∀ (ds:List Dt) (Q:Dt→Prop) (R:Addr→Prop),S ds Q R→
   (∀ C,R C→Rz (yF (CX1 P w) P w K mg base N qual (defScope st) f cdv A outer s H E) C)→
   ∃ t,DSs (yF (CX1 P w) P w K mg base N qual (defScope st) f cdv A outer s H E) .d (defBody st) t∧t { nx:=fun _=>Q .non,rt:=Q } (yB N.length ds)):FnOk P w K mg base (CX1 P w) (k+1) f fd ps (rd K S):=by
 refine Fun.okX F sc (fun vs H Q E h=>?_) (fun cdv A outer s H vs Q E hr h=>?_)
 ·obtain ⟨W,ds,Qd,Ed,_,ia,hS,_⟩:=h
  rw [← ia.length]
  exact len ds Qd Ed hS
 obtain ⟨W,ds,Qd,Ed,rfl,ia,hS,kk,ke⟩:=h
 obtain ⟨t,⟨ts,p,l⟩,ht⟩:=hbody cdv A outer s W.h E hr ds Qd Ed hS fun C hC=>dA fun H' z=>ke C H' z hC
 refine ⟨ts,p,l W W.g (yB N.length ds) (start N vs) W { nx:=fun _=>Qd .non,rt:=Qd } _ (vf ia (rj (Nat.succ_ne_self _))) ⟨fun ρ σ W' a q=>kk .non .non W' a.le (is_non.mpr rfl) q,fun d v W' s' i' q=>kk d v W' s' i' q,fun _ _ _ _ q=>q.elim,fun _ _ _ _ q=>q.elim⟩ ht⟩
theorem Ru {x qual:Str} {st:Stmt} {f:Addr} {fd:FuncData} {N ps:List Str} {k:Nat} {S:xC} (F:Fun K x qual st f fd) (sc:zi N ps (defScope st)) (len:∀ ds Q R,S ds Q R→ds.length=ps.length)
  (hbody:∀ (cdv:Value) (A:Around) (outer:List Env) (s:Shared) (H:Hp) (E:XK),Room k (A.deeper (envOfC qual (defScope st) s.heap.objs.size f cdv))→∀ (ds:List Dt) (Q:Dt→Prop) (R:Addr→Prop),S ds Q R→
   (∀ C,R C→Rz (yF (CX1 P w) P w K mg base N qual (defScope st) f cdv A outer s H E) C)→
   ∃ t,DSs (yF (CX1 P w) P w K mg base N qual (defScope st) f cdv A outer s H E) .l (defBody st) t∧t { nx:=fun _=>False,rt:=Q } (yB N.length ds)):FnOk P w K mg base (CX1 P w) (k+1) f fd ps (uA K S):=by
 refine Fun.okX F sc (fun vs H Q E h=>?_) (fun cdv A outer s H vs Q E hr h=>?_)
 ·obtain ⟨W,ds,Qd,Ed,_,ia,hS,_⟩:=h
  rw [← ia.length]
  exact len ds Qd Ed hS
 obtain ⟨W,ds,Qd,Ed,rfl,ia,hS,kk,ke⟩:=h
 obtain ⟨t,⟨ts,p,l⟩,ht⟩:=hbody cdv A outer s W.h E hr ds Qd Ed hS fun C hC=>dA fun H' z=>ke C H' z hC
 exact ⟨ts,p,l W W.g (yB N.length ds) (start N vs) W { nx:=fun _=>False,rt:=Qd } _ (vf ia (rj (Nat.succ_ne_self _))) ⟨fun ρ σ W' a q=>q.elim,fun d v W' s' ⟨es,p,xs,e1,e2,e3,e4,e5,e6⟩ q=>by subst e1; subst e2; exact kk es p xs W' s' e3 e4 e5 e6 q,fun _ _ _ _ q=>q.elim,fun _ _ _ _ q=>q.elim⟩ ht⟩
theorem DOkX.mk' {x qual:Str} {st:Stmt} {f:Addr} {fd:FuncData} {ps:List Str} {n:Nat} {S:xC} (F:Fun K x qual st f fd) (hm:mg x=some (.ref f)) (hb:Binds K fd ps []) (h:FnOk P w K mg base (CX1 P w) n f fd ps (rd K S)):DOkX P w K mg base n x S:=
 ⟨f,fd,ps,hm,F.kp,hb,h⟩
theorem FOkX.mk' {x qual:Str} {st:Stmt} {f:Addr} {fd:FuncData} {ps:List Str} {n:Nat} {S:xC} (F:Fun K x qual st f fd) (hm:mg x=some (.ref f)) (hb:Binds K fd ps []) (h:FnOk P w K mg base (CX1 P w) n f fd ps (uA K S)):FOkX P w K mg base n x S:=
 ⟨f,fd,ps,hm,F.kp,hb,h⟩
theorem DOkX.mono {x:Str} {m n:Nat} {S:xC} (h:DOkX P w K mg base m x S) (hl:m≤n):DOkX P w K mg base n x S:=
 let ⟨f,fd,ps,h1,h2,h3,h4⟩:=h.ex; ⟨f,fd,ps,h1,h2,h3,h4.mono hl⟩
theorem FOkX.mono {x:Str} {m n:Nat} {S:xC} (h:FOkX P w K mg base m x S) (hl:m≤n):FOkX P w K mg base n x S:=
 let ⟨f,fd,ps,h1,h2,h3,h4⟩:=h.ex; ⟨f,fd,ps,h1,h2,h3,h4.mono hl⟩
end
section
variable {X:Cx} {e a:Expr} {es:List Expr} {t:DTA} {ta:DTE} {n:Nat} {x y:Str} {S:xC} {p pos np cpos:Pos} {fr:Fr} {C:Addr}
theorem iR {F:Hp} {W:Vw} {ρ:DS} {σ:L2.St} {K:PySem.W.Frag} (r:Rl K Z F W ρ σ):Same Z W.h:=r.z.trans r.fr
def io (X:Cx) (S:xC) (t:DTA):DTE:=fun ρ Q=>t ρ fun ds=>S ds Q (Rz X)
theorem aa (G:DOkX X.prog X.w X.K X.mg X.base n x S) (hr:Room n X.A) (hg:Gl X x) (ha:DA X (e::es) t) (hdb:(x == ("__debug__":Str))=false:=by decide)
  (he:starEach (e::es) X.env=(false,eval e X.env)::starEach es X.env:=by rfl) (hpl:(backTo pos (starEach es X.env)).any (·.1)=false:=by rfl):DE X (.Call (.Name x p) (e::es) [] pos) (io X S t):=by
 obtain ⟨f,fd,ps,hm,hk,hb,F⟩:=G.ex
 obtain ⟨te,p1,l1⟩:=ha
 refine ⟨_,vk F hr hg hm hk hb .nil rR p1 hdb he hpl,fun ρ σ H Q r h R k=>l1 ρ σ H _ r h _ fun ds vs H1 s1 i1 q1=>?_⟩
 rw [List.append_nil]
 exact ⟨H1,ds,Q,Rz X,rfl,i1,q1,fun d v H2 s2 i2 q2=>k d v H2 (s1.trans s2) i2 q2,fun C H' s' hC=>⟨C,rfl,(hC H' (((iR r).trans s1.h).trans s')).2⟩⟩
theorem bW (G:FOkX X.prog X.w X.K X.mg X.base n x S) (hr:Room n X.A) (hg:Gl X x) (ha:DA X (e::es) t) (hdb:(x == ("__debug__":Str))=false:=by decide)
  (he:starEach (e::es) X.env=(false,eval e X.env)::starEach es X.env:=by rfl) (hpl:(backTo pos (starEach es X.env)).any (·.1)=false:=by rfl):DF X (.Call (.Name x p) (e::es) [] pos) (io X S t):=by
 obtain ⟨f,fd,ps,hm,hk,hb,F⟩:=G.ex
 obtain ⟨te,p1,l1⟩:=ha
 refine ⟨_,vk F hr hg hm hk hb .nil rR p1 hdb he hpl,fun ρ σ H Q r h R k=>l1 ρ σ H _ r h _ fun ds vs H1 s1 i1 q1=>?_⟩
 rw [List.append_nil]
 exact ⟨H1,ds,Q,Rz X,rfl,i1,q1,fun es p xs H2 s2 h0 h1 h2 i2 q2=>k es p xs H2 (s1.trans s2) (s1.h.free h0) h1 h2 i2 q2,fun C H' s' hC=>⟨C,rfl,(hC H' (((iR r).trans s1.h).trans s')).2⟩⟩
def Vv (X:Cx) (C:Addr) (ta:DTE):DTS:=fun _ ρ=>ta ρ fun _=>Rz X C
theorem bM (hc:X.calm=true) (hg:Gl X x) (hm:X.mg x=some (.ref C)) (hC:ExcK X.K C) (ha:DE X a ta) (hdb:(x == ("__debug__":Str))=false:=by decide)
  (he:starEach [a] X.env=(false,eval a X.env)::starEach [] X.env:=by rfl):DSt X fr (.Raise (some (.Call (.Name x np) [a] [] cpos)) none pos) (Vv X C ta):=by
 obtain ⟨te,p1,l1⟩:=ha
 exact ⟨_,dP hc hg hm hC p1 hdb he,fun W0 G ρ σ W D D' at_ s h=>l1 ρ σ W _ at_.rl h _ fun d v W1 s1 i1 q1=>(q1 W1.h ((iR at_.rl).trans s1.h)).1⟩
def UJ (K:PySem.W.Frag) (Z:Hp) (fr:Fr) (t:DTS):TS:=fun D' σ H=>∃ (W0:Vw) (G:Hp) (ρ:DS) (W:Vw) (D:uB),W.h=H∧At K Z W0 G W ρ σ∧Sim K Z fr W0 G D D'∧t D ρ
theorem DSs.up {sts:List Stmt} {t:DTS} (h:DSs X fr sts t):PSs X sts (UJ X.K (Zx X) fr t):=by
 obtain ⟨ts,p,l⟩:=h
 intro pins s σ H D' I q
 obtain ⟨W0,G,ρ,W,D,rfl,a,sm,ht⟩:=q
 exact p pins s σ W.h D' I (l W0 G ρ σ W D D' a sm ht)
def Vw.at (W:Vw) (H':Hp) (s:Same W.h H'):Vw:=⟨W.g,H',W.sub.trans s⟩
variable {b₀:Stmt} {suite:List Stmt} {th:DTS} {c:Value} {py hpos epos tpos:Pos}
end
section
variable {X:Cx} {e:Expr} {es:List Expr} {t:DTA} {n:Nat} {x y m:Str} {i j:Nat} {S:xC} {p pos py hpos epos tpos:Pos} {fr:Fr} {b₀:Stmt} {suite:List Stmt} {th:DTS} {c:Value}
end
end OD
namespace OD
variable {Z:Hp}
open PySem PySem.Spec PyProof.Rows L2
def zK (X:Cx) (scope:Scope) (cl:List (Str × Addr)) (bs caps:List Str) (C:Addr) (s:Shared) (H:Hp) (fp:List Addr) (pins:List (Addr × Obj)):Cx where
 prog:=X.prog
 w:=X.w
 K:=X.K
 mg:=X.mg
 base:=X.base
 A:=X.A
 N:=bs++caps
 s₀:=s
 H₀:=H
 env:=compEnvC scope cl C X.env
 outer:=X.stack
 stack:=X.stack
 ex:=fp
 fn:=fun y=>bs.contains y
 calm:=X.calm
 pn:=X.pn++pins
 xe:=fun _ _=>False
structure rh (X:Cx) (scope:Scope) (cl:List (Str × Addr)) (bs caps:List Str) (js:List Nat):Prop where
 clos:closureFor scope X.env=pure cl
 sub:∀ y c,cl.lookup y=some c→X.env.cells.lookup y=some c
 has:∀ y,((relabel scope X.env).names.lookup y=some .cell∨(relabel scope X.env).names.lookup y=some .free)→∃ c,cl.lookup y=some c
 nox:∀ x∈bs,cl.lookup x=none
 cell:∀ y∈scope.names,y.2≠.cell
 kind:scope.kind=.function
 names:∀ y∈scope.names,y.2=.local→scope.names.lookup y.1=some .local
 loc:∀ x∈bs,scope.names.lookup x=some .local
 nd:(bs++caps).Nodup
 len:js.length=caps.length
 at_:∀ (k:Nat) y,caps[k]? = some y→∃ j,js[k]? = some j∧X.N[j]? = some y
 cap:∀ y∈caps,(relabel scope X.env).names.lookup y=some .cell∧X.env.scope.names.lookup y=some .cell
theorem ve {prog:Program} {w:World} {A:Around} {s:Shared} {elt target iter:Expr} {ifs:List Expr} {scope:Scope} {pos:Pos} {it acc:Value} {env:Env} {R:Result→Shared→Prop} (I:Nat→Shared→Prop)
  (turn:∀ n s,I n s→wpAny (model prog w) A (pyNext it) (fun r s₁=>match r with
   | none=>R (.ok .next) s₁
   | some v=>wpAny (model prog w) A (letOwnedTupleGo target it v) (fun _ s₁'=>wpAny (model prog w) A (assign target env v) (fun _ s₂=>
     wpAny (model prog w) A (forIn ifs true fun c r=>if r=true then do let ok ← isTrue c env (eval c env); pure (ForInStep.yield ok) else pure (ForInStep.yield r)) (fun ok s₃=>
      if ok=true then wpAny (model prog w) A (eval elt env) (fun x s₄=>
       wpAny (model prog w) A (call (.builtin "list.append") [acc,x]) (fun _ s₅=>∃ m,m<n∧I m s₅) (notedBy (model prog w) A env fun e s'=>R (.error e) s') s₄) (notedBy (model prog w) A env fun e s'=>R (.error e) s') s₃
      else ∃ m,m<n∧I m s₃) (notedBy (model prog w) A env fun e s'=>R (.error e) s') s₂)
     (notedBy (model prog w) A env fun e s'=>R (.error e) s') s₁') (notedBy (model prog w) A env fun e s'=>R (.error e) s') s₁) (notedBy (model prog w) A env fun e s'=>R (.error e) s') s)
  (n:Nat) (h:I n s):codeAny (model prog w) A (.compLoop (.ListComp elt [⟨target,iter,ifs,0⟩] scope pos) 0 it acc env) R s:=by
 refine codeAny_loop rfl I (fun n s hI=>?_) n h
 show wpAny _ A ((compTurn (.ListComp elt [⟨target,iter,ifs,0⟩] scope pos) 0 it acc env).onRaise (fun x=>do noteFrame x env; theTreesLotGoes x)) _ _ s
 refine wpAny_noted ?_
 rw [compTurn_list]
 refine wpAny_bind (wpAny_standAt (wpAny_bind (wpAny_mono (turn n s hI) (fun r s₁ h₁=>?_) fun _ _ h'=>h')))
 cases r with
 | none=>exact wpAny_pure h₁
 | some v=>
  refine wpAny_bind (wpAny_mono h₁ (fun _ s₁' h₁'=>?_) fun _ _ h'=>h')
  refine wpAny_bind (wpAny_mono h₁' (fun _ s₂ h₂=>wpAny_bind (wpAny_mono h₂ (fun ok s₃ h₃=>?_) fun _ _ h'=>h')) fun _ _ h'=>h')
  cases ok with
  | false=>exact wpAny_pure ⟨rfl,h₃⟩
  | true=>
   exact wpAny_bind (wpAny_bind (wpAny_mono h₃ (fun x s₄ h₄=>wpAny_bind (wpAny_mono h₄ (fun _ s₅ h₅=>wpAny_pure (wpAny_pure ⟨rfl,h₅⟩)) fun _ _ h'=>h')) fun _ _ h'=>h'))
def PC (X:Cx) (ifs:List Expr) (t:TT):Prop:=
 ∀ (pins:List (Addr × Obj)) (s:Shared) (σ:St) (H:Hp) (Q:Bool→Hp→Prop) (E:Value→Shared→Prop),(∀ v s,X.xe v s→E v s)→Inv X pins σ H s→t σ H Q→
  wpAny (model X.prog X.w) X.A (forIn ifs true fun c r=>if r=true then do let ok ← isTrue c X.env (eval c X.env); pure (ForInStep.yield ok) else pure (ForInStep.yield r)) (TP X pins σ Q) E s
theorem XO {X:Cx}:PC X [] (fun _ H Q=>Q true H):=fun _ _ _ H _ _ _ I h=>wpAny_tests_nil ⟨H,I,h⟩
section
variable {X:Cx} {pins:List (Addr × Obj)} {σ:St} {H:Hp} {s:Shared} {scope:Scope} {cl:List (Str × Addr)} {bs caps:List Str} {js:List Nat} {fp:List Addr}
theorem f_ {h₁:Heap} {t:Nat} {m:Str→Option Value} (I:Inv X pins σ H s) (S:rh X scope cl bs caps js) (hfp:∀ b∈fp,xQ X pins H b) (hob:∀ b∈fp,∃ o,s.heap.get? b=some o)
  (hn:h₁.Ns s.heap.objs.size m) (hk:∀ b o,s.heap.get? b=some o→h₁.get? b=some o):Inv (zK X scope cl bs caps s.heap.objs.size s H fp pins) [] (bs.map (fun _=>none)++y6 σ js) H { s with heap:=h₁,toks:=t }:=by
 refine ⟨⟨I.ok.mod,S.kind,I.ok.glob,I.ok.blt,Nat.le_refl _,fun y z c h1 h2=>?_,fun y hy=>?_,fun y c hf h=>?_,I.ok.hd,I.ok.frames,.inl rfl,fun b hb=>⟨?_,fun y c h=>?_⟩,I.bs,Nat.le_trans I.ok.bsz I.sz,fun b o e hb=>?_,fun b hb z=>?_,I.stack,I.stkFree⟩,
  rfl,I.bare,Un.kept hk,⟨_,hn,fun i y v h1 h2 h3=>?_⟩,fun y c h=>?_,I.hok.fresh (Nat.le_refl _),fun y c h=>?_,fun p hp=>?_,I.hok.kept hk,?_⟩
 ·exact I.ok.inj y z c (S.sub y c h1) (S.sub z c h2)
 ·exact S.has y hy
 ·have hf:y∈bs:=List.contains_iff_mem.mp hf
  have h:cl.lookup y=some c:=h
  rw [S.nox y hf] at h
  cases h
 ·obtain ⟨o,e⟩:=hob b hb
  exact Nat.ne_of_lt (Heap.lt_size e)
 ·exact (hfp b hb).2.2.2.2.1 y c (S.sub y c h)
 ·obtain ⟨_,_,_,h4,_⟩:=hfp b hb
  rcases h4 with h4 | h4
  ·exact I.ok.noex b o e h4
  ·exact absurd (Nat.lt_of_lt_of_le (Heap.lt_size e) (Nat.le_trans I.ok.bsz h4)) (Nat.lt_irrefl _)
 ·obtain ⟨_,h2,h3,_⟩:=hfp b hb
  rcases List.mem_cons.mp (I.stkSub b z) with q | q
  ·exact h2 q
  ·exact h3 q
 ·by_cases hi:i<bs.length
  ·rw [List.getElem?_append_left (by rw [List.length_map]; exact hi),List.getElem?_map] at h2
   obtain ⟨_,_,e⟩:=Option.map_eq_some_iff.mp h2
   cases e
  ·have hi:bs.length≤i:=Nat.le_of_not_lt hi
   have h1:(bs++caps)[i]? = some y:=h1
   rw [List.getElem?_append_right hi] at h1
   rw [List.getElem?_append_right (by rw [List.length_map]; exact hi),List.length_map] at h2
   obtain ⟨j,hj,hN⟩:=S.at_ _ y h1
   have hv:σ[j]? = some (some v):=by
    unfold y6 at h2
    rw [List.getElem?_map,hj] at h2
    have h2:(σ[j]?).getD none=some v:=Option.some.inj h2
    cases q:σ[j]? with
    | none=>rw [q] at h2; cases h2
    | some w=>rw [q] at h2; exact congrArg some h2
   obtain ⟨c1,c2⟩:=S.cap y (List.mem_of_getElem? h1)
   obtain ⟨m0,_,hl⟩:=I.loc
   obtain ⟨u,ru,lk⟩:=hl j y v hN hv (.inr (.inl c2))
   refine ⟨u,ru,.inr ⟨.inl c1,?_⟩⟩
   obtain ⟨c,hc⟩:=S.has y (.inl c1)
   rcases lk with ⟨lk,_⟩ | ⟨_,c',hc',hcell⟩
   ·have lk:X.env.scope.names.lookup y=some .local:=lk
    rw [c2] at lk
    cases lk
   ·have e:=S.sub y c hc
    rw [hc'] at e
    cases e
    obtain ⟨o,ho,hd⟩:=hcell
    exact ⟨_,hc,o,hk _ _ ho,hd⟩
 ·obtain ⟨v,o,ho,hd⟩:=I.cell y c (S.sub y c h)
  exact ⟨v,o,hk _ _ ho,hd⟩
 ·exact I.freeC y c (S.sub y c h)
 ·have hp:p∈X.pn++pins:=by
   rcases List.mem_append.mp hp with q | q
   ·exact q
   ·cases q
  obtain ⟨h1,h2,h3,h4,h5⟩:=I.pin p hp
  refine ⟨hk _ _ h1,h2,Nat.ne_of_lt (Heap.lt_size h1),fun z=>?_,h5⟩
  rcases List.mem_cons.mp (I.stkSub _ z) with q | q
  ·exact h3 q
  ·exact h4 q
 ·show (bs.map (fun _=>none)++y6 σ js).length=(bs++caps).length
  unfold y6
  rw [List.length_append,List.length_append,List.length_map,List.length_map,S.len]
theorem eo {C:Addr} {σ':St} {H':Hp} {s':Shared} (I:Inv X pins σ H s) (hfp:∀ b∈fp,xQ X pins H b) (I':Inv (zK X scope cl bs caps C s H fp pins) [] σ' H' s'):Inv X pins σ H' s':=
 I.call' (ch:=fp) I'.os I'.base I'.hok I'.bare fun b hb=>by
  obtain ⟨_,h2,_,h4,h5,h6⟩:=hfp b hb
  exact ⟨h4,h2,h5,h6⟩
def ky (gt:TG) (tt:TT) (te:TE) (k:Nat) (τ:St) (Q:V→Hp→Prop):It→Hp→Prop:=fun J H1=>∃ (n:Nat) (vals:Nat→V→Prop),n<sizeLine∧∀ D,H1 D=none→∃ Pv:Nat→List V→Hp→Prop,
 Pv 0 [] (upd H1 D (.lst []))∧(∀ i ys H2,i≤n→Pv i ys H2→H2 D=some (.lst ys)∧ys.length≤i)∧
 (∀ i ys H2,i<n→Pv i ys H2→J.go i H2∧∀ v H3,J.yld i H2 v H3→H3=H2∧vals i v)∧(∀ ys H2,Pv n ys H2→J.stop n H2)∧
 (∀ i v ys H2 (σ0:St),i<n→vals i v→Pv i ys H2→σ0.length=k→gt v (σ0++τ) H2 fun σ1 H3=>(∃ σ2:St,σ1=σ2++τ∧σ2.length=k)∧tt σ1 H3 fun b H4=>
  if b=true then te σ1 H4 fun y H5=>H5 D=some (.lst ys)∧Pv (i+1) (ys++[y]) (upd H5 D (.lst (ys++[y]))) else Pv (i+1) ys H4)∧∀ ys H2,Pv n ys H2→Q (.ref D) H2
def dk (wi:TI) (gt:TG) (tt:TT) (te:TE) (k:Nat) (js:List Nat):TE:=fun σ H Q=>wi σ H (ky gt tt te k (y6 σ js) Q)
theorem lV {elt tg iter:Expr} {ifs:List Expr} {pos:Pos} {it D:Addr} {n:Nat} {J:It} {vals:Nat→V→Prop} {τ:St} {tn:Nat→Heap→Prop} {gt:TG} {tt:TT} {te:TE} {R:Result→Shared→Prop} {s₄:Shared} {Pv:Nat→List V→Hp→Prop} {C:Addr} (hc:X.calm=true)
  (hg:PG (zK X scope cl bs caps C s H fp pins) tg gt) (ht':PC (zK X scope cl bs caps C s H fp pins) ifs tt)
  (he:PE (zK X scope cl bs caps C s H fp pins) elt te) {σ0:St} (hσ0:σ0.length=bs.length) (I:Inv (zK X scope cl bs caps C s H fp pins) [] (σ0++τ) H s₄) (T:p7 X.prog X.w X.K tg J fp it tn) (t0:tn 0 s₄.heap)
  (hfp:∀ b∈fp,xQ (zK X scope cl bs caps C s H fp pins) [] H b) (hn:n<sizeLine)
  (h0:Pv 0 [] H) (hl:∀ i ys H2,i≤n→Pv i ys H2→H2 D=some (.lst ys)∧ys.length≤i)
  (hgo:∀ i ys H2,i<n→Pv i ys H2→J.go i H2∧∀ v H3,J.yld i H2 v H3→H3=H2∧vals i v) (hst:∀ ys H2,Pv n ys H2→J.stop n H2)
  (ht:∀ i v ys H2 (σ0:St),i<n→vals i v→Pv i ys H2→σ0.length=bs.length→gt v (σ0++τ) H2 fun σ1 H3=>(∃ σ2:St,σ1=σ2++τ∧σ2.length=bs.length)∧tt σ1 H3 fun b H4=>
   if b=true then te σ1 H4 fun y H5=>H5 D=some (.lst ys)∧Pv (i+1) (ys++[y]) (upd H5 D (.lst (ys++[y]))) else Pv (i+1) ys H4)
  (hR:∀ σ' H' ys s',Inv (zK X scope cl bs caps C s H fp pins) [] σ' H' s'→Pv n ys H'→R (.ok .next) s'):
  codeAny (model X.prog X.w) X.A (.compStart (.ListComp elt [⟨tg,iter,ifs,0⟩] scope pos) 0 (.ref it) (.ref D) (compEnvC scope cl C X.env)) R s₄:=by
 have loop:codeAny (model X.prog X.w) X.A (.compLoop (.ListComp elt [⟨tg,iter,ifs,0⟩] scope pos) 0 (.ref it) (.ref D) (compEnvC scope cl C X.env)) R s₄:=by
  refine ve (fun k s'=>∃ i ys,∃ σ1:St,∃ H',k=n+1 - i∧i≤n∧σ1.length=bs.length∧Inv (zK X scope cl bs caps C s H fp pins) [] (σ1++τ) H' s'∧tn i s'.heap∧(∀ b∈fp,xQ (zK X scope cl bs caps C s H fp pins) [] H' b)∧Pv i ys H') ?_ (n+1) ⟨0,[],σ0,H,rfl,Nat.zero_le _,hσ0,I,t0,hfp,h0⟩
  rintro k s' ⟨i,ys,σ1,H',rfl,hi,hσ1,I',tn',hfp',hp⟩
  obtain ⟨q2,q3⟩:=hl i ys H' hi hp
  by_cases hlt:i<n
  ·obtain ⟨g,gy⟩:=hgo i ys H' hlt hp
   refine wpAny_mono (T.item (zK X scope cl bs caps C s H fp pins) rfl rfl rfl hc i [] s' (σ1++τ) H' (notedBy (model X.prog X.w) X.A (compEnvC scope cl C X.env) fun e s'=>R (.error e) s') I' hfp' tn' g) (fun r s1 ⟨u,er,hq⟩=>?_) fun _ _ z=>z
   subst er
   refine wpAny_mono hq (fun _ s1' hq'=>?_) fun _ _ z=>z
   obtain ⟨v,H1,I1,rv,yv,tn1,fn1⟩:=hq'
   obtain ⟨eH,hv⟩:=gy v H1 yv
   subst eH
   have hpin:∀ b∈fp,∃ o,s1'.heap.get? b=some o∧∀ v,o.data≠.cell v:=T.obj (i+1) s1'.heap tn1
   have IP:Inv (zK X scope cl bs caps C s H fp pins) (yJ fp s1'.heap) (σ1++τ) H1 s1':=by
    have:=I1.pinned hfp' hpin
    rw [List.nil_append] at this
    exact this
   refine wpAny_mono (hg (yJ fp s1'.heap) s1' (σ1++τ) H1 v u _ IP rv (ht i v ys H1 σ1 hlt hv hp hσ1)) (fun _ s2 h2=>?_) fun _ _ z=>z.elim
   obtain ⟨σ2',H2,I2,⟨σ2,e2,l2⟩,w2⟩:=h2
   subst e2
   refine wpAny_mono (ht' (yJ fp s1'.heap) s2 (σ2++τ) H2 _ (fun _ _=>False) (fun _ _ z=>z) I2 w2) (fun b s3 h3=>?_) fun _ _ z=>z.elim
   obtain ⟨H3,I3,w3⟩:=h3
   have pinned:∀ {s4:Shared} {H4:Hp} {σ4:St},Inv (zK X scope cl bs caps C s H fp pins) (yJ fp s1'.heap) σ4 H4 s4→∀ b∈fp,∀ o,s1'.heap.get? b=some o→s4.heap.get? b=some o∧H4 b=none:=fun I4 b hb o e=>
    have z:=I4.pin (b,o) (List.mem_append_right _ (wv hb e))
    ⟨z.1,z.2.1⟩
   cases b with
   | false=>
    have w3:Pv (i+1) ys H3:=w3
    show ∃ m,m<n+1 - i∧_
    refine ⟨n+1 - (i+1),by omega,i+1,ys,σ2,H3,rfl,hlt,l2,I3.pins_of (fun p z=>nomatch z),T.keep _ _ _ tn1 fun b hb o e=>(pinned I3 b hb o e).1,fun b hb=>⟨?_,(hfp' b hb).2⟩,w3⟩
    obtain ⟨o,e,_⟩:=hpin b hb
    exact (pinned I3 b hb o e).2
   | true=>
    show wpAny _ _ _ _ _ _
    refine wpAny_mono (he (yJ fp s1'.heap) s3 (σ2++τ) H3 _ I3 w3) (fun y s4 h4=>?_) fun _ _ z=>z.elim
    obtain ⟨y',H4,I4,ry,hD,hp4⟩:=h4
    refine wpAny_mono (vm (X:=zK X scope cl bs caps C s H fp pins) (yJ fp s1'.heap) s4 (σ2++τ) H4 (.ref D) [y'] (.ref D) [y] (fun _ H5=>H5=upd H4 D (.lst (ys++[y']))) I4 rfl (.cons ry .nil) ⟨D,ys,y',rfl,rfl,hD,by omega,rfl⟩) (fun _ s5 h5=>?_) fun _ _ z=>z.elim
    obtain ⟨_,H5,I5,_,e5⟩:=h5
    subst e5
    refine ⟨n+1 - (i+1),by omega,i+1,ys++[y'],σ2,_,rfl,hlt,l2,I5.pins_of (fun p z=>nomatch z),T.keep _ _ _ tn1 fun b hb o e=>(pinned I5 b hb o e).1,fun b hb=>⟨?_,(hfp' b hb).2⟩,hp4⟩
    obtain ⟨o,e,_⟩:=hpin b hb
    exact (pinned I5 b hb o e).2
  ·have e:i=n:=by omega
   subst e
   refine wpAny_mono (T.done (zK X scope cl bs caps C s H fp pins) rfl rfl rfl hc i [] s' (σ1++τ) H' (fun _ _=>False) I' hfp' tn' (hst ys H' hp)) (fun r s1 ⟨er,I1⟩=>?_) fun _ _ z=>z.elim
   subst er
   exact hR _ H' ys s1 I1 hp
 exact codeAny_compStart_list loop (T.self X.A 0 s₄ _ _ t0 loop)
theorem ir {elt tg iter:Expr} {ifs:List Expr} {pos:Pos} {gt:TG} {tt:TT} {te:TE} {Q:V→Hp→Prop} {s2:Shared} {it:Addr} {tn:Nat→Heap→Prop} {J:It} {H':Hp} {RR:Value→Addr→Result→Shared→Prop} {E:Value→Shared→Prop} (hc:X.calm=true) (S:rh X scope cl bs caps js)
  (hg:∀ C s H fp pins,PG (zK X scope cl bs caps C s H fp pins) tg gt) (ht':∀ C s H fp pins,PC (zK X scope cl bs caps C s H fp pins) ifs tt)
  (he:∀ C s H fp pins,PE (zK X scope cl bs caps C s H fp pins) elt te) (I2:Inv X pins σ H' s2) (T:p7 X.prog X.w X.K tg J fp it tn) (t0:tn 0 s2.heap) (hfp:∀ b∈fp,xQ X pins H' b) (hr:ky gt tt te bs.length (y6 σ js) Q J H')
  (hRR:∀ D C H3 s',Inv X pins σ H3 s'→(∃ m,s'.heap.Ns C m)→H3 C=none→C≠X.env.locals→X.s₀.heap.objs.size≤C→(∀ y c,X.env.cells.lookup y=some c→c≠C)→(∀ p∈X.pn++pins,p.1≠C)→Q (.ref D) H3→
   RR (.ref D) C (.ok .next) s'):
  wpAny (model X.prog X.w) X.A (newList []) (fun acc s₃=>wpAny (model X.prog X.w) X.A (newFunctionEnv scope X.env.globals cl [] X.env.qual none .none (some X.env)) (fun cenv s₄=>
   codeAny (model X.prog X.w) X.A (.compStart (.ListComp elt [⟨tg,iter,ifs,0⟩] scope pos) 0 (.ref it) acc { cenv with scope:=relabel scope X.env }) (RR acc cenv.locals) s₄) E s₃) E s2:=by
 obtain ⟨n,vals,hn,hD⟩:=hr
 obtain ⟨Pv,h0,hl,hgo,hst,ht,hd⟩:=hD s2.heap.objs.size I2.fresh
 refine wpAny_newObj_type (wpAny_newFunctionEnv S.cell (by intro y hy; simp at hy) (fun h₁ hns₁ hsb₁=>?_) S.kind)
 dsimp only at hns₁ hsb₁ ⊢
 have I3:Inv X pins σ (upd H' s2.heap.objs.size (.lst [])) { s2 with heap:=s2.heap.push { cls:=.type "list",data:=.seq ([]:List Value).toArray } }:=I2.lnew (its:=[]) (t':=s2.toks) .nil (by show 0≤sizeLine; omega)
 have hob:=T.obj 0 s2.heap t0
 have keep:∀ b o,(s2.heap.push { cls:=.type "list",data:=.seq ([]:List Value).toArray }).get? b=some o→h₁.get? b=some o:=fun b o e=>
  hsb₁.extBut b o (Nat.ne_of_lt (Heap.lt_size e)) (Heap.get?_push_of_some _ e)
 have fp3:∀ b∈fp,xQ X pins (upd H' s2.heap.objs.size (.lst [])) b:=fun b hb=>by
  obtain ⟨o,e,_⟩:=hob b hb
  exact ⟨(zy (Nat.ne_of_lt (Heap.lt_size e))).trans (hfp b hb).1,(hfp b hb).2⟩
 have IY:=f_ (t:=s2.toks+([]:List (Str × Value)).length) I3 S fp3 (fun b hb=>by
  obtain ⟨o,e,_⟩:=hob b hb
  exact ⟨o,Heap.get?_push_of_some _ e⟩) hns₁ keep
 refine lV (D:=s2.heap.objs.size) (n:=n) (vals:=vals) (Pv:=Pv) hc (hg _ _ _ _ _) (ht' _ _ _ _ _) (he _ _ _ _ _) (List.length_map _) IY T (T.keep _ _ _ t0 fun b hb o e=>keep b o (Heap.get?_push_of_some _ e)) (fun b hb=>?_) hn h0 hl hgo hst ht (fun σ' H3 ys s' I' hp=>?_)
 ·obtain ⟨f1,f2,f3,f4,f5,f6⟩:=fp3 b hb
  obtain ⟨o,e,_⟩:=hob b hb
  refine ⟨f1,Nat.ne_of_lt (Heap.lt_size (Heap.get?_push_of_some _ e)),fun z=>?_,.inl hb,fun y c h=>f5 y c (S.sub y c h),fun p hp=>?_⟩
  ·rcases List.mem_cons.mp (I3.stkSub b z) with q | q
   ·exact f2 q
   ·exact f3 q
  ·rcases List.mem_append.mp hp with q | q
   ·exact f6 p q
   ·cases q
 ·obtain ⟨m,hn,_⟩:=I'.loc
  refine hRR _ _ H3 s' (eo I3 fp3 I') ⟨m,hn⟩ I'.free (Nat.ne_of_gt I3.lt) I3.sz (fun y c h z=>?_) (fun p hp z=>?_) (hd ys H3 hp)
  ·obtain ⟨v,q⟩:=I3.cell y c h
   exact absurd q.lt (by rw [z]; exact Nat.lt_irrefl _)
  ·exact absurd (Heap.lt_size (I3.pin p hp).1) (by rw [z]; exact Nat.lt_irrefl _)
theorem d7 {elt tg iter:Expr} {ifs:List Expr} {pos:Pos} {wi:TI} {gt:TG} {tt:TT} {te:TE} (hc:X.calm=true) (S:rh X scope cl bs caps js) (hl:PI X tg iter wi) (hg:∀ C s H fp pins,PG (zK X scope cl bs caps C s H fp pins) tg gt)
  (ht':∀ C s H fp pins,PC (zK X scope cl bs caps C s H fp pins) ifs tt) (he:∀ C s H fp pins,PE (zK X scope cl bs caps C s H fp pins) elt te)
  (hs:∀ y,foldedSetIterable iter X.env y=pure y:=by intro _; rfl):PE X (.ListComp elt [⟨tg,iter,ifs,0⟩] scope pos) (dk wi gt tt te bs.length js):=by
 intro pins s σ H Q I h
 rw [eval_ListComp]
 refine wpAny_comprehension_free (use:=none) rfl hs S.clos S.kind S.names (thn (hl pins s σ H (ky gt tt te bs.length (y6 σ js) Q) I h) fun v s1 h1=>thn h1 fun itv s2 h2=>?_)
 obtain ⟨it,fp,tn,J,H',rfl,I2,T,t0,hfp,hr⟩:=h2
 refine ir (RR:=fun acc C=>compPost (model X.prog X.w) X.A X.xe none (EP X pins σ Q) acc C) hc S hg ht' he I2 T t0 hfp hr ?_
 intro D C H3 s' I' ⟨m,hn⟩ hC h1 h2 h3 h4 q
 exact ⟨m,hn,fun h' hs'=>⟨.ref D,H3,I'.turned (it:=C) (fun b o hb e=>hs'.extBut b o hb e) hC h1 (.inr h2) h3 h4,rfl,q⟩⟩
end
end OD
namespace OD
variable {Z:Hp}
open PySem PySem.Spec PyProof.Rows L2
def nZ (osc scope:Scope) (bs caps:List Str) (js:List Nat) (N:List Str):Bool:=
 scope.names.all (fun y=>y.2 != .cell && (y.2 != .local || scope.names.lookup y.1 == some .local) && (y.2 != .free || (osc.names.lookup y.1 == some .cell && !bs.contains y.1))) && (scope.kind == .function) && (osc.kind == .function) && bs.all (fun x=>scope.names.lookup x == some .local) &&
 decide (bs++caps).Nodup && (js.map (fun j=>N[j]?) == caps.map some) && caps.all (fun y=>scope.names.lookup y == some .free && osc.names.lookup y == some .cell)
theorem Yn {X:Cx} {osc scope:Scope} {bs:List Str} {caps:List Str} {js:List Nat} {L:Addr} (h:nZ osc scope bs caps js X.N=true) (he:X.env.scope=osc) (hc:X.env.cells=cellsFrom (L+1) osc.names []):rh X scope (wC X.env.cells scope.names) bs caps js:=by
 unfold nZ at h
 simp only [Bool.and_eq_true] at h
 obtain ⟨⟨⟨⟨⟨⟨h1,h2⟩,h3⟩,h4⟩,h5⟩,h6⟩,h7⟩:=h
 rw [List.all_eq_true] at h1 h4 h7
 have hfree:∀ y,(y,NameKind.free)∈scope.names→osc.names.lookup y=some .cell∧bs.contains y=false:=fun y hy=>by
  have q:=h1 _ hy
  rw [Bool.and_eq_true,Bool.and_eq_true] at q
  have q:(osc.names.lookup y == some .cell && !bs.contains y)=true:=q.2
  rw [Bool.and_eq_true] at q
  exact ⟨eq_of_beq q.1,by cases z:bs.contains y with | false=>rfl | true=>rw [z] at q; cases q.2⟩
 have hcell:∀ y,osc.names.lookup y=some .cell→∃ c,X.env.cells.lookup y=some c:=fun y hy=>by rw [hc]; exact uy hy
 have hfc:∀ y,(y,NameKind.free)∈scope.names→∃ c,X.env.cells.lookup y=some c:=fun y hy=>hcell y (hfree y hy).1
 have hk:X.env.scope.kind=.function:=by rw [he]; exact eq_of_beq h3
 have hj:js.map (fun j=>X.N[j]?)=caps.map some:=eq_of_beq h6
 refine ⟨gh hfc,fun y c q=>(mem_clOf.mp (PySem.mem_of_lookup q)).2,fun y q=>?_,fun x hx=>?_,fun y hy e=>?_,eq_of_beq h2,fun y hy e=>?_,fun x hx=>eq_of_beq (h4 x hx),of_decide_eq_true h5,?_,fun k y q=>?_,fun y hy=>?_⟩
 ·have:(y,NameKind.free)∈scope.names:=by
   have mem:∃ k,(y,k)∈(relabel scope X.env).names∧(k=.cell∨k=.free):=by
    rcases q with q | q
    ·exact ⟨_,PySem.mem_of_lookup q,.inl rfl⟩
    ·exact ⟨_,PySem.mem_of_lookup q,.inr rfl⟩
   obtain ⟨k,hm,hk'⟩:=mem
   obtain ⟨⟨n,k0⟩,hn,e⟩:=List.mem_map.mp hm
   have ncell:k0≠.cell:=fun z=>by
    have q:=h1 _ hn
    rw [Bool.and_eq_true,Bool.and_eq_true] at q
    exact absurd z (bne_iff_ne.mp q.1.1)
   dsimp only at e
   split at e
   ·rename_i hz
    rw [Bool.and_eq_true,Bool.and_eq_true] at hz
    obtain rfl:=eq_of_beq hz.1.1
    cases e
    exact hn
   ·cases e
    rcases hk' with z | z
    ·exact absurd z ncell
    ·rw [z] at hn; exact hn
  obtain ⟨c,hc'⟩:=hfc y this
  exact vX (mem_clOf.mpr ⟨this,hc'⟩)
 ·cases q:(wC X.env.cells scope.names).lookup x with
  | none=>rfl
  | some c=>
   have z:=(hfree x (mem_clOf.mp (PySem.mem_of_lookup q)).1).2
   rw [List.contains_iff_mem.mpr hx] at z
   cases z
 ·have q:=h1 y hy
  rw [Bool.and_eq_true,Bool.and_eq_true] at q
  exact absurd e (bne_iff_ne.mp q.1.1)
 ·have q:=h1 y hy
  rw [Bool.and_eq_true,Bool.and_eq_true,e] at q
  exact eq_of_beq (show (scope.names.lookup y.1 == some .local)=true from q.1.2)
 ·have:=congrArg List.length hj
  rwa [List.length_map,List.length_map] at this
 ·have e:(js.map fun j=>X.N[j]?)[k]? = (caps.map some)[k]?:=by rw [hj]
  rw [List.getElem?_map,List.getElem?_map,q] at e
  obtain ⟨j,hj1,hj2⟩:=Option.map_eq_some_iff.mp e
  exact ⟨j,hj1,hj2⟩
 ·have q:=h7 y hy
  rw [Bool.and_eq_true] at q
  have q2:X.env.scope.names.lookup y=some .cell:=by rw [he]; exact eq_of_beq q.2
  exact ⟨yq hk (eq_of_beq q.1) q2,q2⟩
theorem iS {K:PySem.W.Frag} {F:Hp} {W W2:Vw} {ρ:DS} {σ:St} {js:List Nat} {ds:List Dt} {vs:List V} (r:Rl K Z F W ρ σ) (s2:Same W.g W2.g) (i:AllIs K W2.g ds vs):Rl K (fun _=>none) W2.h W2 (ds.map Sl.some++yQ ρ js) (vs.map some++y6 σ js):=by
 have no:∀ (j:Nat) (es:List Dt),(ds.map Sl.some++yQ ρ js)[j]? = some (.own es)→False:=fun j es q=>by
  have q:=List.mem_of_getElem? q
  rcases List.mem_append.mp q with q | q
  ·obtain ⟨_,_,e⟩:=List.mem_map.mp q
   cases e
  ·unfold yQ at q
   obtain ⟨j,_,e⟩:=List.mem_map.mp q
   split at e <;> cases e
 have noA:∀ (j:Nat) (a:Addr) (es:List Dt),(ds.map Sl.some++yQ ρ js)[j]? = some (.arg a es)→False:=fun j a es q=>by
  have q:=List.mem_of_getElem? q
  rcases List.mem_append.mp q with q | q
  ·obtain ⟨_,_,e⟩:=List.mem_map.mp q
   cases e
  ·unfold yQ at q
   obtain ⟨j,_,e⟩:=List.mem_map.mp q
   split at e <;> cases e
 refine ⟨by unfold yQ y6; rw [List.length_append,List.length_append,List.length_map,List.length_map,List.length_map,List.length_map,i.length],fun j e q=>?_,fun j ds q=>(no j ds q).elim,fun j j' ds ds' _ q _=>(no j ds q).elim,Same.refl _,(fun _ _ q=>nomatch q),fun j a ds q=>(noA j a ds q).elim⟩
 by_cases hj:j<ds.length
 ·rw [List.getElem?_append_left (by rw [List.length_map]; exact hj),List.getElem?_map] at q
  obtain ⟨d,hd,e1⟩:=Option.map_eq_some_iff.mp q
  cases e1
  obtain ⟨v,hv,iv⟩:=i.get hd
  exact ⟨v,by rw [List.getElem?_append_left (by rw [List.length_map,← i.length]; exact hj),List.getElem?_map,hv]; rfl,iv⟩
 ·have hj:ds.length≤j:=Nat.le_of_not_lt hj
  rw [List.getElem?_append_right (by rw [List.length_map]; exact hj),List.length_map] at q
  rw [List.getElem?_append_right (by rw [List.length_map,← i.length]; exact hj),List.length_map,← i.length]
  unfold yQ at q
  rw [List.getElem?_map] at q
  obtain ⟨k,hk,e2⟩:=Option.map_eq_some_iff.mp q
  split at e2
  ·rename_i d' hd
   cases e2
   obtain ⟨u,hu,iu⟩:=r.at_ k e hd
   refine ⟨u,?_,Is.mono0 s2 iu⟩
   unfold y6
   rw [List.getElem?_map,hk]
   show some ((σ[k]?).getD none)=_
   rw [hu]
   rfl
  ·cases e2
abbrev DTI:=DS→(Nat→(Nat→Dt→Prop)→Prop)→Prop
def LiI (K:PySem.W.Frag) (Z:Hp) (wi:TI) (di:DTI):Prop:=∀ {F:Hp} (ρ:DS) (σ:St) (W:Vw) (Q:Nat→(Nat→Dt→Prop)→Prop),Rl K Z F W ρ σ→di ρ Q→∀ R:It→Hp→Prop,
 (∀ (J:It) (n:Nat) (vals:Nat→Dt→Prop) (W1:Vw),Le W W1→n≤100000→(∀ W2:Vw,Same W1.g W2.g→(∀ i,i<n→J.go i W2.h∧∀ v H3,J.yld i W2.h v H3→H3=W2.h∧∃ e,vals i e∧Is K W1.g e v)∧J.stop n W2.h)→Q n vals→R J W1.h)→wi σ W.h R
def DI (X:Cx) (tg iter:Expr) (di:DTI):Prop:=∃ wi,PI X tg iter wi∧LiI X.K (Zx X) wi di
def LiG (K:PySem.W.Frag) (k:Nat) (gt:TG) (dg:Dt→List Dt→Prop):Prop:=∀ (e:Dt) (v:V) (σ0 τ:St) (W:Vw) (as:List Dt),σ0.length=k→Is K W.g e v→dg e as→∀ Q:St→Hp→Prop,
 (∀ vs,AllIs K W.g as vs→vs.length=k→Q (vs.map some++τ) W.h)→gt v (σ0++τ) W.h Q
def Td:Dt→List Dt→Prop:=fun e as=>as=[e]
theorem iW {K:PySem.W.Frag}:LiG K 1 (bA 0) Td:=by
 rintro e v σ0 τ W as hl i rfl Q q
 match σ0,hl with
 | [a],_=>exact q [v] (allIs_cons.mpr ⟨v,[],rfl,i,allIs_nil.mpr rfl⟩) rfl
def DC (X:Cx) (ifs:List Expr) (t:DTT):Prop:=∃ tt,PC X ifs tt∧LiT X.K (Zx X) tt t
def YY:DTT:=fun _ Q=>Q true
theorem ac {X:Cx}:DC X [] YY:=⟨_,XO,fun _ _ W _ _ h _ k=>k true W (Le.refl W) h⟩
def YG (K:PySem.W.Frag) (t:DTT):TT:=fun σ H R=>∃ (F:Hp) (ρ:DS) (W:Vw) (Q:Bool→Prop),W.h=H∧Rl K (fun _=>none) F W ρ σ∧t ρ Q∧∀ d W',Le W W'→Q d→R d W'.h
theorem DC.up {X:Cx} {ifs:List Expr} {t:DTT} (h:DC X ifs t) (hz:X.stack.length=X.outer.length:=by rfl):PC X ifs (YG X.K t):=by
 obtain ⟨te,p,l⟩:=h
 intro pins s σ H R E hE I q
 obtain ⟨F,ρ,W,Q,rfl,r,h,k⟩:=q
 have r':Rl X.K (Zx X) F W ρ σ:=by unfold Zx; rw [if_pos (Or.inl hz)]; exact r
 exact p pins s σ W.h R E hE I (l ρ σ W Q r' h R k)
theorem bj {K:PySem.W.Frag} {t:DTT}:LiT K (fun _=>none) (YG K t) t:=fun ρ σ H Q r h R k=>⟨_,ρ,H,Q,rfl,r,h,k⟩
def ik (js:List Nat) (di:DTI) (dg:Dt→List Dt→Prop) (tt:DTT) (te:DTE):DTE:=fun ρ Q=>di ρ fun n vals=>∃ Pv:Nat→List Dt→Prop,Pv 0 []∧
 (∀ (i:Nat) e es,i<n→vals i e→Pv i es→∃ as,dg e as∧tt (as.map Sl.some++yQ ρ js) fun b=>if b=true then te (as.map Sl.some++yQ ρ js) fun y=>Pv (i+1) (es++[y]) else Pv (i+1) es)∧∀ es,Pv n es→Q (.lst es)
theorem bo {K:PySem.W.Frag} {wi:TI} {gt:TG} {tt:TT} {te:TE} {di:DTI} {dg:Dt→List Dt→Prop} {dt:DTT} {u:DTE} {k:Nat} {js:List Nat} (h1:LiI K Z wi di) (hg:LiG K k gt dg) (ht':LiT K (fun _=>none) tt dt) (h2:LiE K (fun _=>none) te u):LiF K Z (dk wi gt tt te k js) (ik js di dg dt u):=by
 intro F ρ σ H Q r h R kk
 refine h1 ρ σ H _ r h _ fun J n vals W1 s1 hn hJ ⟨Pv,h0,ht,hd⟩=>?_
 have r1:=r.mono s1
 refine ⟨n,fun i v=>∃ e,vals i e∧Is K W1.g e v,Nat.lt_of_le_of_lt hn (by decide),fun D hD=>?_⟩
 have gD:W1.g D=none:=W1.sub.free hD
 have stp:∀ {W2 W3:Vw} {ys:List V} {es:List Dt},Same W1.g W2.g∧Same W1.h (fun b=>if b=D then none else W2.h b)∧(∀ b,W1.h b≠none→W1.g b=none→W2.g b=none)∧W2.h D=some (.lst ys)∧W2.g D=none∧AllIs K W2.g es ys→Le W2 W3→
   Same W1.g W3.g∧Same W1.h (fun b=>if b=D then none else W3.h b)∧(∀ b,W1.h b≠none→W1.g b=none→W3.g b=none)∧W3.h D=some (.lst ys)∧W3.g D=none∧AllIs K W3.g es ys:=by
  rintro W2 W3 ys es ⟨s2,sh,sn,q1,q2,q3⟩ s3
  refine ⟨s2.trans s3.g,fun b o q=>?_,fun b z1 z2=>?_,s3.h _ _ q1,s3.n D (by rw [q1]; intro z; cases z) q2,q3.mono s3⟩
  ·have q':(if b=D then none else W2.h b)=some o:=sh b o q
   have hb:b≠D:=fun e=>by rw [e,hD] at q; cases q
   rw [if_neg hb] at q'
   show (if b=D then none else W3.h b)=some o
   rw [if_neg hb]
   exact s3.h _ _ q'
  ·have hb:b≠D:=fun e=>z1 (e ▸ hD)
   have z3:=sn b z1 z2
   refine s3.n b ?_ z3
   cases q:W1.h b with
   | none=>exact absurd q z1
   | some o=>
    have q':(if b=D then none else W2.h b)=some o:=sh b o q
    rw [if_neg hb] at q'
    rw [q']
    intro z; cases z
 refine ⟨fun i ys H2=>∃ (W2:Vw) (es:List Dt),W2.h=H2∧(Same W1.g W2.g∧Same W1.h (fun b=>if b=D then none else W2.h b)∧(∀ b,W1.h b≠none→W1.g b=none→W2.g b=none)∧W2.h D=some (.lst ys)∧W2.g D=none∧AllIs K W2.g es ys)∧ys.length≤i∧Pv i es,?_,?_,?_,?_,?_,?_⟩
 ·refine ⟨W1.mine D (.lst []) gD,[],rfl,⟨Same.refl _,fun b o q=>?_,fun b _ q=>q,zx,gD,allIs_nil.mpr rfl⟩,Nat.le_refl _,h0⟩
  have hb:b≠D:=fun e=>by rw [e,hD] at q; cases q
  show (if b=D then none else upd W1.h D (.lst []) b)=some o
  rw [if_neg hb,zy hb]
  exact q
 ·rintro i ys _ _ ⟨W2,es,rfl,⟨s2,_,_,q1,q2,_⟩,q4,_⟩
  exact ⟨q1,q4⟩
 ·rintro i ys _ hi ⟨W2,es,rfl,⟨s2,_⟩,_⟩
  exact (hJ W2 s2).1 i hi
 ·rintro ys _ ⟨W2,es,rfl,⟨s2,_⟩,_⟩
  exact (hJ W2 s2).2
 ·rintro i v ys _ σ0 hi ⟨e,he,ie⟩ ⟨W2,es,rfl,hW2,q4,q5⟩ hσ0
  obtain ⟨as,da,w⟩:=ht i e es hi he q5
  refine hg e v σ0 _ W2 as hσ0 (Is.mono0 hW2.1 ie) da _ fun vs ivs lvs=>⟨⟨vs.map some,rfl,by rw [List.length_map]; exact lvs⟩,?_⟩
  refine ht' (F:=W2.h) (as.map Sl.some++yQ ρ js) (vs.map some++y6 σ js) W2 _ (iS r1 hW2.1 ivs) w _ fun b W3 s3 w3=>?_
  have hW3:=stp hW2 s3
  cases b with
  | false=>exact ⟨W3,es,rfl,hW3,Nat.le_succ_of_le q4,w3⟩
  | true=>
   show te _ _ _
   refine h2 (F:=W3.h) (as.map Sl.some++yQ ρ js) (vs.map some++y6 σ js) W3 _ (iS r1 hW3.1 (ivs.mono s3)) w3 _ fun y w W4 s4 i4 q6=>?_
   obtain ⟨a1,a2,a3,a4,a5,a6⟩:=stp hW3 s4
   refine ⟨a4,W4.mine D (.lst (ys++[w])) a5,es++[y],rfl,⟨a1,fun b o q=>?_,a3,zx,a5,a6.append (allIs_cons.mpr ⟨w,[],rfl,i4,allIs_nil.mpr rfl⟩)⟩,by rw [List.length_append]; exact Nat.succ_le_succ q4,q6⟩
   have q':(if b=D then none else W4.h b)=some o:=a2 b o q
   have hb:b≠D:=fun e=>by rw [e,hD] at q; cases q
   rw [if_neg hb] at q'
   show (if b=D then none else upd W4.h D (.lst (ys++[w])) b)=some o
   rw [if_neg hb,zy hb]
   exact q'
 ·rintro ys _ ⟨W2,es,rfl,⟨s2,sh,sn,q1,q2,q3⟩,_,q5⟩
  refine kk es D ys W2 (s1.trans ⟨s2,fun b o q=>?_,sn⟩) (s1.h.free hD) q1 q2 q3 (hd es q5)
  have q':(if b=D then none else W2.h b)=some o:=sh b o q
  have hb:b≠D:=fun e=>by rw [e,hD] at q; cases q
  rwa [if_neg hb] at q'
section
variable {X:Cx} {fr:Fr} {osc scope:Scope} {bs caps:List Str} {js:List Nat} {N0:List Str} {L:Addr} {tg iter elt a:Expr} {ifs:List Expr} {ta te:DTE} {di:DTI} {tt:DTT} {dg:Dt→List Dt→Prop} {gt:TG} {px p0 pos pos1:Pos}
theorem lQ (hc:X.calm=true) (S:nZ osc scope bs caps js N0=true) (hN0:X.N=N0) (he':X.env.scope=osc) (hcs:X.env.cells=cellsFrom (L+1) osc.names []) (hl:DI X tg iter di)
  (hg:∀ C s H fp pins,PG (zK X scope (wC X.env.cells scope.names) bs caps C s H fp pins) tg gt) (lg:LiG X.K bs.length gt dg)
  (ht:∀ C s H fp pins,DC (zK X scope (wC X.env.cells scope.names) bs caps C s H fp pins) ifs tt)
  (he:∀ C s H fp pins,DE (zK X scope (wC X.env.cells scope.names) bs caps C s H fp pins) elt te) (hs:∀ y,foldedSetIterable iter X.env y=pure y:=by intro _; rfl):
  DF X (.ListComp elt [⟨tg,iter,ifs,0⟩] scope pos) (ik js di dg tt te):=by
 obtain ⟨wi,p,l⟩:=hl
 exact ⟨_,d7 hc (Yn (hN0 ▸ S) he' hcs) p hg (fun C s H fp pins=>(ht C s H fp pins).up) (fun C s H fp pins=>(he C s H fp pins).up) hs,bo l lg bj nO⟩
end
end OD
namespace OD
variable {Z:Hp}
open PySem PySem.Spec PyProof.Rows L2
section
variable {K:PySem.W.Frag} {F:Hp} {W W' W0:Vw}
theorem NewL.mono {d:Dt} {v:V} (h:NewL K F W d v) (s:Le W W'):NewL K F W' d v:=by
 obtain ⟨es,p,xs,h1,h2,h3,h4,h5,h6⟩:=h
 exact ⟨es,p,xs,h1,h2,h3,s.h _ _ h4,s.n p (by rw [h4]; intro z; cases z) h5,h6.mono s⟩
theorem Prt.mono {b:Bool} {d:Dt} {v:V} (h:Prt K F W b d v) (s:Le W W'):Prt K F W' b d v:=by
 cases b with
 | false=>exact Is.mono h s
 | true=>
  rcases h with h | ⟨h1,h2⟩
  ·exact .inl (h.mono s)
  ·exact .inr ⟨h1,Is.mono h2 s⟩
theorem Prt.frz {b:Bool} {d:Dt} {u:V} (le:Le W0 W) (h:Prt K W0.h W b d u):∃ W1:Vw,W1.h=W.h∧Same W.g W1.g∧Le W0 W1∧Is K W1.g d u∧
  ∀ b2 d2 u2,Prt K W0.h W b2 d2 u2→(∀ es fs,b=true→b2=true→d=.lst es→d2=.lst fs→u≠u2)→Prt K W0.h W1 b2 d2 u2:=by
 cases b with
 | false=>exact ⟨W,rfl,Same.refl _,le,h,fun _ _ _ k _=>k⟩
 | true=>
  rcases h with ⟨es,p,xs,rfl,rfl,h3,h4,h5,h6⟩ | ⟨_,h2⟩
  ·refine ⟨W.frz p _ h4,rfl,zU h5 _,tH le h3 h4 h5,is_lst.mpr ⟨p,xs,rfl,zx,AllIs.mono0 (zU h5 _) h6⟩,fun b2 d2 u2 k ne=>?_⟩
   cases b2 with
   | false=>exact Is.mono0 (zU h5 _) k
   | true=>
    rcases k with ⟨fs,q,ys,rfl,rfl,k3,k4,k5,k6⟩ | ⟨k1,k2⟩
    ·have hq:q≠p:=fun z=>ne es fs rfl rfl rfl rfl (by rw [z])
     exact .inl ⟨fs,q,ys,rfl,rfl,k3,k4,(zy hq).trans k5,AllIs.mono0 (zU h5 _) k6⟩
    ·exact .inr ⟨k1,Is.mono0 (zU h5 _) k2⟩
  ·exact ⟨W,rfl,Same.refl _,le,h2,fun _ _ _ k _=>k⟩
theorem Tld.frz {fr:Fr} {d:Dt} {v:V} (le:Le W0 W) (h:Tld K W0.h W fr d v):∃ W1:Vw,W1.h=W.h∧Le W0 W1∧Is K W1.g d v:=by
 match fr,h with
 | .d,h=>exact ⟨W,rfl,le,h⟩
 | .l,⟨es,p,xs,e1,e2,h3,h4,h5,h6⟩=>
  subst e1; subst e2
  exact ⟨W.frz p _ h4,rfl,tH le h3 h4 h5,is_lst.mpr ⟨p,xs,rfl,zx,AllIs.mono0 (zU h5 _) h6⟩⟩
 | .t a b,⟨d1,d2,q,u1,u2,e1,e2,hq,p1,p2,ne⟩=>
  subst e1; subst e2
  obtain ⟨W1,e1,s1,le1,i1,k1⟩:=p1.frz le
  obtain ⟨W2,e2,s2,le2,i2,_⟩:=(k1 b d2 u2 p2 ne).frz le1
  exact ⟨W2,e2.trans e1,le2,is_tup.mpr ⟨q,_,rfl,s2 _ _ (s1 _ _ hq),allIs_cons.mpr ⟨u1,_,rfl,Is.mono0 s2 i1,allIs_cons.mpr ⟨u2,_,rfl,i2,allIs_nil.mpr rfl⟩⟩⟩⟩
end
def Xa (K:PySem.W.Frag) (fr:Fr) (S:DSp):Sp:=fun vs H Q _=>∃ (W:Vw) (ds:List Dt) (Qd:Dt→Prop),W.h=H∧AllIs K W.g ds vs∧S ds Qd∧∀ d v W',Le W W'→Tld K W.h W' fr d v→Qd d→Q v W'.h
def n4 (K:PySem.W.Frag) (fr:Fr) (S:xC):Sp:=fun vs H Q E=>∃ (W:Vw) (ds:List Dt) (Qd:Dt→Prop) (Ed:Addr→Prop),W.h=H∧AllIs K W.g ds vs∧S ds Qd Ed∧
 (∀ d v W',Le W W'→Tld K W.h W' fr d v→Qd d→Q v W'.h)∧∀ C H',Same W.h H'→Ed C→E (.ref C) none H'
structure TOk (P:Program) (w:World) (K:PySem.W.Frag) (mg:Str→Option Value) (base:Heap) (n:Nat) (x:Str) (fr:Fr) (S:DSp):Prop where
 ex:∃ f fd ps,mg x=some (.ref f)∧PySem.W.keepIn K (.ref f)=true∧Binds K fd ps []∧FnOk P w K mg base CX0 n f fd ps (Xa K fr S)
structure TOkX (P:Program) (w:World) (K:PySem.W.Frag) (mg:Str→Option Value) (base:Heap) (n:Nat) (x:Str) (fr:Fr) (S:xC):Prop where
 ex:∃ f fd ps,mg x=some (.ref f)∧PySem.W.keepIn K (.ref f)=true∧Binds K fd ps []∧FnOk P w K mg base (CX1 P w) n f fd ps (n4 K fr S)
section
variable {P:Program} {w:World} {K:PySem.W.Frag} {mg:Str→Option Value} {base:Heap} {fr:Fr}
theorem Rt {x qual:Str} {st:Stmt} {f:Addr} {fd:FuncData} {N ps:List Str} {k:Nat} {S:xC} (F:Fun K x qual st f fd) (sc:zi N ps (defScope st)) (len:∀ ds Q R,S ds Q R→ds.length=ps.length)
  (hbody:∀ (cdv:Value) (A:Around) (outer:List Env) (s:Shared) (H:Hp) (E:XK),Room k (A.deeper (envOfC qual (defScope st) s.heap.objs.size f cdv))→∀ (ds:List Dt) (Q:Dt→Prop) (R:Addr→Prop),S ds Q R→
   (∀ C,R C→Rz (yF (CX1 P w) P w K mg base N qual (defScope st) f cdv A outer s H E) C)→
   ∃ t,DSs (yF (CX1 P w) P w K mg base N qual (defScope st) f cdv A outer s H E) fr (defBody st) t∧t { nx:=fun _=>False,rt:=Q } (yB N.length ds)):FnOk P w K mg base (CX1 P w) (k+1) f fd ps (n4 K fr S):=by
 refine Fun.okX F sc (fun vs H Q E h=>?_) (fun cdv A outer s H vs Q E hr h=>?_)
 ·obtain ⟨W,ds,Qd,Ed,_,ia,hS,_⟩:=h
  rw [← ia.length]
  exact len ds Qd Ed hS
 obtain ⟨W,ds,Qd,Ed,rfl,ia,hS,kk,ke⟩:=h
 obtain ⟨t,⟨ts,p,l⟩,ht⟩:=hbody cdv A outer s W.h E hr ds Qd Ed hS fun C hC=>dA fun H' z=>ke C H' z hC
 exact ⟨ts,p,l W W.g (yB N.length ds) (start N vs) W { nx:=fun _=>False,rt:=Qd } _ (vf ia (rj (Nat.succ_ne_self _))) ⟨fun ρ σ W' a q=>q.elim,kk,fun _ _ _ _ q=>q.elim,fun _ _ _ _ q=>q.elim⟩ ht⟩
theorem TOk.mk' {x qual:Str} {st:Stmt} {f:Addr} {fd:FuncData} {ps:List Str} {n:Nat} {S:DSp} (F:Fun K x qual st f fd) (hm:mg x=some (.ref f)) (hb:Binds K fd ps []) (h:FnOk P w K mg base CX0 n f fd ps (Xa K fr S)):TOk P w K mg base n x fr S:=
 ⟨f,fd,ps,hm,F.kp,hb,h⟩
theorem TOkX.mk' {x qual:Str} {st:Stmt} {f:Addr} {fd:FuncData} {ps:List Str} {n:Nat} {S:xC} (F:Fun K x qual st f fd) (hm:mg x=some (.ref f)) (hb:Binds K fd ps []) (h:FnOk P w K mg base (CX1 P w) n f fd ps (n4 K fr S)):TOkX P w K mg base n x fr S:=
 ⟨f,fd,ps,hm,F.kp,hb,h⟩
end
def LiR (K:PySem.W.Frag) (Z:Hp) (fr:Fr) (te:TE) (t:DTE):Prop:=
 ∀ {F:Hp} (ρ:DS) (σ:St) (H:Vw) (Q:Dt→Prop),Rl K Z F H ρ σ→t ρ Q→∀ R:VK,(∀ d v H',Le H H'→Tld K H.h H' fr d v→Q d→R v H'.h)→te σ H.h R
def DR (X:Cx) (fr:Fr) (e:Expr) (t:DTE):Prop:=∃ te,PE X e te∧LiR X.K (Zx X) fr te t
theorem Xm {K:PySem.W.Frag} {F G:Hp} {W:Vw} {fr:Fr} {d:Dt} {v:V} (z:∀ p,F p=none→G p=none) (h:Tld K F W fr d v):Tld K G W fr d v:=by
 have pp:∀ {b:Bool} {d:Dt} {v:V},Prt K F W b d v→Prt K G W b d v:=fun {b d v} h=>by
  cases b with
  | false=>exact h
  | true=>exact h.imp (fun h=>h.le z) id
 match fr,h with
 | .d,h=>exact h
 | .l,h=>exact NewL.le h z
 | .t a b,⟨d1,d2,q,u1,u2,e1,e2,hq,p1,p2,ne⟩=>exact ⟨d1,d2,q,u1,u2,e1,e2,hq,pp p1,pp p2,ne⟩
section
variable {X:Cx} {fr:Fr} {a b:Bool} {e e1 e2:Expr} {es:List Expr} {t t1 t2:DTE} {ta:DTA} {n:Nat} {x y:Str} {S:DSp} {SX:xC} {p pos p0 p1 p2:Pos} {i j:Nat}
theorem bR (G:TOkX X.prog X.w X.K X.mg X.base n x fr SX) (hr:Room n X.A) (hg:Gl X x) (ha:DA X (e::es) ta) (hdb:(x == ("__debug__":Str))=false:=by decide)
  (he:starEach (e::es) X.env=(false,eval e X.env)::starEach es X.env:=by rfl) (hpl:(backTo pos (starEach es X.env)).any (·.1)=false:=by rfl):DR X fr (.Call (.Name x p) (e::es) [] pos) (io X SX ta):=by
 obtain ⟨f,fd,ps,hm,hk,hb,F⟩:=G.ex
 obtain ⟨te,p1,l1⟩:=ha
 refine ⟨_,vk F hr hg hm hk hb .nil rR p1 hdb he hpl,fun ρ σ H Q r h R k=>l1 ρ σ H _ r h _ fun ds vs H1 s1 i1 q1=>?_⟩
 rw [List.append_nil]
 exact ⟨H1,ds,Q,Rz X,rfl,i1,q1,fun d v H2 s2 t2 q2=>k d v H2 (s1.trans s2) (Xm (fun _ z=>s1.h.free z) t2) q2,fun C H' s' hC=>⟨C,rfl,(hC H' (((iR r).trans s1.h).trans s')).2⟩⟩
def Qk (t:DTE):DTE:=fun ρ Q=>t ρ fun d=>∃ d1 es,d=.tup [d1,.lst es]∧Q (.lst es)
theorem Vo {jj} (h:DR X (.t a true) e t) (hs:rg (.Constant (.int 1) jj p0)):DF X (.Subscript e (.Constant (.int 1) jj p0) pos) (Qk t):=by
 obtain ⟨te,p1,l1⟩:=h
 refine ⟨_,d3 bq p1 d6 hs,fun ρ σ H Q r h R k=>l1 ρ σ H _ r h _ fun d v H1 s1 ⟨d1,d2,q,u1,u2,e1,e2,hq,pt1,pt2,ne⟩ ⟨d1',es,ed,qq⟩=>?_⟩
 subst e2
 rw [ed] at e1
 cases e1
 rcases pt2 with ⟨fs,p,xs,e1,e2,h3,h4,h5,h6⟩ | ⟨z,_⟩
 ·cases e1; subst e2
  exact .inr (.inl ⟨q,_,1,_,rfl,rfl,.of (H1.sub _ _ hq),rfl,k es p xs H1 s1 h3 h4 h5 h6 qq⟩)
 ·cases z
def Qo (i:Nat):DTE:=fun ρ Q=>∃ ds,ρ[i]? = some (.own ds)∧Q (.lst ds)
def U_ (t1 t2:DTE):DTS:=fun D ρ=>t1 ρ fun d1=>t2 ρ fun d2=>D.rt (.tup [d1,d2])
theorem bL {x1} (i:Nat) (h2:DF X e2 t2) (hN:X.N[i]? = some x:=by rfl) (hv:Vis X.env.scope x:=by first | exact Or.inl rfl | exact Or.inr (Or.inl rfl) | exact Or.inr (Or.inr rfl)) (hd:(x == ("__debug__":Str))=false:=by decide)
  (hcd:(x == ("__classdict__":Str))=false:=by decide)
  (hst:starEach [.Name x p1,e2] X.env=(false,eval (.Name x p1) X.env)::starEach [e2] X.env:=by rfl) (hst2:starEach [e2] X.env=(false,eval e2 X.env)::starEach [] X.env:=by rfl):
  DSt X (.t true true) (.Return (some (.Tuple [.Name x p1,e2] x1 p0)) pos) (U_ (Qo i) t2):=by
 obtain ⟨te2,q2,l2⟩:=h2
 refine ⟨_,oZ (dW (zR (yo hN hv hd hcd) (zR q2 yp hst2) hst)),fun W0 G ρ σ W D D' at_ s h=>?_⟩
 obtain ⟨ds,e,h⟩:=h
 obtain ⟨c,xs,e1,k2,k3,k4,k5⟩:=at_.rl.ow i ds e
 refine ⟨.ref c,e1,l2 ρ σ W _ at_.rl h _ fun es q ys W2 s2 h0 h1 h2 i2 qq=>?_⟩
 refine ⟨by show 2≤_; decide,fun p hp=>?_⟩
 have s3:=qo hp (.tup [.ref c,.ref q])
 have n1:NewL X.K W0.h W (.lst ds) (.ref c):=⟨ds,c,xs,rfl,rfl,k4,k2,k3,k5⟩
 have n2:NewL X.K W0.h W2 (.lst es) (.ref q):=⟨es,q,ys,rfl,rfl,at_.le.h.free h0,h1,h2,i2⟩
 refine s.tl _ (.ref p) (W2.new p (.tup [.ref c,.ref q])) (at_.le.trans (s2.trans s3)) ⟨_,_,p,_,_,rfl,rfl,zx,.inl ((n1.mono s2).mono s3),.inl (n2.mono s3),fun _ _ _ _ _ _ z=>?_⟩ qq
 cases z
 rw [h0] at k2
 cases k2
def slP:Bool→Dt→Sl
 | true,.lst es=>.own es
 | _,d=>.some d
theorem Rl.ownN {K:PySem.W.Frag} {F:Hp} {W:Vw} {ρ:DS} {σ:St} (r:Rl K Z F W ρ σ) {p:Addr} {xs:List V} {ds:List Dt} (i:Nat) (nep:∀ (j:Nat) (es:List Dt),ρ[j]? = some (Sl.own es)→σ[j]?≠some (some (V.ref p))) (nea:∀ (j:Nat) (a:Addr) (es:List Dt),ρ[j]? = some (Sl.arg a es)→a≠p)
  (hF:F p=none) (h1:W.h p=some (.lst xs)) (h2:W.g p=none) (h3:AllIs K W.g ds xs):Rl K Z F W (ρ.set i (.own ds)) (σ.set i (some (.ref p))):=by
 refine ⟨by rw [List.length_set,List.length_set]; exact r.len,fun j e q=>?_,fun j es q=>?_,fun j k es es' hjk q1 q2=>?_,r.fr,r.z,fun j a fs q=>?_⟩
 ·rcases zo q with ⟨_,_,e1⟩ | ⟨hij,q⟩
  ·cases e1
  ·rw [List.getElem?_set_ne hij]
   exact r.at_ j e q
 ·rcases zo q with ⟨rfl,hl,e1⟩ | ⟨hij,q⟩
  ·cases e1
   exact ⟨p,xs,by rw [List.getElem?_set_self (by rw [← r.len]; exact hl)],h1,h2,hF,h3⟩
  ·rw [List.getElem?_set_ne hij]
   exact r.ow j es q
 ·rcases zo q1 with ⟨rfl,hl,e1⟩ | ⟨hij,q1⟩
  ·rcases zo q2 with ⟨rfl,_,_⟩ | ⟨hik,q2⟩
   ·exact absurd rfl hjk
   ·rw [List.getElem?_set_self (by rw [← r.len]; exact hl),List.getElem?_set_ne hik]
    exact fun z=>nep k es' q2 z.symm
  ·rcases zo q2 with ⟨rfl,hl,_⟩ | ⟨hik,q2⟩
   ·rw [List.getElem?_set_self (by rw [← r.len]; exact hl),List.getElem?_set_ne hij]
    exact nep j es q1
   ·rw [List.getElem?_set_ne hij,List.getElem?_set_ne hik]
    exact r.ne j k es es' hjk q1 q2
 ·rcases zo q with ⟨_,_,e1⟩ | ⟨hij,q⟩
  ·cases e1
  obtain ⟨⟨ys,g1,g2⟩,k1,k2⟩:=r.ar j a fs q
  refine ⟨⟨ys,by rw [List.getElem?_set_ne hij]; exact g1,g2⟩,fun k es q'=>?_,fun k c es q'=>?_⟩
  ·rcases zo q' with ⟨rfl,hl,e1⟩ | ⟨hik,q'⟩
   ·rw [List.getElem?_set_self (by rw [← r.len]; exact hl)]
    intro z
    cases z
    exact nea j _ fs q rfl
   ·rw [List.getElem?_set_ne hik]
    exact k1 k es q'
  ·rcases zo q' with ⟨_,_,e1⟩ | ⟨hik,q'⟩
   ·cases e1
   exact k2 k c es q'
theorem Rl.part {K:PySem.W.Frag} {F F':Hp} {W:Vw} {ρ:DS} {σ:St} (r:Rl K Z F W ρ σ) {b:Bool} {d:Dt} {v:V} (i:Nat) (h:Prt K F' W b d v) (hF:∀ p,F' p=none→F p=none)
  (nep:∀ (p:Addr) (j:Nat) (es fs:List Dt),b=true→d=.lst fs→v=.ref p→F' p=none→ρ[j]? = some (Sl.own es)→σ[j]?≠some (some (V.ref p))) (nea:∀ (p:Addr) (j:Nat) (a:Addr) (es:List Dt),F' p=none→ρ[j]? = some (Sl.arg a es)→a≠p):
  Rl K Z F W (ρ.set i (slP b d)) (σ.set i (some v)):=by
 cases b with
 | false=>cases d <;> exact r.set i h
 | true=>
  rcases h with ⟨es,p,xs,rfl,rfl,h3,h4,h5,h6⟩ | ⟨z,h2⟩
  ·exact r.ownN i (fun j fs e=>nep p j fs es rfl rfl rfl h3 e) (fun j a fs e=>nea p j a fs h3 e) (hF p h3) h4 h5 h6
  ·cases d <;> first | exact r.set i h2 | cases z
end
end OD
namespace L2
open PySem PySem.Spec PyProof.Rows
def Cx.arg (X:Cx):Cx:={ X with fn:=fun y=>!(y == "") }
section
variable {X:Cx} {pins:List (Addr × Obj)} {σ:St} {H:Hp} {s:Shared}
theorem Inv.arg (I:Inv X pins σ H s) (hf:∀ y,X.fn y=true):Inv X.arg pins σ H s:=
 ⟨⟨I.ok.mod,I.ok.kind,I.ok.glob,I.ok.blt,I.ok.above,I.ok.inj,I.ok.has,fun x c _=>I.ok.cab x c (hf x),I.ok.hd,I.ok.frames,I.ok.stk,I.ok.exf,I.ok.bs,I.ok.bsz,I.ok.noex,I.ok.exfs,I.ok.funs,I.ok.frf⟩,I.os,I.bare,I.base,I.loc,I.cell,I.free,I.freeC,I.pin,I.hok,I.len⟩
theorem Inv.outA (ok:X.Ok) (I:Inv X.arg pins σ H s):Inv X pins σ H s:=⟨ok,I.os,I.bare,I.base,I.loc,I.cell,I.free,I.freeC,I.pin,I.hok,I.len⟩
theorem SP.outA {D:uc} {f:Flow} {s':Shared} (ok:X.Ok) (h:SP X.arg pins D f s'):SP X pins D f s':=by
 cases f with
 | next=>obtain ⟨σ',H',I,q⟩:=h; exact ⟨σ',H',I.outA ok,q⟩
 | brk=>obtain ⟨σ',H',I,q⟩:=h; exact ⟨σ',H',I.outA ok,q⟩
 | cont=>obtain ⟨σ',H',I,q⟩:=h; exact ⟨σ',H',I.outA ok,q⟩
 | ret u=>obtain ⟨v,σ',H',I,r,q⟩:=h; exact ⟨v,σ',H',I.outA ok,r,q⟩
theorem PSs.outA {sts:List Stmt} {ts:TS} (h:PSs X.arg sts ts) (hf:∀ y,X.fn y=true):PSs X sts ts:=fun pins s σ H D I q=>thn (h pins s σ H D (I.arg hf) q) fun _ _ z=>SP.outA I.ok z
theorem bx:S8 X (fun o i H Q=>∃ p xs k v,o=.ref p∧i=.int k∧0≤k∧H p=some (.lst xs)∧xs[k.toNat]? = some v∧Q v H):=by
 intro pins s σ H o i ov iv Q I ro ri h
 obtain ⟨p,xs,k,v,rfl,rfl,h0,hp,hv,q⟩:=h
 cases ro
 obtain ⟨t,rfl⟩:=ri
 obtain ⟨its,r,pl,hz⟩:=I.list (.of hp)
 obtain ⟨w,ew,rw'⟩:=r.get hv
 have hl:=r.length
 have hn:=vY
 have hk:k.toNat<xs.length:=by
  rcases Nat.lt_or_ge k.toNat xs.length with z | z
  ·exact z
  ·rw [List.getElem?_eq_none z] at hv; cases hv
 exact wpAny_getItem_list pl.isList h0 (by omega) (by simpa using ew) ⟨v,H,I,rw',q⟩
end
end L2
namespace OD
variable {Z:Hp}
open PySem PySem.Spec PyProof.Rows L2
theorem Xg {X:Cx}:Zx X.arg=fun _=>none:=if_pos (.inr (by show (!(("":Str) == ""))=false; decide))
def Vw.del (W:Vw) (a:Addr) (hg:W.g a=none):Vw:=⟨W.g,fun b=>if b=a then none else W.h b,fun b o q=>by
 have:b≠a:=fun e=>by rw [e,hg] at q; cases q
 show (if b=a then none else W.h b)=some o
 rw [if_neg this]
 exact W.sub _ _ q⟩
theorem tR {W:Vw} {a b:Addr} {hg:W.g a=none} (h:b≠a):(W.del a hg).h b=W.h b:=if_neg h
theorem bX (W:Vw) (a:Addr) (hg:W.g a=none):Le (W.del a hg) W:=⟨Same.refl _,fun b o q=>by
 by_cases e:b=a
 ·subst e
  have q:(if b=b then none else W.h b)=some o:=q
  rw [if_pos rfl] at q
  cases q
 ·rw [← tR (hg:=hg) e]; exact q,fun _ _ h=>h⟩
theorem Le.undel {W0 W W':Vw} {a:Addr} {hg:W.g a=none} (l0:Le W0 W) (h0:W0.h a=none) (l:Le (W.del a hg) W'):Le W0 W':=
 ⟨l0.g.trans l.g,fun b o q=>by
  have e:b≠a:=fun e=>by rw [e,h0] at q; cases q
  exact l.h b o ((tR e).trans (l0.h b o q)),fun b h1 h2=>by
  have e:b≠a:=fun e=>h1 (e ▸ h0)
  exact l.n b (by rw [tR e]; exact fun z=>h1 (l0.h.free z)) (l0.n b h1 h2)⟩
theorem Rl.lent {K:PySem.W.Frag} {F:Hp} {W W':Vw} {ρ:DS} {σ:St} (r:Rl K Z F W ρ σ) {i:Nat} {ds fs:List Dt} {a:Addr} {ys:List V} (hi:ρ[i]? = some (.own ds)) (ha:σ[i]? = some (some (.ref a))) (hg:W.g a=none) (hF:F a=none)
  (le:Le (W.del a hg) W') (h1:W'.h a=some (.lst ys)) (h2:W'.g a=none) (h3:AllIs K W'.g fs ys):Rl K Z F W' (ρ.set i (.own fs)) σ:=by
 have other:∀ j gs,j≠i→ρ[j]? = some (.own gs)→σ[j]?≠some (some (.ref a)):=fun j gs hj q z=>r.ne j i gs ds hj q hi (z.trans ha.symm)
 have keep:∀ b xs,b≠a→W.h b=some (.lst xs)→W.g b=none→W'.h b=some (.lst xs)∧W'.g b=none:=fun b xs hb q1 q2=>
  ⟨le.h b _ ((tR hb).trans q1),le.n b (by rw [tR hb,q1]; intro z; cases z) q2⟩
 refine ⟨by rw [List.length_set]; exact r.len,fun j e q=>?_,fun j gs q=>?_,fun j k gs gs' hjk q1 q2=>?_,fun p o q=>?_,r.z,fun j c gs q=>?_⟩
 ·rcases zo q with ⟨_,_,e1⟩ | ⟨hij,q⟩
  ·cases e1
  ·obtain ⟨v,e1,e2⟩:=r.at_ j e q
   exact ⟨v,e1,Is.mono0 le.g e2⟩
 ·rcases zo q with ⟨rfl,_,e1⟩ | ⟨hij,q⟩
  ·cases e1
   exact ⟨a,ys,ha,h1,h2,hF,h3⟩
  ·obtain ⟨b,xs,e1,e2,e3,e4,e5⟩:=r.ow j gs q
   have hb:b≠a:=fun z=>other j gs (fun z=>hij z.symm) q (z ▸ e1)
   obtain ⟨k1,k2⟩:=keep b xs hb e2 e3
   exact ⟨b,xs,e1,k1,k2,e4,AllIs.mono0 le.g e5⟩
 ·have k1:∃ hs,ρ[j]? = some (.own hs):=by
   rcases zo q1 with ⟨rfl,_,_⟩ | ⟨_,q⟩
   ·exact ⟨_,hi⟩
   ·exact ⟨_,q⟩
  have k2:∃ hs,ρ[k]? = some (.own hs):=by
   rcases zo q2 with ⟨rfl,_,_⟩ | ⟨_,q⟩
   ·exact ⟨_,hi⟩
   ·exact ⟨_,q⟩
  obtain ⟨_,k1⟩:=k1
  obtain ⟨_,k2⟩:=k2
  exact r.ne j k _ _ hjk k1 k2
 ·have e:p≠a:=fun e=>by rw [e,hF] at q; cases q
  exact le.h p o ((tR e).trans (r.fr p o q))
 ·rcases zo q with ⟨_,_,e1⟩ | ⟨hij,q⟩
  ·cases e1
  obtain ⟨⟨xs,g1,g2,g3,g4,g5⟩,k1,k2⟩:=r.ar j c gs q
  have hc:c≠a:=fun z=>k1 i ds hi (by rw [z]; exact ha)
  obtain ⟨m1,m2⟩:=keep c xs hc g2 g3
  refine ⟨⟨xs,g1,m1,m2,g4,AllIs.mono0 le.g g5⟩,fun k es' q'=>?_,fun k c' es' q'=>?_⟩
  ·rcases zo q' with ⟨rfl,_,_⟩ | ⟨_,q'⟩
   ·exact k1 i ds hi
   ·exact k1 k es' q'
  ·rcases zo q' with ⟨_,_,e1⟩ | ⟨hik,q'⟩
   ·cases e1
   exact k2 k c' es' q'
theorem Rl.putA {K:PySem.W.Frag} {F:Hp} {W:Vw} {ρ:DS} {σ:St} (r:Rl K Z F W ρ σ) {i:Nat} {ds es:List Dt} {a:Addr} {ys:List V} (hi:ρ[i]? = some (.arg a ds)) (hg:W.g a=none) (hF:F a=none) (h3:AllIs K W.g es ys):
  Rl K Z F (W.mine a (.lst ys) hg) (ρ.set i (.arg a es)) σ:=by
 obtain ⟨⟨xs,ha,_⟩,no,on⟩:=r.ar i a ds hi
 refine ⟨by rw [List.length_set]; exact r.len,fun j e q=>?_,fun j fs q=>?_,fun j k fs fs' hjk q1 q2=>?_,fun p o q=>?_,r.z,fun j c fs q=>?_⟩
 ·rcases zo q with ⟨_,_,e1⟩ | ⟨hij,q⟩
  ·cases e1
  ·exact r.at_ j e q
 ·rcases zo q with ⟨_,_,e1⟩ | ⟨hij,q⟩
  ·cases e1
  ·obtain ⟨b,xs,e1,e2,e3,e4,e5⟩:=r.ow j fs q
   have hb:b≠a:=fun z=>no j fs q (z ▸ e1)
   exact ⟨b,xs,e1,(zy hb).trans e2,e3,e4,e5⟩
 ·rcases zo q1 with ⟨_,_,e1⟩ | ⟨_,q1⟩
  ·cases e1
  rcases zo q2 with ⟨_,_,e1⟩ | ⟨_,q2⟩
  ·cases e1
  exact r.ne j k _ _ hjk q1 q2
 ·have e:p≠a:=fun e=>by rw [e,hF] at q; cases q
  exact (zy (H:=W.h) (o:=.lst ys) e).trans (r.fr p o q)
 ·rcases zo q with ⟨rfl,hl,e1⟩ | ⟨hij,q⟩
  ·cases e1
   refine ⟨⟨ys,ha,zx,hg,hF,h3⟩,fun k es' q'=>?_,fun k c' es' q'=>?_⟩
   ·rcases zo q' with ⟨_,_,e1⟩ | ⟨_,q'⟩
    ·cases e1
    ·exact no k es' q'
   ·rcases zo q' with ⟨rfl,_,_⟩ | ⟨hik,q'⟩
    ·rfl
    ·exact on k c' es' q'
  ·exact absurd (on j c fs q) (fun z=>hij z.symm)
theorem At.putA {K:PySem.W.Frag} {W0 W:Vw} {G:Hp} {ρ:DS} {σ:St} (at_:At K Z W0 G W ρ σ) {i:Nat} {ds es:List Dt} {a:Addr} {ys:List V} (hi:ρ[i]? = some (.arg a ds)) (hg:W.g a=none) (hF:W0.h a=none) (h3:AllIs K W.g es ys):
  At K Z W0 G (W.mine a (.lst ys) hg) (ρ.set i (.arg a es)) σ:=
 ⟨⟨at_.le.g,fun b o q=>by
   have:b≠a:=fun e=>by rw [e,hF] at q; cases q
   show upd W.h a _ b=some o
   rw [zy this]; exact at_.le.h _ _ q,at_.le.n⟩,at_.gs,at_.rl.putA hi hg hF h3⟩
abbrev ASp:=Dt→List Dt→List Dt→(List Dt→Prop)→Prop
def l7 (K:PySem.W.Frag) (S:ASp):Sp:=fun vs H Q _=>∃ (W:Vw) (d0:Dt) (es0 ds:List Dt) (Qd:List Dt→Prop) (v0:V) (a:Addr) (xs vs':List V) (hg:W.g a=none),W.h=H∧vs=v0::.ref a::vs'∧W.h a=some (.lst xs)∧Is K W.g d0 v0∧AllIs K W.g es0 xs∧AllIs K W.g ds vs'∧S d0 es0 ds Qd∧
 ∀ es ys W',Le (W.del a hg) W'→W'.h a=some (.lst ys)→W'.g a=none→AllIs K W'.g es ys→Qd es→Q .non W'.h
structure AOk (P:Program) (w:World) (K:PySem.W.Frag) (mg:Str→Option Value) (base:Heap) (n:Nat) (x:Str) (S:ASp):Prop where
 ex:∃ f fd ps,mg x=some (.ref f)∧PySem.W.keepIn K (.ref f)=true∧Binds K fd ps []∧FnOk P w K mg base CX0 n f fd ps (l7 K S)
def qA (n:Nat) (d0:Dt) (a:Addr) (es0 ds:List Dt):DS:=.some d0::.arg a es0::(ds.map Sl.some++List.replicate (n - (ds.length+2)) Sl.none)
section
variable {P:Program} {w:World} {K:PySem.W.Frag} {mg:Str→Option Value} {base:Heap}
theorem gP {W:Vw} {N:List Str} {d0:Dt} {v0:V} {a:Addr} {es0 ds:List Dt} {xs vs:List V} (hg:W.g a=none) (ha:W.h a=some (.lst xs)) (i0:Is K W.g d0 v0) (i1:AllIs K W.g es0 xs) (i2:AllIs K W.g ds vs):
  Rl K (fun _=>none) (W.del a hg).h W (qA N.length d0 a es0 ds) (L2.start N (v0::.ref a::vs)):=by
 have hl:=i2.length
 have cls:∀ (i:Nat) (y:Sl),(ds.map Sl.some++List.replicate (N.length - (ds.length+2)) Sl.none)[i]? = some y→(∃ d,ds[i]? = some d∧y=.some d)∨y=.none:=fun i y e=>by
  by_cases hi:i<ds.length
  ·rw [List.getElem?_append_left (by rw [List.length_map]; exact hi),List.getElem?_map] at e
   obtain ⟨d',h1,h2⟩:=Option.map_eq_some_iff.mp e
   exact .inl ⟨d',h1,h2.symm⟩
  ·rw [List.getElem?_append_right (by rw [List.length_map]; omega),List.getElem?_replicate] at e
   split at e
   ·exact .inr (Option.some.inj e).symm
   ·cases e
 have noOwn:∀ (i:Nat) (es:List Dt),(qA N.length d0 a es0 ds)[i]? = some (.own es)→False:=fun i es e=>by
  match i,e with
  | 0,e=>cases e
  | 1,e=>cases e
  | i+2,e=>
   rcases cls i _ e with ⟨_,_,e1⟩ | e1 <;> cases e1
 have dela:(W.del a hg).h a=none:=if_pos rfl
 refine ⟨?_,fun i d e=>?_,fun i es e=>(noOwn i es e).elim,fun i j es fs _ e _=>(noOwn i es e).elim,(bX W a hg).h,(fun _ _ q=>nomatch q),fun i c es e=>?_⟩
 ·unfold L2.start qA
  rw [List.length_cons,List.length_cons,List.length_append,List.length_append,List.length_map,List.length_map,List.length_replicate,List.length_replicate,List.length_cons,List.length_cons,hl]
  omega
 ·match i,e with
  | 0,e=>cases e; exact ⟨v0,rfl,i0⟩
  | 1,e=>cases e
  | i+2,e=>
   rcases cls i _ e with ⟨d',q,e1⟩ | e1
   ·cases e1
    obtain ⟨v,h1,h2⟩:=i2.get q
    refine ⟨v,?_,h2⟩
    have hi:i<vs.length:=by
     rcases Nat.lt_or_ge i vs.length with h | h
     ·exact h
     ·rw [List.getElem?_eq_none h] at h1; cases h1
    unfold L2.start
    show (vs.map some++_)[i]? = _
    rw [List.getElem?_append_left (by rw [List.length_map]; exact hi),List.getElem?_map,h1]
    rfl
   ·cases e1
 ·have hone:∀ (j:Nat) (b:Addr) (es:List Dt),(qA N.length d0 a es0 ds)[j]? = some (.arg b es)→j=1∧b=a∧es=es0:=fun j b es e=>by
   match j,e with
   | 0,e=>cases e
   | 1,e=>cases e; exact ⟨rfl,rfl,rfl⟩
   | j + 2,e=>rcases cls j _ e with ⟨_,_,e1⟩ | e1 <;> cases e1
  obtain ⟨rfl,rfl,rfl⟩:=hone i c es e
  exact ⟨⟨xs,rfl,ha,hg,dela,i1⟩,fun j es e=>(noOwn j es e).elim,fun j b es e=>(hone j b es e).1⟩
theorem okA {x qual:Str} {st:Stmt} {f:Addr} {fd:FuncData} {N ps:List Str} {k:Nat} {S:ASp} (F:Fun K x qual st f fd) (sc:zi N ps (defScope st)) (len:∀ d0 es0 ds Q,S d0 es0 ds Q→ds.length+2=ps.length)
  (hbody:∀ (cdv:Value) (A:Around) (outer:List Env) (s:Shared) (H:Hp) (E:XK),Room k (A.deeper (envOfC qual (defScope st) s.heap.objs.size f cdv))→∀ (d0:Dt) (es0 ds:List Dt) (Q:List Dt→Prop) (a:Addr),S d0 es0 ds Q→
   ∃ t,DSs (yF CX0 P w K mg base N qual (defScope st) f cdv A outer s H E).nox.arg .d (defBody st) t∧t { nx:=fun ρ=>∃ es,ρ[1]? = some (.arg a es)∧Q es,rt:=fun _=>False } (qA N.length d0 a es0 ds)):FnOk P w K mg base CX0 (k+1) f fd ps (l7 K S):=by
 refine F.ok sc (fun vs H Q E h=>?_) (fun cdv A outer s H vs Q E hr h=>?_)
 ·obtain ⟨W,d0,es0,ds,Qd,v0,a,xs,vs',hg,rfl,rfl,h1,h2,h3,h4,hS,_⟩:=h
  rw [List.length_cons,List.length_cons,← h4.length]
  exact len _ _ _ _ hS
 obtain ⟨W,d0,es0,ds,Qd,v0,a,xs,vs',hg,rfl,rfl,h1,h2,h3,h4,hS,kk⟩:=h
 obtain ⟨t,⟨ts,p,l⟩,ht⟩:=hbody cdv A outer s W.h E hr d0 es0 ds Qd a hS
 rw [Xg] at l
 refine ⟨ts,p.outA (fun _=>rfl),l (W.del a hg) W.g _ (start N (v0::.ref a::vs')) W { nx:=fun ρ=>∃ es,ρ[1]? = some (.arg a es)∧Qd es,rt:=fun _=>False } _ ⟨bX W a hg,Same.refl _,gP hg h1 h2 h3 h4⟩ ⟨fun ρ σ W' at_ ⟨es,e,q⟩=>?_,fun _ _ _ _ _ q=>q.elim,fun _ _ _ _ q=>q.elim,fun _ _ _ _ q=>q.elim⟩ ht⟩
 obtain ⟨⟨ys,_,g2,g3,_,g5⟩,_,_⟩:=at_.rl.ar 1 a es e
 exact kk es ys W' at_.le g2 g3 g5 q
theorem AOk.mk' {x qual:Str} {st:Stmt} {f:Addr} {fd:FuncData} {ps:List Str} {n:Nat} {S:ASp} (F:Fun K x qual st f fd) (hm:mg x=some (.ref f)) (hb:Binds K fd ps []) (h:FnOk P w K mg base CX0 n f fd ps (l7 K S)):AOk P w K mg base n x S:=
 ⟨f,fd,ps,hm,F.kp,hb,h⟩
end
section
variable {X:Cx} {fr:Fr} {e e0 k:Expr} {es:List Expr} {t te tk:DTE} {ta:DTA} {n:Nat} {x y:Str} {S:ASp} {p pos p0 p1 p2 p3:Pos} {i:Nat}
def VE (i:Nat) (S:ASp) (t:DTE) (ta:DTA):DTS:=fun D ρ=>∃ ds,ρ[i]? = some (.own ds)∧t ρ fun d0=>ta ρ fun fs=>S d0 ds fs fun es=>D.nx (ρ.set i (.own es))
theorem bQ (i:Nat) (G:AOk X.prog X.w X.K X.mg X.base n x S) (hr:Room n X.A) (hg:Gl X x) (h0:DE X e0 t) (ha:DA X es ta) (hN:X.N[i]? = some y:=by rfl) (hv:Vis X.env.scope y:=by first | exact Or.inl rfl | exact Or.inr (Or.inl rfl) | exact Or.inr (Or.inr rfl)) (hd:(y == ("__debug__":Str))=false:=by decide)
  (hcd:(y == ("__classdict__":Str))=false:=by decide) (hdb:(x == ("__debug__":Str))=false:=by decide)
  (he:starEach (e0::.Name y p1::es) X.env=(false,eval e0 X.env)::starEach (.Name y p1::es) X.env:=by rfl) (he2:starEach (.Name y p1::es) X.env=(false,eval (.Name y p1) X.env)::starEach es X.env:=by rfl)
  (hpl:(backTo p2 (starEach (.Name y p1::es) X.env)).any (·.1)=false:=by rfl) (hs:swapsWith (.Call (.Name x p) (e0::.Name y p1::es) [] p2) none pos.line X.env=pure false:=by rfl):
  DSt X fr (.Expr (.Call (.Name x p) (e0::.Name y p1::es) [] p2) pos) (VE i S t ta):=by
 obtain ⟨f,fd,ps,hm,hk,hb,F⟩:=G.ex
 obtain ⟨tt,q0,l0⟩:=h0
 obtain ⟨tts,q1,l1⟩:=ha
 refine ⟨_,vj (vk F hr hg hm hk hb .nil oo (zR q0 (zR (yo hN hv hd hcd) q1 he2) he) hdb he hpl) hs,fun W0 G ρ σ W D D' at_ s h=>?_⟩
 obtain ⟨ds,ei,h⟩:=h
 obtain ⟨a,xs,k1,k2,k3,k4,k5⟩:=at_.rl.ow i ds ei
 refine l0 ρ σ W _ at_.rl h _ fun d0 v0 W1 s1 i0 h=>?_
 refine ⟨.ref a,k1,l1 ρ σ W1 _ (at_.rl.mono s1) h _ fun fs vs W2 s2 i2 h=>?_⟩
 have s12:=s1.trans s2
 have hg2:W2.g a=none:=s12.n a (by rw [k2]; intro z; cases z) k3
 show l7 X.K S ((v0::.ref a::vs)++[]) W2.h _ E0
 rw [List.append_nil]
 refine ⟨W2,d0,ds,fs,_,v0,a,xs,vs,hg2,rfl,rfl,s12.h _ _ k2,i0.mono s2,k5.mono s12,i2,h,fun es ys W' le m1 m2 m3 q=>?_⟩
 have a2:=at_.step s12
 exact s.nx _ _ W' ⟨a2.le.undel k4 le,a2.gs.trans le.g,a2.rl.lent ei k1 hg2 k4 le m1 m2 m3⟩ q
def Tl (i:Nat):DTE:=fun ρ Q=>∃ a ds,ρ[i]? = some (.arg a ds)∧Q (.int ds.length)
theorem Yj (i:Nat) (hg:Gl X "len") (hm:X.mg "len"=none) (hN:X.N[i]? = some x:=by rfl) (hv:Vis X.env.scope x:=by first | exact Or.inl rfl | exact Or.inr (Or.inl rfl) | exact Or.inr (Or.inr rfl)) (hd:(x == ("__debug__":Str))=false:=by decide)
  (hcd:(x == ("__classdict__":Str))=false:=by decide) (hs:starEach [.Name x p1] X.env=(false,eval (.Name x p1) X.env)::starEach [] X.env:=by rfl) (hpl:(backTo pos (starEach [] X.env)).any (·.1)=false:=by rfl):
  DE X (.Call (.Name "len" p0) [.Name x p1] [] pos) (Tl i):=by
 refine ⟨_,xt wD hg hm PySem.boot_len (zR (yo hN hv hd hcd) yp hs) (by decide) (by decide) hs hpl,fun ρ σ H Q r h R k=>?_⟩
 obtain ⟨a,ds,e,q⟩:=h
 obtain ⟨⟨xs,e1,e2,e3,e4,e5⟩,_,_⟩:=r.ar i a ds e
 exact ⟨.ref a,e1,a,xs,rfl,.inl (.of e2),by rw [← e5.length]; exact k _ _ H (Le.refl H) (is_int.mpr rfl) q⟩
def Tz (i:Nat) (te:DTE):DTS:=fun D ρ=>∃ a ds,ρ[i]? = some (.arg a ds)∧te ρ fun d=>ds.length≤100000∧D.nx (ρ.set i (.arg a (ds++[d])))
theorem Ye (i:Nat) (h:DE X e te) (hN:X.N[i]? = some x:=by rfl) (hv:Vis X.env.scope x:=by first | exact Or.inl rfl | exact Or.inr (Or.inl rfl) | exact Or.inr (Or.inr rfl)) (hd:(x == ("__debug__":Str))=false:=by decide)
  (hcd:(x == ("__classdict__":Str))=false:=by decide) (hst:starEach [e] X.env=(false,eval e X.env)::starEach [] X.env:=by rfl) (hpl:(backTo p2 (starEach [] X.env)).any (·.1)=false:=by rfl)
  (hfew:((backTo p2 (starEach [e] X.env)).all (fun x=>!x.1) && (backToKw p2 (keywordEach [] X.env)).all (fun x=>x.1.isSome)
   && decide ([e].length+([]:List Keyword).length+(if ([]:List Keyword).isEmpty then 0 else 1)<30))=true:=by rfl)
  (hbase:attributeBase (.Name x p0) "append" X.env (eval (.Name x p0) X.env)=eval (.Name x p0) X.env:=by rfl) (hline:(p1.endLine == p2.line)=true:=by rfl)
  (hs:swapsWith (.Call (.Attribute (.Name x p0) "append" p1) [e] [] p2) none pos.line X.env=pure false:=by rfl):
  DSt X fr (.Expr (.Call (.Attribute (.Name x p0) "append" p1) [e] [] p2) pos) (Tz i te):=by
 obtain ⟨tt,p,l⟩:=h
 refine ⟨_,vj (d8 PySem.F.plainAttrs_list PySem.F.slot_list_append PySem.F.type_list_append vm (yo hN hv hd hcd) (zR p yp hst) hbase hfew hline hst hpl) hs,fun W0 G ρ σ W D D' at_ s h=>?_⟩
 obtain ⟨b,ds,ei,h⟩:=h
 obtain ⟨⟨xs,e1,e2,e3,e4,e5⟩,_,_⟩:=at_.rl.ar i b ds ei
 refine ⟨.ref b,e1,.inl ⟨rfl,xs,.of e2⟩,l ρ σ W _ at_.rl h _ fun d v W1 s1 i1 ⟨hl,q1⟩=>?_⟩
 have a1:=at_.step s1
 have hg1:W1.g b=none:=s1.n b (by rw [e2]; intro z; cases z) e3
 refine ⟨b,xs,v,rfl,rfl,s1.h _ _ e2,by rw [← e5.length]; exact Nat.lt_of_le_of_lt hl (by decide),?_⟩
 exact s.nx _ _ _ (a1.putA ei hg1 e4 ((e5.mono s1).append (allIs_cons.mpr ⟨v,[],rfl,i1,allIs_nil.mpr rfl⟩))) q1
def Ty (i:Nat) (g:Int→Int→Int) (tk te:DTE):DTS:=fun D ρ=>∃ a ds,ρ[i]? = some (.arg a ds)∧tk ρ fun z=>∃ n m,z=.int n∧0≤n∧ds[n.toNat]? = some (.int m)∧te ρ fun d=>∃ y,d=.int y∧D.nx (ρ.set i (.arg a (ds.set n.toNat (.int (g m y)))))
theorem Vb {n:Int} {k:Nat} (h0:0≤n) (h:n.toNat<k):ixN k n=some n.toNat:=by
 unfold ixN
 rw [if_pos h0,if_pos (by omega)]
theorem Yd (i:Nat) {op:Operator} {g:Int→Int→Int} (ho:PIp X op (ipI g)) (hk:DE X k tk) (h:DE X e te) (hN:X.N[i]? = some x:=by rfl) (hv:Vis X.env.scope x:=by first | exact Or.inl rfl | exact Or.inr (Or.inl rfl) | exact Or.inr (Or.inr rfl)) (hd:(x == ("__debug__":Str))=false:=by decide)
  (hcd:(x == ("__classdict__":Str))=false:=by decide)
  (ha:∀ ov iv new,augStore k ov iv new=(do holding [new,ov,iv] (setItem ov iv new); release [new,ov,iv] []; pure .next):=by intros; rfl):
  DSt X fr (.AugAssign (.Subscript (.Name x p0) k p1) op e pos) (Ty i g tk te):=by
 obtain ⟨tt,p,l⟩:=h
 obtain ⟨tk',pk,lk⟩:=hk
 refine ⟨_,aQ (yo hN hv hd hcd) pk bx p ho mv ha,fun W0 G ρ σ W D D' at_ s h=>?_⟩
 obtain ⟨b,ds,ei,h⟩:=h
 obtain ⟨⟨xs,e1,e2,e3,e4,e5⟩,_,_⟩:=at_.rl.ar i b ds ei
 refine ⟨.ref b,e1,lk ρ σ W _ at_.rl h _ fun z v W1 s1 i1 ⟨n,m,ez,h0,hm,q1⟩=>?_⟩
 subst ez
 obtain rfl:=is_int.mp i1
 obtain ⟨u,hu,iu⟩:=e5.get hm
 obtain rfl:=is_int.mp iu
 refine ⟨b,xs,n,.int m,rfl,rfl,h0,s1.h _ _ e2,hu,l ρ σ W1 _ (at_.rl.mono s1) q1 _ fun d v W2 s2 i2 ⟨y,ed,q2⟩=>?_⟩
 subst ed
 have s12:=s1.trans s2
 have hg2:W2.g b=none:=s12.n b (by rw [e2]; intro z; cases z) e3
 have hl:n.toNat<xs.length:=by
  rcases Nat.lt_or_ge n.toNat xs.length with z | z
  ·exact z
  ·rw [List.getElem?_eq_none z] at hu; cases hu
 refine ⟨m,y,rfl,is_int.mp i2,b,xs,n,n.toNat,rfl,rfl,s12.h _ _ e2,Vb h0 hl,?_⟩
 exact s.nx _ _ _ ((at_.step s12).putA ei hg2 e4 ((e5.mono s12).set n.toNat (is_int.mpr rfl))) q2
def Qx (i:Nat) (te:DTE):DTS:=fun D ρ=>∃ ds,ρ[i]? = some (.own ds)∧te ρ fun d=>∃ es,d=.lst es∧ds.length+es.length≤16000000∧D.nx (ρ.set i (.own (ds++es)))
theorem Vn (i:Nat) (h:DE X e te) (hN:X.N[i]? = some x:=by rfl) (hv:Vis X.env.scope x:=by first | exact Or.inl rfl | exact Or.inr (Or.inl rfl) | exact Or.inr (Or.inr rfl)) (hd:(x == ("__debug__":Str))=false:=by decide)
  (hcd:(x == ("__classdict__":Str))=false:=by decide) (hst:starEach [e] X.env=(false,eval e X.env)::starEach [] X.env:=by rfl) (hpl:(backTo p2 (starEach [] X.env)).any (·.1)=false:=by rfl)
  (hfew:((backTo p2 (starEach [e] X.env)).all (fun x=>!x.1) && (backToKw p2 (keywordEach [] X.env)).all (fun x=>x.1.isSome)
   && decide ([e].length+([]:List Keyword).length+(if ([]:List Keyword).isEmpty then 0 else 1)<30))=true:=by rfl)
  (hbase:attributeBase (.Name x p0) "extend" X.env (eval (.Name x p0) X.env)=eval (.Name x p0) X.env:=by rfl) (hline:(p1.endLine == p2.line)=true:=by rfl)
  (hs:swapsWith (.Call (.Attribute (.Name x p0) "extend" p1) [e] [] p2) none pos.line X.env=pure false:=by rfl):
  DSt X fr (.Expr (.Call (.Attribute (.Name x p0) "extend" p1) [e] [] p2) pos) (Qx i te):=by
 obtain ⟨tt,p,l⟩:=h
 refine ⟨_,vj (d8 PySem.F.plainAttrs_list PySem.F.slot_list_extend PySem.F.type_list_extend fU (yo hN hv hd hcd) (zR p yp hst) hbase hfew hline hst hpl) hs,fun W0 G ρ σ W D D' at_ s h=>?_⟩
 obtain ⟨ds,ei,h⟩:=h
 obtain ⟨b,xs,e1,e2,e3,e4,e5⟩:=at_.rl.ow i ds ei
 refine ⟨.ref b,e1,.inl ⟨rfl,xs,.of e2⟩,l ρ σ W _ at_.rl h _ fun d v W1 s1 i1 ⟨es,ed,hl,q1⟩=>?_⟩
 subst ed
 obtain ⟨c,zs,rfl,hc,ic⟩:=is_lst.mp i1
 have a1:=at_.step s1
 have hg1:W1.g b=none:=s1.n b (by rw [e2]; intro z; cases z) e3
 refine ⟨b,c,xs,zs,rfl,rfl,s1.h _ _ e2,W1.sub _ _ hc,by rw [← e5.length,← ic.length]; exact Nat.le_trans hl (by decide),?_⟩
 exact s.nx _ _ _ (a1.put ei e1 hg1 e4 ((e5.mono s1).append ic)) q1
def Rp:Dt→Bool
 | .tup ds=>ds.all mB
 | d=>mB d
theorem mz {K:PySem.W.Frag} {G G':Hp}:∀ {ds:List Dt} {vs:List V},ds.all mB=true→AllIs K G ds vs→AllIs K G' ds vs
 | [],_,_,h=>allIs_nil.mpr (allIs_nil.mp h)
 | d::ds,_,z,h=>by
  obtain ⟨x,r,rfl,h1,h2⟩:=allIs_cons.mp h
  rw [List.all_cons,Bool.and_eq_true] at z
  exact allIs_cons.mpr ⟨x,r,rfl,iQ z.1 h1,mz z.2 h2⟩
def Tw (t:DTE):DTE:=fun ρ Q=>t (ρ.map fz) fun d=>Rp d=true∧Q d
theorem gd (h:DE X e t):DE X e (Tw t):=by
 obtain ⟨te,p,l⟩:=h
 refine ⟨te,p,fun ρ σ H Q r hq R k=>?_⟩
 obtain ⟨W',e,sg,r',gl⟩:=r.bor
 have:=l (ρ.map fz) σ W' _ r' hq R fun d v H1 s1 i1 ⟨hs,q1⟩=>by
  obtain ⟨H2,e2,_,s2⟩:=lX e s1 sg
  cases d with
  | tup ds=>
   obtain ⟨p,xs,rfl,hp,ia⟩:=is_tup.mp i1
   have sub:Same (upd H.g p (.tup xs)) H1.h:=fun b o q=>by
    by_cases hb:b=p
    ·subst hb; rw [zx] at q; rw [← Option.some.inj q]; exact H1.sub _ _ hp
    ·rw [zy hb] at q; exact H1.sub _ _ (s1.g _ _ (sg _ _ q))
   have le:Le H ⟨upd H.g p (.tup xs),H1.h,sub⟩:=⟨fun b o q=>by
     show upd H.g p (.tup xs) b=some o
     by_cases hb:b=p
     ·subst hb
      rw [zx]
      have:=s1.g _ _ (sg _ _ q)
      rw [hp] at this
      exact this
     ·rw [zy hb]; exact q,e ▸ s1.h,fun b z1 z2=>by
     show upd H.g p (.tup xs) b=none
     have hb:b≠p:=fun hb=>by
      subst hb
      cases hw:W'.g b with
      | none=>
       have:=s1.n b (by rw [e]; exact z1) hw
       rw [hp] at this
       cases this
      | some o=>
       rcases gl b o hw with z | ⟨ys,rfl⟩
       ·rw [z2] at z; cases z
       ·have:=s1.g _ _ hw
        rw [hp] at this
        cases this
     rw [zy hb]; exact z2⟩
   exact k (.tup ds) (.ref p) ⟨upd H.g p (.tup xs),H1.h,sub⟩ le (is_tup.mpr ⟨p,xs,rfl,zx,mz hs ia⟩) q1
  | _=>
   rw [← e2]
   first | (refine k _ v H2 s2 (iQ ?_ i1) q1; exact hs) | cases hs
 rw [e] at this
 exact this
end
end OD
namespace OD
variable {Z:Hp}
open PySem PySem.Spec PyProof.Rows L2
def Its (lo:Int) (n:Nat):It:=⟨fun i _=>i<n,fun i H x H'=>H'=H∧x=.int (lo+2*i),fun i _=>n≤i⟩
theorem e9 {P:Program} {w:World} {K:PySem.W.Frag} {tg:Expr} (it:Addr) (lo:Int) (n:Nat):p7 P w K tg (Its lo n) [it] it (fun i h=>IsRangeIter h it (lo+(i:Nat)*2) ((n:Int) - (i:Nat)) 2) where
 mem:=by simp
 obj:=fun i h st b hb=>by
  have e:b=it:=by simpa using hb
  subst e
  exact ⟨_,st,fun v z=>by
   have z':Data.fields _=Data.cell v:=z
   cases z'⟩
 keep:=fun i h h' st k=>k it (by simp) _ st
 item:=by
  intro X hP hw hK hc i pins s σ H E I hf st hg
  subst hP hw hK
  obtain ⟨f0,f1,f2,f3,f4,f5⟩:=hf it (by simp)
  have W:=Walks.range (prog:=X.prog) (w:=X.w) (I.ok.hd hc) it lo 2 n
  refine W.item i s _ _ hg st fun v h' tk hv st' kk=>?_
  obtain ⟨t,rfl⟩:=hv
  have I1:Inv X pins σ H { s with heap:=h',toks:=tk }:=I.turned (fun b o hb e=>kk b o (by simpa using hb) e) f0 f1 f3 f4 f5
  refine ⟨_,rfl,i_ (s:={ s with heap:=h',toks:=tk }) (n:="range_iterator") st' rfl rfl (by decide) ⟨.int (lo+2*i),H,I1,⟨t,?_⟩,⟨rfl,rfl⟩,st',fun b hb=>(hf b hb).1⟩⟩
  rw [show lo+(i:Int)*2=lo+2*i by omega]
 done:=by
  intro X hP hw hK hc i pins s σ H E I hf st hg
  subst hP hw hK
  obtain ⟨f0,f1,f2,f3,f4,f5⟩:=hf it (by simp)
  exact wpAny_pyNext_range_end (I.ok.hd hc) st (by have:n≤i:=hg; omega) fun h' eb=>⟨rfl,I.turned (t':=s.toks) (fun b o hb e=>eb b o hb e) f0 f1 f3 f4 f5⟩
 self:=fun _ _ _ _ _ st h=>wpAny_pyIter_rangeiter st h
theorem vK (a b:Int):Builtin.Range.rangeSize a b 2=if a<b then (b - a - 1) / 2+1 else 0:=by
 unfold Builtin.Range.rangeSize
 rw [if_pos (by decide)]
theorem gL {a b:Int} (ha:-(2 ^ 30)≤a) (ha':a<2 ^ 30) (hb:-(2 ^ 30)≤b) (hb':b<2 ^ 30):Builtin.Range.small a b 2=true:=by
 unfold Builtin.Range.small
 rw [vK]
 simp only [Builtin.Range.rangeFitsLong,Bool.and_eq_true,Bool.or_eq_true,decide_eq_true_eq,beq_iff_eq,show (2:Int)>0 by decide,if_true]
 split <;> omega
section
variable {X:Cx} {tg:Expr}
def Qb (ta:TA):TI:=fun σ H R=>ta σ H fun vs H1=>∃ i j:Int,vs=[.int i,.int j,.int 2]∧(-(2 ^ 30)≤i∧i<2 ^ 30∧-(2 ^ 30)≤j∧j<2 ^ 30)∧R (Its i ((j - i+1) / 2).toNat) H1
theorem XD {a b c:Expr} {ta:TA} {p pos:Pos} (hg:Gl X "range") (hm:X.mg "range"=none) (ha:PA X [a,b,c] ta) (hs:starEach [a,b,c] X.env=(false,eval a X.env)::starEach [b,c] X.env:=by rfl)
  (hpl:(backTo pos (starEach [b,c] X.env)).any (·.1)=false:=by rfl):PI X tg (.Call (.Name "range" p) [a,b,c] [] pos) (Qb ta):=by
 intro pins s σ H R I h
 refine Call_ (ww I hg hm boot_range (PyProof.Rows.callWith_type1 (thn (ha pos pins s σ H _ I h) fun us s1 ⟨vs,H1,I1,r1,q1⟩=>?_) hs hpl))
 obtain ⟨i,j,e,⟨q1,q2,q3,q4⟩,q⟩:=q1
 subst e
 cases r1 with
 | cons r rr=>
 cases rr with
 | cons r' rr=>
 cases rr with
 | cons r'' rr=>
  cases rr
  obtain ⟨t,rfl⟩:=r
  obtain ⟨t',rfl⟩:=r'
  obtain ⟨t'',rfl⟩:=r''
  refine call_range_3 (by decide) ?_ (Or.inl (PyProof.noPylong_small (by omega)))
  refine wpAny_pyIter_range (IsRange.new ..) (gL (by omega) (by omega) (by omega) (by omega)) ?_
  have I2:Inv X pins σ H1 { s1 with heap:=s1.heap.push { cls:=.type "range",data:=.fields #[.int i t,.int j t',.int 2 t''] },toks:=s1.toks }:=I1.kept fun b o e=>Heap.get?_push_of_some _ e
  refine ⟨(s1.heap.push { cls:=.type "range",data:=.fields #[.int i t,.int j t',.int 2 t''] }).objs.size,[(s1.heap.push { cls:=.type "range",data:=.fields #[.int i t,.int j t',.int 2 t''] }).objs.size],_,_,H1,rfl,
   I2.kept (t':=s1.toks) fun b o e=>Heap.get?_push_of_some _ e,e9 _ i ((j - i+1) / 2).toNat,?_,fun b hb=>?_,q⟩
  ·have e1:i+((0:Nat):Int)*2=i:=by simp
   have e2:((((j - i + 1) / 2).toNat:Nat):Int) - ((0:Nat):Int)=Builtin.Range.rangeSize i j 2:=by rw [vK]; split <;> omega
   show IsRangeIter _ _ (i+((0:Nat):Int)*2) (((((j - i+1) / 2).toNat:Nat):Int) - ((0:Nat):Int)) 2
   rw [e1,e2]
   exact Heap.get?_push_size _ rfl
  ·have e:b=(s1.heap.push { cls:=.type "range",data:=.fields #[.int i t,.int j t',.int 2 t''] }).objs.size:=by simpa using hb
   subst e
   exact I2.fpOk (Nat.le_refl _) (I2.hok.fresh (Nat.le_refl _))
variable {a b c:Expr} {ta:DTA} {p0 pos1:Pos}
def YV (ta:DTA):DTI:=fun ρ Q=>ta ρ fun ds=>∃ m n:Int,ds=[.int m,.int n,.int 2]∧-1000≤m∧m≤1000∧-1000≤n∧n≤100000∧Q ((n - m+1) / 2).toNat fun i e=>e=.int (m+2*i)
theorem oC (hg:Gl X "range") (hm:X.mg "range"=none) (h:DA X [a,b,c] ta) (hst:starEach [a,b,c] X.env=(false,eval a X.env)::starEach [b,c] X.env:=by rfl) (hpl:(backTo pos1 (starEach [b,c] X.env)).any (·.1)=false:=by rfl):DI X tg (.Call (.Name "range" p0) [a,b,c] [] pos1) (YV ta):=by
 obtain ⟨te,p,l⟩:=h
 refine ⟨_,XD hg hm p hst hpl,fun ρ σ W Q r h R k=>l ρ σ W _ r h _ fun ds vs W1 s1 i1 ⟨m,n,ed,m1,m2,n1,n2,q⟩=>?_⟩
 subst ed
 obtain ⟨v1,v2,v3,rfl,j1,j2,j3⟩:=i1.three
 refine ⟨m,n,by rw [is_int.mp j1,is_int.mp j2,is_int.mp j3],⟨by omega,by omega,by omega,by omega⟩,k _ _ (fun i e=>e=.int (m+2*i)) W1 s1 (by omega) (fun W2 s2=>⟨fun i hi=>⟨hi,fun v H3 ⟨e1,e2⟩=>⟨e1,.int (m+2*i),rfl,is_int.mpr e2⟩⟩,Nat.le_refl _⟩) q⟩
end
end OD
namespace L2
open PySem PySem.Spec PyProof.Rows
section
variable {X:Cx}
end
end L2
namespace OD
variable {Z:Hp}
open PySem PySem.Spec PyProof.Rows L2
abbrev DTB:=Prop→(Addr→Prop)→DS→Prop
section
variable {X:Cx} {e:Expr} {es:List Expr} {t:DTA} {n:Nat} {x y m:Str} {j:Nat} {S:xC} {p pos py hpos epos tpos:Pos} {fr:Fr} {th:DTS} {c:Value} {b₀:Stmt} {suite body:List Stmt} {d:DTB}
end
end OD
namespace My
open PySem L2 OD
local macro_rules | `(tactic| walk_at "sc") => `(tactic| exact ⟨rfl, rfl, rfl, by decide +kernel, rfl, by decide +kernel, by decide +kernel⟩)
local macro_rules | `(tactic| walk_at "rd1") => `(tactic| first | refine ⟨_, rfl, ?_⟩ | refine ⟨_, _, rfl, rfl, ?_⟩ | refine ⟨_, _, _, _, rfl, rfl, rfl, ?_⟩ | refine ⟨_, _, _, rfl, rfl, rfl, ?_⟩ | refine R_ ?_ | refine Qa ?_ | refine ⟨rfl, rfl, ?_⟩ | refine ⟨rfl, ?_⟩ | refine ⟨ah (by decide), ?_⟩ | refine ⟨Y_ (by decide), ?_⟩ | refine ⟨TD (by decide), ?_⟩ | refine ⟨UI (by decide), ?_⟩ | refine ⟨ZV (by decide), ?_⟩ | refine ⟨_, _, rfl, ?_⟩)
local macro_rules | `(tactic| walk_at "rd") => `(tactic| repeat (walk_at "rd1"))
theorem ifT {b:Bool} {A B:Prop} (e:b=true) (h:A):if b=true then A else B:=by rw [if_pos e]; exact h
theorem ifF {b:Bool} {A B:Prop} (e:b=false) (h:B):if b=true then A else B:=by rw [if_neg (by rw [e]; exact Bool.false_ne_true)]; exact h
theorem ifB {b:Bool} {A B:Prop} (h1:b=true→A) (h2:b=false→B):if b=true then A else B:=by
 cases b with
 | true=>exact ifT rfl (h1 rfl)
 | false=>exact ifF rfl (h2 rfl)
theorem eqI {a b:Int} (h:a=b):eqD (.int a) (.int b)=true:=by rw [xh]; exact beq_iff_eq.mpr h
theorem neI {a b:Int} (h:a≠b):eqD (.int a) (.int b)=false:=by rw [xh]; exact beq_eq_false_iff_ne.mpr h
theorem kL {a b:Int} (h:eqD (.int a) (.int b)=true):a=b:=by rw [xh] at h; exact beq_iff_eq.mp h
theorem kK {a b:Int} (h:eqD (.int a) (.int b)=false):a≠b:=by rw [xh] at h; exact beq_eq_false_iff_ne.mp h
theorem nT {b:Bool} (h:b=true):(!b)=false:=by rw [h]; rfl
theorem nF {b:Bool} (h:b=false):(!b)=true:=by rw [h]; rfl
theorem Uk {b:Bool} (h:(!b)=true):b=false:=by cases b <;> first | rfl | cases h
theorem Ul {b:Bool} (h:(!b)=false):b=true:=by cases b <;> first | rfl | cases h
def zE (ns:List Int):Dt:=.lst (ns.map Dt.int)
def trim (ns:List Int):List Int:=(ns.reverse.dropWhile (· == 0)).reverse
def az:DSp:=fun ds Q=>∃ ns k,ds=[.scr ns,.int k]∧0≤k∧∀ z:Int,Q (.int z)
def gw:DSp:=fun ds Q=>∃ ns:List Int,ds=[.scr ns]∧ns.length≤63∧Q (.bl true)
theorem vE {xs:List Int} {k:Int} (h0:0≤k) (h:k<xs.length):atI (xs.map Dt.int) k=some (.int (xs.getD k.toNat 0)):=by
 have e:((k.toNat:Nat):Int)=k:=Int.toNat_of_nonneg h0
 have hl:k.toNat<xs.length:=by omega
 have:=wE (j:=k.toNat) (xs:=xs.map Dt.int) (v:=.int (xs.getD k.toNat 0)) (by
  rw [List.getElem?_map,List.getElem?_eq_getElem hl,List.getD_eq_getElem?_getD,List.getElem?_eq_getElem hl]
  rfl)
 rwa [e] at this
theorem xP {ns:List Int} {i:Nat} (h:i<ns.length):atI (ns.map Dt.int) (i:Int)=some (.int (ns.getD i 0)):=by
 refine wE ?_
 rw [List.getElem?_map,List.getElem?_eq_getElem h,List.getD_eq_getElem?_getD,List.getElem?_eq_getElem h]
 rfl
theorem ZZ {n:Nat} {k:Int} (h0:0≤k) (h:k<n):ixN n k=some k.toNat:=by
 unfold ixN
 rw [if_pos h0,if_pos h]
theorem br {n:Nat} (h:0<n):ixN n (-1)=some (n - 1):=by
 unfold ixN
 rw [if_neg (by decide),if_pos (by omega)]
 congr 1
 omega
theorem vg {xs:List Int} {z:Int}:atI ((xs++[z]).map Dt.int) (-1)=some (.int z):=by
 unfold atI
 rw [br (by rw [List.length_map,List.length_append]; exact Nat.succ_pos _)]
 show ((xs++[z]).map Dt.int)[((xs++[z]).map Dt.int).length - 1]? = _
 rw [List.length_map,List.length_append,List.map_append,List.getElem?_append_right (by rw [List.length_map]; exact Nat.le_of_eq (Nat.add_sub_cancel ..).symm)]
 rw [List.length_map,show xs.length+[z].length - 1 - xs.length=0 by simp]
 rfl
theorem aj {ns:List Int} {n:Nat}:(ns.map Dt.int).all (okE n)=true:=by
 rw [List.all_eq_true]
 intro x hx
 obtain ⟨z,_,e⟩:=List.mem_map.mp hx
 subst e
 cases n <;> rfl
theorem yL (ns:List Int):okE 40 (zE ns)=true:=aj (n:=39)
theorem mU (ns:List Int):okE 39 (zE ns)=true:=aj (n:=38)
theorem qv (ns:List Int):eqD (zE ns) (zE ns)=true:=qw 40 (yL ns)
theorem af (ms:List Int) (lo hi:Option Int):∃ ms':List Int,iq (ms.map Dt.int) lo hi=ms'.map Dt.int∧ms'.length≤ms.length∧∀ z∈ms',z∈ms:=by
 unfold iq
 rw [← List.map_drop,← List.map_take]
 refine ⟨_,rfl,?_,fun t ht=>List.mem_of_mem_drop (List.mem_of_mem_take ht)⟩
 rw [List.length_take,List.length_drop]
 omega
theorem bz {ns:List Int} {i:Nat} {x:Dt} (h:(ns.map Dt.int)[i]? = some x):x=.int (ns.getD i 0)∧i<ns.length:=by
 rw [List.getElem?_map] at h
 cases q:ns[i]? with
 | none=>rw [q] at h; cases h
 | some z=>
  rw [q] at h
  have hl:i<ns.length:=by
   rcases Nat.lt_or_ge i ns.length with h | h
   ·exact h
   ·rw [List.getElem?_eq_none h] at q; cases q
  rw [List.getD_eq_getElem?_getD,q]
  exact ⟨(Option.some.inj h).symm,hl⟩
theorem qB (xs:List Int) (z:Int):xs.map Dt.int++[.int z]=(xs++[z]).map Dt.int:=by rw [List.map_append]; rfl
theorem mw (xs:List Int) (j:Nat) (z:Int):(xs.map Dt.int).set j (.int z)=(xs.set j z).map Dt.int:=by rw [List.map_set]
theorem oB (xs:List Int):(xs.map Dt.int).dropLast=xs.dropLast.map Dt.int:=by rw [List.map_dropLast]
theorem zI (xs:List Int):(xs.map Dt.int).length=xs.length:=List.length_map _
theorem mq:trim []=[]:=rfl
theorem xR (xs:List Int):trim (xs++[0])=trim xs:=by
 unfold trim
 rw [List.reverse_append]
 rfl
theorem ud {xs:List Int} {z:Int} (h:z≠0):trim (xs++[z])=xs++[z]:=by
 unfold trim
 rw [List.reverse_append]
 show (List.dropWhile _ (z::xs.reverse)).reverse=_
 rw [List.dropWhile_cons,if_neg (by simpa using h),List.reverse_cons,List.reverse_reverse]
theorem zO (xs:List Int):xs=[]∨∃ l z,xs=l++[z]:=by
 rcases List.eq_nil_or_concat xs with h | ⟨l,z,h⟩
 ·exact .inl h
 ·exact .inr ⟨l,z,by rw [h,List.concat_eq_append]⟩
theorem wL (xs:List Int):(trim xs).length≤xs.length:=by
 unfold trim
 rw [List.length_reverse]
 refine Nat.le_trans (List.dropWhile_sublist _).length_le ?_
 rw [List.length_reverse]
 exact Nat.le_refl _
theorem l_ {i:Nat} {D:uB} {ρ:DS} {ms:List Int} (hi:ρ[i]? = some (.own (ms.map Dt.int))) (q:D.nx (ρ.set i (.own ((trim ms).map Dt.int)))):
  ij (VF (tZ (dOp (gI fun i j=>Dt.bl (decide (j<i))) (YW i) (dC (Dt.int 0)))) (tZ (dOp gEq (VC i (Vz (dC (Dt.int 1)))) (dC (Dt.int 0))))) (Vx i) D ρ:=by
 have hl:i<ρ.length:=by
  rcases Nat.lt_or_ge i ρ.length with h | h
  ·exact h
  ·rw [List.getElem?_eq_none h] at hi; cases hi
 refine ⟨fun m ρ'=>∃ l:List Int,ρ'=ρ.set i (.own (l.map Dt.int))∧l.length=m∧trim l=trim ms,⟨_,ms,?_,rfl,rfl⟩,?_⟩
 ·apply List.ext_getElem?
  intro j
  by_cases hj:i=j
  ·subst hj; rw [List.getElem?_set_self hl]; exact hi
  ·rw [List.getElem?_set_ne hj]
 ·rintro m ρ' ⟨l,rfl,rfl,ht⟩
  have hg:(ρ.set i (.own (l.map Dt.int)))[i]? = some (.own (l.map Dt.int)):=List.getElem?_set_self hl
  refine ⟨_,hg,_,_,rfl,rfl,_,rfl,?_⟩
  rcases zO l with rfl | ⟨l',z,rfl⟩
  ·refine ifF rfl (ifF rfl ?_)
   rw [← ht,mq] at q
   exact q
  ·refine ifT (by rw [decide_eq_true_iff,List.length_map,List.length_append]; simp) ?_
   refine ⟨_,hg,_,rfl,_,_,rfl,vg,rfl,rfl,_,rfl,?_⟩
   by_cases hz:z=0
   ·refine ifT (eqI hz) ?_
    subst hz
    refine ⟨_,hg,by simp,l'.length,by rw [List.length_append]; exact Nat.lt_succ_self _,l',?_,rfl,?_⟩
    ·rw [oB,List.dropLast_concat,List.set_set]
    ·rw [← ht,xR]
   ·refine ifF (neI hz) ?_
    rw [← ht,ud hz] at q
    exact q
theorem mj {i:Nat} {D:uB} {ρ:DS} {ms:List Int} (hi:ρ[i]? = some (.own (ms.map Dt.int))) (q:D.nx (ρ.set i (.own ((trim ms).map Dt.int)))):
  ij (VF (YU i) (tZ (dOp gEq (VC i (Vz (dC (Dt.int 1)))) (dC (Dt.int 0))))) (Vx i) D ρ:=by
 have hl:i<ρ.length:=by
  rcases Nat.lt_or_ge i ρ.length with h | h
  ·exact h
  ·rw [List.getElem?_eq_none h] at hi; cases hi
 refine ⟨fun m ρ'=>∃ l:List Int,ρ'=ρ.set i (.own (l.map Dt.int))∧l.length=m∧trim l=trim ms,⟨_,ms,?_,rfl,rfl⟩,?_⟩
 ·apply List.ext_getElem?
  intro j
  by_cases hj:i=j
  ·subst hj; rw [List.getElem?_set_self hl]; exact hi
  ·rw [List.getElem?_set_ne hj]
 ·rintro m ρ' ⟨l,rfl,rfl,ht⟩
  have hg:(ρ.set i (.own (l.map Dt.int)))[i]? = some (.own (l.map Dt.int)):=List.getElem?_set_self hl
  refine ⟨_,hg,?_⟩
  rcases zO l with rfl | ⟨l',z,rfl⟩
  ·refine ifF rfl (ifF rfl ?_)
   rw [← ht,mq] at q
   exact q
  ·refine ifT (by simp) ?_
   refine ⟨_,hg,_,rfl,_,_,rfl,vg,rfl,rfl,_,rfl,?_⟩
   by_cases hz:z=0
   ·refine ifT (eqI hz) ?_
    subst hz
    refine ⟨_,hg,by simp,l'.length,by rw [List.length_append]; exact Nat.lt_succ_self _,l',?_,rfl,?_⟩
    ·rw [oB,List.dropLast_concat,List.set_set]
    ·rw [← ht,xR]
   ·refine ifF (neI hz) ?_
    rw [← ht,ud hz] at q
    exact q
inductive Kd where | plain | below | balanced | growing | falling | pairs
def Kd.num:Kd→Int
 | .plain=>0 | .below=>1 | .balanced=>2 | .growing=>3 | .falling=>4 | .pairs=>5
def Kd.fld:Kd→Str
 | .plain=>"base" | .below=>"base" | .balanced=>"half" | .growing=>"first" | .falling=>"most" | .pairs=>"most"
def Kd.lo:Kd→Int
 | .plain=>2 | .below=>2 | .balanced=>1 | .growing=>2 | .falling=>1 | .pairs=>1
def Kd.hi:Kd→Int
 | .plain=>60 | .below=>60 | .balanced=>30 | .growing=>60 | .falling=>9 | .pairs=>9
def Kd.ok (k:Kd) (n:Int):Prop:=k.lo≤n∧n≤k.hi
def yS:Dt→Option Bool
 | .int _=>some true
 | .bl _=>some false
 | .tup _=>some false
 | .lst _=>some false
 | _=>none
def xj:DSp:=fun ds Q=>∃ d b,ds=[d]∧yS d=some b∧Q (.bl b)
def yX:DSp:=fun ds Q=>∃ n lo hi,ds=[.int n,.int lo,.int hi]∧lo≤n∧n≤hi∧Q (.int n)
inductive Nm where | i (n:Int) | p (a b:Int)
def Nm.dt:Nm→Dt
 | .i n=>.int n
 | .p a b=>.tup [.int a,.int b]
def Nm.re:Nm→Int
 | .i n=>n
 | .p a _=>a
def Nm.im:Nm→Int
 | .i _=>0
 | .p _ b=>b
def Nm.mul:Nm→Nm→Nm
 | .i a,.i b=>.i (a*b)
 | m,n=>.p (m.re*n.re - m.im*n.im) (m.re*n.im+m.im*n.re)
def Nm.mulOk (m n:Nm):Prop:=IntMulOk m.re n.re∧IntMulOk m.im n.im∧IntMulOk m.re n.im∧IntMulOk m.im n.re
def ql:Dt→Option Nm
 | .int a=>some (.i a)
 | .tup [.int a,.int b]=>some (.p a b)
 | _=>none
def vF:DSp:=fun ds Q=>∃ d m,ds=[d]∧ql d=some m∧Q (.tup [.int m.re,.int m.im])
def iD:DSp:=fun ds Q=>∃ d e m n,ds=[d,e]∧ql d=some m∧ql e=some n∧m.mulOk n∧Q (m.mul n).dt
theorem yY {d:Dt} {m:Nm} (h:ql d=some m):d=m.dt:=by
 unfold ql at h
 split at h
 ·cases h; rfl
 ·cases h; rfl
 ·cases h
theorem wr (m:Nm):ql m.dt=some m:=by cases m <;> rfl
theorem vU (m:Nm):okE 40 m.dt=true:=by cases m <;> rfl
theorem small {n:Int} (h0:-1000000≤n) (h1:n≤1000000) (c:Int):IntMulOk c n:=UI (by rw [decide_eq_true_iff]; omega)
theorem vM {n:Int} (h0:-1000000≤n) (h1:n≤1000000) (c:Int):IntMulOk n c:=ZV (by rw [decide_eq_true_iff]; omega)
def Kd.four:Kd→Bool
 | .plain=>true | .below=>true | .balanced=>true | .growing=>true | _=>false
def Kd.five:Kd→Bool
 | .falling=>false | _=>true
def Kd.low:Kd→Int→Int→Int
 | .balanced,n,_=>-n
 | _,_,_=>0
def Kd.high:Kd→Int→Int→Int
 | .plain,n,_=>n - 1
 | .below,n,_=>n - 1
 | .balanced,n,_=>n
 | .growing,n,p=>n+p - 1
 | .falling,n,_=>n
 | .pairs,n,_=>n*n
def Kd.rat:Kd→Int→Int→Int
 | .plain,n,_=>n
 | .below,n,_=>-n
 | .balanced,n,_=>2*n+1
 | .growing,n,p=>n+p
 | _,_,_=>0
def Kd.ratN:Kd→Int→Int→Nm
 | .pairs,n,_=>.p (-n) 1
 | k,n,p=>.i (k.rat n p)
def Nm.add:Nm→Nm→Nm
 | .i a,.i b=>.i (a+b)
 | m,n=>.p (m.re+n.re) (m.im+n.im)
def n8:DSp:=fun ds Q=>∃ d e m n,ds=[d,e]∧ql d=some m∧ql e=some n∧Q (m.add n).dt
def Kd.zero:Kd→Nm
 | .pairs=>.p 0 0
 | _=>.i 0
def wtF (n:Int):Nat→Int × Int
 | 0=>(1,1)
 | j+1=>((wtF n j).2,n*(wtF n j).2+(wtF n j).1)
def wtR (k:Kd) (n:Int):Nat→Nm
 | 0=>k.zero.add (.i 1)
 | j+1=>(k.ratN n j).mul (wtR k n j)
def wt:Kd→Int→Nat→Nm
 | .falling,n,j=>.i (wtF n j).2
 | k,n,j=>wtR k n j
theorem xu {k:Kd} {n:Int} (h:k.ok n):1≤n∧n≤60:=by
 obtain ⟨h1,h2⟩:=h
 cases k <;> simp only [Kd.lo,Kd.hi] at * <;> omega
theorem dJ {k:Kd} {n p:Int} (h:k.ok n) (p0:0≤p) (p1:p≤1000):-1000000≤(k.ratN n p).re∧(k.ratN n p).re≤1000000∧-1000000≤(k.ratN n p).im∧(k.ratN n p).im≤1000000:=by
 obtain ⟨h1,h2⟩:=xu h
 cases k <;> simp only [Kd.ratN,Kd.rat,Nm.re,Nm.im] <;> omega
theorem aB {k:Kd} {n:Int} {j:Nat} (h:k.five=true):wt k n j=wtR k n j:=by cases k <;> first | rfl | cases h
theorem YJ {a:Int} {k:Nat} (h:a.natAbs<2 ^ k):Builtin.Int.intBits a≤k:=by
 rw [intBits_le_iff]
 exact h
def bdN (m:Nm) (k:Nat):Prop:=m.re.natAbs<2 ^ k∧m.im.natAbs<2 ^ k
theorem tE {a b:Int} {i j:Nat} (h:a.natAbs<2 ^ i) (h':b.natAbs<2 ^ j) (hij:i+j≤134217728):IntMulOk a b:=IntMulOk.of_le (YJ h) (YJ h') hij
theorem bg {m n:Nm} {i j:Nat} (h:bdN m i) (h':bdN n j) (hij:i+j≤134217728):m.mulOk n:=⟨tE h.1 h'.1 hij,tE h.2 h'.2 hij,tE h.1 h'.2 hij,tE h.2 h'.1 hij⟩
def zY (k:Kd) (n:Int) (ns:List Int):Nat→Nm
 | 0=>k.zero
 | j+1=>(zY k n ns j).add ((Nm.i (ns.getD j 0)).mul (wt k n j))
def bdR (ns:List Int):Prop:=∀ t∈ns,t.natAbs<2 ^ 5000
theorem aI {ns:List Int} {i:Nat} {x:Dt} (h:(ns.map Dt.int)[i]? = some x):x=.int (ns.getD i 0)∧i<ns.length:=by
 rw [List.getElem?_map] at h
 cases q:ns[i]? with
 | none=>rw [q] at h; cases h
 | some z=>
  rw [q] at h
  have hl:i<ns.length:=by
   rcases Nat.lt_or_ge i ns.length with h | h
   ·exact h
   ·rw [List.getElem?_eq_none h] at q; cases q
  rw [List.getD_eq_getElem?_getD,q]
  exact ⟨(Option.some.inj h).symm,hl⟩
theorem gk {ns:List Int} (h:bdR ns) (i:Nat):(ns.getD i 0).natAbs<2 ^ 5000:=by
 rw [List.getD_eq_getElem?_getD]
 cases q:ns[i]? with
 | none=>exact Nat.two_pow_pos 5000
 | some z=>exact h z (List.mem_of_getElem? q)
theorem eY {n:Int} (h1:1≤n) (h2:n≤60):∀ j:Nat,(wtF n j).1.natAbs<2 ^ (12*j+1)∧(wtF n j).2.natAbs<2 ^ (12*j+1)
 | 0=>⟨(by decide:(1:Int).natAbs<2 ^ 1),(by decide:(1:Int).natAbs<2 ^ 1)⟩
 | j+1=>by
  obtain ⟨a,b⟩:=eY h1 h2 j
  have pw:2 ^ (12*(j+1)+1)=2 ^ (12*j+1)*4096:=by rw [show 12*(j+1)+1=(12*j+1)+12 by omega,Nat.pow_add]
  rw [pw]
  unfold wtF
  dsimp only
  generalize 2 ^ (12 * j + 1)=B at *
  have hm:(n*(wtF n j).2).natAbs≤60*(wtF n j).2.natAbs:=by
   rw [Int.natAbs_mul]
   exact Nat.mul_le_mul_right _ (by omega)
  have hs:=Int.natAbs_add_le (n*(wtF n j).2) (wtF n j).1
  exact ⟨by omega,by omega⟩
theorem WX (r w:Nm):(r.mul w).re=r.re * w.re - r.im * w.im:=by cases r <;> cases w <;> simp [Nm.mul,Nm.re,Nm.im]
theorem WY (r w:Nm):(r.mul w).im=r.re * w.im + r.im * w.re:=by cases r <;> cases w <;> simp [Nm.mul,Nm.re,Nm.im]
theorem eX {k:Kd} {n:Int} (h:k.ok n):∀ j:Nat,j≤1000→bdN (wtR k n j) (12*j+1)
 | 0,_=>by cases k <;> exact ⟨(by decide:(1:Int).natAbs < 2 ^ 1),(by decide:(0:Int).natAbs < 2 ^ 1)⟩
 | j+1,hj=>by
  obtain ⟨a,b⟩:=eX h j (by omega)
  have pw:2 ^ (12*(j+1)+1)=2 ^ (12*j+1)*4096:=by rw [show 12*(j+1)+1=(12*j+1)+12 by omega,Nat.pow_add]
  obtain ⟨r1,r2,r3,r4⟩:=dJ (p:=(j:Int)) h (by omega) (by omega)
  have hr:(k.ratN n j).re.natAbs≤2000∧(k.ratN n j).im.natAbs≤1:=by
   obtain ⟨h1,h2⟩:=xu h
   cases k <;> simp only [Kd.ratN,Kd.rat,Nm.re,Nm.im] <;> constructor <;> omega
  unfold bdN
  rw [pw]
  unfold wtR
  generalize 2 ^ (12 * j + 1)=B at *
  generalize k.ratN n j=r at *
  generalize wtR k n j=w at *
  obtain ⟨c,d⟩:=hr
  have m1:(r.re*w.re).natAbs≤2000*w.re.natAbs:=by rw [Int.natAbs_mul]; exact Nat.mul_le_mul_right _ c
  have m2:(r.im*w.im).natAbs≤1*w.im.natAbs:=by rw [Int.natAbs_mul]; exact Nat.mul_le_mul_right _ d
  have m3:(r.re*w.im).natAbs≤2000*w.im.natAbs:=by rw [Int.natAbs_mul]; exact Nat.mul_le_mul_right _ c
  have m4:(r.im*w.re).natAbs≤1*w.re.natAbs:=by rw [Int.natAbs_mul]; exact Nat.mul_le_mul_right _ d
  have s1:(r.re*w.re - r.im*w.im).natAbs≤(r.re*w.re).natAbs+(r.im*w.im).natAbs:=by omega
  have s2:=Int.natAbs_add_le (r.re*w.im) (r.im*w.re)
  rw [WX,WY]
  exact ⟨by omega,by omega⟩
theorem VO {k:Kd} {n:Int} (h:k.ok n) {j:Nat} (hj:j≤1000):bdN (wt k n j) (12*j+1):=by
 by_cases h5:k.five=true
 ·rw [aB h5]; exact eX h j hj
 ·cases k with
  | falling=>
   obtain ⟨h1,h2⟩:=xu h
   exact ⟨(eY h1 h2 j).2,show (0:Int).natAbs<_ from Nat.two_pow_pos _⟩
  | _=>exact absurd rfl h5
theorem wt4 {k:Kd} {n:Int} (h:k.four=true):∀ j,∃ w,wtR k n j=.i w
 | 0=>by cases k <;> cases h <;> exact ⟨_,rfl⟩
 | j+1=>by
  obtain ⟨w,e⟩:=wt4 (n:=n) h j
  unfold wtR
  rw [e]
  cases k <;> cases h <;> exact ⟨_,rfl⟩
theorem wt2 {n:Int}:∀ j,∃ x y,wtR .pairs n j=.p x y
 | 0=>⟨_,_,rfl⟩
 | j+1=>by
  obtain ⟨x,y,e⟩:=wt2 (n:=n) j
  unfold wtR
  rw [e]
  exact ⟨_,_,rfl⟩
theorem wtI {k:Kd} {n:Int} (h:k≠.pairs) (j:Nat):∃ w,wt k n j=.i w:=by
 cases k with
 | pairs=>exact absurd rfl h
 | falling=>exact ⟨_,rfl⟩
 | _=>exact wt4 rfl _
theorem wsI {k:Kd} {n:Int} {ns:List Int} (h:k≠.pairs):∀ j,∃ w,zY k n ns j=.i w
 | 0=>by cases k <;> first | exact ⟨_,rfl⟩ | exact absurd rfl h
 | j+1=>by
  obtain ⟨a,ea⟩:=wsI (n:=n) (ns:=ns) h j
  obtain ⟨w,ew⟩:=wtI (n:=n) h j
  unfold zY
  rw [ea,ew]
  exact ⟨_,rfl⟩
theorem wsP {n:Int} {ns:List Int}:∀ j,∃ x y,zY .pairs n ns j=.p x y
 | 0=>⟨_,_,rfl⟩
 | j+1=>by
  obtain ⟨x,y,e⟩:=wsP (n:=n) (ns:=ns) j
  obtain ⟨u,v,ew⟩:=wt2 (n:=n) j
  unfold zY
  rw [e]
  show ∃ _ _,(Nm.p x y).add ((Nm.i _).mul (wtR .pairs n j))=_
  rw [ew]
  exact ⟨_,_,rfl⟩
def sF (k:Kd) (n:Int) (j:Nat) (t:Nm):Int:=match k with
 | .pairs=>(t.re+n*t.im).fmod (n*n+1)
 | k=>k.low n j+(t.re - k.low n j).fmod (k.high n j - k.low n j+1)
def sC (k:Kd) (n:Int) (j:Nat) (t:Nm):Nm:=match k with
 | .pairs=>.p (((t.re - sF .pairs n j t)*(-n) - t.im*(-1)).fdiv (n*n+1)) (((t.re - sF .pairs n j t)*(-1)+t.im*(-n)).fdiv (n*n+1))
 | k=>.i ((t.re - sF k n j t).fdiv (k.rat n j))
def Nm.ty (k:Kd) (m:Nm):Prop:=match k with
 | .pairs=>∃ a b,m=.p a b
 | _=>∃ a,m=.i a
def tot (k:Kd) (m:Nm):Prop:=k≠.pairs→∃ a,m=.i a
def cAt (k:Kd) (n:Int) (ts:List Nm):Nat→Nm
 | 0=>k.zero
 | j+1=>sC k n j ((cAt k n ts j).add (ts.getD j (.i 0)))
def fAt (k:Kd) (n:Int) (ts:List Nm) (j:Nat):Int:=sF k n j ((cAt k n ts j).add (ts.getD j (.i 0)))
def wx (k:Kd) (n:Int) (ts:List Nm) (j:Nat):List Int:=(List.range j).map (fAt k n ts)
def crs (k:Kd) (n:Int) (ts:List Nm) (j:Nat):List Nm:=(List.range j).map (cAt k n ts)
def xB:Kd→Nm→Bool
 | .below,.i _=>true
 | .balanced,.i _=>true
 | .pairs,.p _ _=>true
 | .pairs,.i _=>false
 | _,.i a=>decide (0≤a)
 | _,.p _ _=>false
structure Fin (k:Kd) (n:Int) (ts:List Nm) (J:Nat):Prop where
 le:ts.length≤J
 z:cAt k n ts J=k.zero
 nz:∀ j,ts.length≤j→j<J→cAt k n ts j≠k.zero∧xB k (cAt k n ts j)=true
def wN (k:Kd) (n:Int) (ts:List Nm):Nat→Nm
 | 0=>k.zero
 | j+1=>(wN k n ts j).add ((ts.getD j (.i 0)).mul (wt k n j))
def wF (k:Kd) (n:Int) (f:Nat→Int):Nat→Nm
 | 0=>k.zero
 | j+1=>(wF k n f j).add ((Nm.i (f j)).mul (wt k n j))
theorem zM (m n:Nm):(m.add n).re=m.re + n.re:=by cases m <;> cases n <;> simp [Nm.add,Nm.re]
theorem zQ (m n:Nm):(m.add n).im=m.im + n.im:=by cases m <;> cases n <;> simp [Nm.add,Nm.im]
theorem zB (r w:Nm):(r.mul w).re=r.re * w.re - r.im * w.im:=by cases r <;> cases w <;> simp [Nm.mul,Nm.re,Nm.im]
theorem zC (r w:Nm):(r.mul w).im=r.re * w.im + r.im * w.re:=by cases r <;> cases w <;> simp [Nm.mul,Nm.re,Nm.im]
theorem xa {k:Kd} {m:Nm} (h:k≠.pairs) (t:m.ty k):∃ a,m=.i a:=by
 cases k <;> first | exact t | exact absurd rfl h
theorem x9 {k:Kd} {a:Int} (h:k≠.pairs):(Nm.i a).ty k:=by
 cases k <;> first | exact ⟨_,rfl⟩ | exact absurd rfl h
theorem yw (k:Kd):(k.zero).ty k:=by cases k <;> first | exact ⟨_,rfl⟩ | exact ⟨_,_,rfl⟩
theorem zJ (k:Kd):(k.zero).re=0:=by cases k <;> rfl
theorem zL (k:Kd):(k.zero).im=0:=by cases k <;> rfl
theorem y_ {k:Kd} {m m':Nm} (t:m.ty k) (t':m'.ty k) (h1:m.re=m'.re) (h2:m.im=m'.im):m=m':=by
 by_cases hk:k=.pairs
 ·subst hk
  obtain ⟨a,b,rfl⟩:=t
  obtain ⟨a',b',rfl⟩:=t'
  simp only [Nm.re,Nm.im] at h1 h2
  rw [h1,h2]
 ·obtain ⟨a,rfl⟩:=xa hk t
  obtain ⟨a',rfl⟩:=xa hk t'
  simp only [Nm.re] at h1
  rw [h1]
theorem dz (k:Kd) (n:Int) (j:Nat) (t:Nm):(sC k n j t).ty k:=by
 cases k <;> first | exact ⟨_,rfl⟩ | exact ⟨_,_,rfl⟩
theorem xz (k:Kd) (n:Int) (ts:List Nm):∀ j,(cAt k n ts j).ty k
 | 0=>yw k
 | j+1=>dz k n j _
theorem wG {k:Kd} {c t:Nm} (h:c.ty k) (h':tot k t):(c.add t).ty k:=by
 by_cases hk:k=.pairs
 ·subst hk
  obtain ⟨a,b,rfl⟩:=h
  cases t <;> exact ⟨_,_,rfl⟩
 ·obtain ⟨a,rfl⟩:=xa hk h
  obtain ⟨b,rfl⟩:=h' hk
  exact x9 hk
theorem y3 {k:Kd} {ts:List Nm} (h:∀ t∈ts,tot k t) (j:Nat):tot k (ts.getD j (.i 0)):=by
 rw [List.getD_eq_getElem?_getD]
 cases q:ts[j]? with
 | none=>exact fun _=>⟨0,rfl⟩
 | some t=>exact h t (List.mem_of_getElem? q)
theorem gJ {lo t n:Int} (hn:0<n):lo≤lo+(t - lo).fmod n∧lo+(t - lo).fmod n≤lo+n - 1∧(lo+(t - lo).fmod n)+((t - (lo+(t - lo).fmod n)).fdiv n)*n=t:=by
 have h0:=Int.fmod_nonneg_of_pos (t - lo) hn
 have h1:=Int.fmod_lt_of_pos (t - lo) hn
 have e:t - (lo+(t - lo).fmod n)=n*(t - lo).fdiv n:=by
  have:=Int.fmod_def (t - lo) n
  omega
 refine ⟨by omega,by omega,?_⟩
 have d:(t - (lo+(t - lo).fmod n)).fdiv n=(t - lo).fdiv n:=by
  rw [e]
  exact Int.mul_fdiv_cancel_left _ (by omega)
 rw [d,Int.mul_comm]
 omega
theorem gK {lo t n:Int} (hn:0<n):lo≤lo+(t - lo).fmod n∧lo+(t - lo).fmod n≤lo+n - 1∧(lo+(t - lo).fmod n)+((t - (lo+(t - lo).fmod n)).fdiv (-n))*(-n)=t:=by
 have h0:=Int.fmod_nonneg_of_pos (t - lo) hn
 have h1:=Int.fmod_lt_of_pos (t - lo) hn
 have e:t - (lo+(t - lo).fmod n)=(-n)*(-((t - lo).fdiv n)):=by
  have:=Int.fmod_def (t - lo) n
  rw [Int.neg_mul_neg]
  omega
 refine ⟨by omega,by omega,?_⟩
 have d:(t - (lo+(t - lo).fmod n)).fdiv (-n)=-((t - lo).fdiv n):=by
  rw [e]
  exact Int.mul_fdiv_cancel_left _ (by omega)
 rw [d,Int.neg_mul_neg,Int.mul_comm]
 have:=Int.fmod_def (t - lo) n
 omega
theorem rB {a b m:Int} (N:Int) (hN:N=m*m+1) (f:Int) (hf:f=(a+m*b).fmod N) (t0 t1:Int) (h0:t0=(a - f)*(-m) - b*(-1)) (h1:t1=(a - f)*(-1)+b*(-m)):
  0≤f∧f≤m*m∧f - m*(t0.fdiv N) - t1.fdiv N=a∧t0.fdiv N - m*(t1.fdiv N)=b:=by
 have sq:0≤m*m:=by
  rcases Int.le_total 0 m with h | h
  ·exact Int.mul_nonneg h h
  ·exact Int.mul_nonneg_of_nonpos_of_nonpos h h
 have hp:0<N:=by omega
 have g0:=Int.fmod_nonneg_of_pos (a+m*b) hp
 have g1:=Int.fmod_lt_of_pos (a+m*b) hp
 have e:=Int.fmod_def (a+m*b) N
 rw [← hf] at e g0 g1
 generalize (a+m*b).fdiv N=q at e
 have e0:t0=N*(b - m*q):=by subst hN; grind
 have e1:t1=N*(-q):=by subst hN; grind
 have d0:t0.fdiv N=b - m*q:=by rw [e0]; exact Int.mul_fdiv_cancel_left _ (by omega)
 have d1:t1.fdiv N=-q:=by rw [e1]; exact Int.mul_fdiv_cancel_left _ (by omega)
 rw [d0,d1]
 refine ⟨g0,by omega,?_,?_⟩ <;> subst hN <;> grind
def Kd.size:Kd→Int→Int→Int
 | .plain,n,_=>n
 | .below,n,_=>n
 | .balanced,n,_=>2*n+1
 | .growing,n,p=>n+p
 | _,_,_=>0
theorem uq {k:Kd} (h5:k.five=true) (hk:k≠.pairs):k.four=true:=by
 cases k <;> first | rfl | exact absurd rfl hk | cases h5
theorem oQ {k:Kd} (h:k.four=true) (n p:Int):k.high n p - k.low n p+1=k.size n p∧(k.rat n p=k.size n p∨k.rat n p=-(k.size n p)):=by
 cases k <;> cases h <;> simp only [Kd.high,Kd.low,Kd.size,Kd.rat] <;> refine ⟨by omega,?_⟩ <;> first | exact .inl rfl | exact .inr rfl | exact .inr trivial | exact .inl trivial
theorem rE {k:Kd} {n:Int} (h:k.four=true) (hn:k.ok n) (j:Nat):2≤k.size n j:=by
 obtain ⟨h1,h2⟩:=hn
 cases k <;> cases h <;> simp only [Kd.lo,Kd.hi,Kd.size] at * <;> omega
theorem ue {k:Kd} {n:Int} {j:Nat} {t:Nm} (h5:k.five=true) (hn:k.ok n) (ht:t.ty k):
  k.low n j≤sF k n j t∧sF k n j t≤k.high n j∧t.re=sF k n j t+((k.ratN n j).mul (sC k n j t)).re∧t.im=((k.ratN n j).mul (sC k n j t)).im:=by
 by_cases hk:k=.pairs
 ·subst hk
  obtain ⟨g1,g2,g3,g4⟩:=rB (a:=t.re) (b:=t.im) (m:=n) (n*n+1) rfl _ rfl _ _ rfl rfl
  refine ⟨g1,g2,?_,?_⟩
  ·rw [zB]
   show t.re=_+(-n*_ - 1*_)
   unfold sC sF Nm.re Nm.im at *
   dsimp only at *
   grind
  ·rw [zC]
   show t.im=(-n*_+1*_)
   unfold sC sF Nm.re Nm.im at *
   dsimp only at *
   grind
 ·have h4:=uq h5 hk
  obtain ⟨e1,e2⟩:=oQ h4 n j
  have hp:=rE h4 hn j
  obtain ⟨a,rfl⟩:=xa hk ht
  have eF:sF k n j (.i a)=k.low n j + (a - k.low n j).fmod (k.size n j):=by rw [← e1]; cases k <;> first | rfl | exact absurd rfl hk
  have eC:sC k n j (.i a)=.i ((a - sF k n j (.i a)).fdiv (k.rat n j)):=by cases k <;> first | rfl | exact absurd rfl hk
  have eR:k.ratN n j=.i (k.rat n j):=by cases k <;> first | rfl | exact absurd rfl hk
  have s1:=gJ (lo:=k.low n j) (t:=a) (n:=k.size n j) (by omega)
  have s2:=gK (lo:=k.low n j) (t:=a) (n:=k.size n j) (by omega)
  rw [eC,eR,eF]
  refine ⟨s1.1,by have:=s1.2.1; omega,?_,rfl⟩
  show a=_+k.rat n j*_
  rw [Int.mul_comm (k.rat n j)]
  rcases e2 with e | e
  ·rw [e]; exact s1.2.2.symm
  ·rw [e]; exact s2.2.2.symm
theorem yg {k:Kd} {n:Int} (h5:k.five=true) (j:Nat):wt k n (j+1)=(k.ratN n j).mul (wt k n j):=by
 cases k <;> first | rfl | cases h5
theorem gF {T1 T2 F1 F2 w1 w2 c1 c2 t1 t2 f r1 r2 d1 d2:Int} (h1:T1=F1+(w1*c1 - w2*c2)) (h2:T2=F2+(w1*c2+w2*c1)) (s1:c1+t1=f+(r1*d1 - r2*d2)) (s2:c2+t2=r1*d2+r2*d1):
  T1+(t1*w1 - t2*w2)=F1+(f*w1 - 0*w2)+((r1*w1 - r2*w2)*d1 - (r1*w2+r2*w1)*d2)∧T2+(t1*w2+t2*w1)=F2+(f*w2+0*w1)+((r1*w1 - r2*w2)*d2+(r1*w2+r2*w1)*d1):=by
 have e1:c1=f+(r1*d1 - r2*d2) - t1:=by omega
 have e2:c2=r1*d2+r2*d1 - t2:=by omega
 subst e1 e2 h1 h2
 constructor <;> grind
theorem Xn {k:Kd} {n:Int} {ts:List Nm} (h5:k.five=true) (hn:k.ok n) (ht:∀ t∈ts,tot k t):∀ j,
  (wN k n ts j).re=(wF k n (fAt k n ts) j).re+((wt k n j).mul (cAt k n ts j)).re∧(wN k n ts j).im=(wF k n (fAt k n ts) j).im+((wt k n j).mul (cAt k n ts j)).im
 | 0=>by
  unfold wN wF cAt
  rw [zB,zC,zJ,zL]
  constructor <;> grind
 | j+1=>by
  obtain ⟨i1,i2⟩:=Xn h5 hn ht j
  obtain ⟨_,_,s1,s2⟩:=ue (j:=j) h5 hn (wG (xz k n ts j) (y3 ht j))
  have ec:cAt k n ts (j+1)=sC k n j ((cAt k n ts j).add (ts.getD j (.i 0))):=rfl
  have ef:fAt k n ts j=sF k n j ((cAt k n ts j).add (ts.getD j (.i 0))):=rfl
  rw [← ec,← ef] at s1
  rw [← ec] at s2
  rw [zM] at s1
  rw [zQ] at s2
  have e1:(wN k n ts (j+1))=(wN k n ts j).add ((ts.getD j (.i 0)).mul (wt k n j)):=rfl
  have e2:(wF k n (fAt k n ts) (j+1))=(wF k n (fAt k n ts) j).add ((Nm.i (fAt k n ts j)).mul (wt k n j)):=rfl
  rw [e1,e2,yg h5]
  rw [zB] at s1
  rw [zC] at s2
  rw [zB] at i1
  rw [zC] at i2
  have R:=gF i1 i2 s1 s2
  simp only [zB,zC,zM,zQ]
  exact R
theorem TJ {k:Kd} {c:Nm} (h:c.ty k):c.add (.i 0)=c:=by
 by_cases hk:k=.pairs
 ·subst hk
  obtain ⟨a,b,rfl⟩:=h
  show Nm.p (a+0) (b+0)=_
  rw [Int.add_zero,Int.add_zero]
 ·obtain ⟨a,rfl⟩:=xa hk h
  show Nm.i (a+0)=_
  rw [Int.add_zero]
theorem VN {k:Kd} {c:Nm} (h:c.ty k):k.zero.add c=c:=by
 by_cases hk:k=.pairs
 ·subst hk
  obtain ⟨a,b,rfl⟩:=h
  show Nm.p (0+a) (0+b)=_
  rw [Int.zero_add,Int.zero_add]
 ·obtain ⟨a,rfl⟩:=xa hk h
  have:k.zero=.i 0:=by cases k <;> first | rfl | exact absurd rfl hk
  rw [this]
  show Nm.i (0+a)=_
  rw [Int.zero_add]
theorem Yo {k:Kd} {n:Int} {ts:List Nm} {j:Nat} (h:ts.length≤j):cAt k n ts (j+1)=sC k n j (cAt k n ts j):=by
 have e:ts.getD j (.i 0)=.i 0:=by rw [List.getD_eq_getElem?_getD,List.getElem?_eq_none h]; rfl
 show sC k n j ((cAt k n ts j).add (ts.getD j (.i 0)))=_
 rw [e,TJ (xz k n ts j)]
theorem mK {s t f a:Int} (hs:2≤s) (f1:0≤f) (f2:f≤s - 1) (q:t=f+s*a):2*a.natAbs≤t.natAbs+1∧(0≤t→0≤a)∧(t.natAbs≤1→0≤t→a=0):=by
 have hm:∀ x:Int,0≤x→2*x≤s*x:=fun x hx=>Int.mul_le_mul_of_nonneg_right hs hx
 have e2:s*(-a)=-(s*a):=Int.mul_neg ..
 have e3:s*(-a - 1)=-(s*a) - s:=by rw [Int.mul_sub,Int.mul_one,e2]
 rcases (by omega:0≤a∨a≤-1) with z | z
 ·have:=hm a z
  exact ⟨by omega,fun _=>z,fun _ _=>by omega⟩
 ·have:=hm (-a - 1) (by omega)
  exact ⟨by omega,fun _=>by omega,fun _ _=>by omega⟩
theorem oh {k:Kd} {n:Int} {j:Nat} {t a:Int} (h4:k.four=true) (hn:k.ok n) (e:sC k n j (.i t)=.i a):
  2*a.natAbs≤t.natAbs+1∧(xB k (.i t)=true→xB k (.i a)=true)∧(t.natAbs≤1→xB k (.i t)=true→a=0∨(t=-1∧a=1)):=by
 have h5:k.five=true:=by cases k <;> first | rfl | cases h4
 have hk:k≠.pairs:=fun z=>by rw [z] at h4; cases h4
 obtain ⟨f1,f2,q,_⟩:=ue (j:=j) h5 hn (t:=.i t) (x9 hk)
 rw [e,zB] at q
 have hs:=rE h4 hn j
 obtain ⟨h1,h2⟩:=hn
 generalize sF k n j (.i t)=f at *
 cases k with
 | falling=>cases h4
 | pairs=>cases h4
 | plain=>
  simp only [Kd.ratN,Kd.rat,Nm.re,Nm.im,Kd.low,Kd.high,Kd.size,xB,decide_eq_true_iff] at *
  obtain ⟨p1,p2,p3⟩:=mK (t:=t) (a:=a) hs f1 f2 (by omega)
  exact ⟨p1,p2,fun x y=>.inl (p3 x y)⟩
 | below=>
  simp only [Kd.ratN,Kd.rat,Nm.re,Nm.im,Kd.low,Kd.high,Kd.size,xB] at *
  have q':t=f - n*a:=by rw [q,Int.neg_mul]; omega
  have hm:∀ x:Int,0≤x→2*x≤n*x:=fun x hx=>Int.mul_le_mul_of_nonneg_right hs hx
  have e1:n*(a - 1)=n*a - n:=by rw [Int.mul_sub,Int.mul_one]
  have e2:n*(-a)=-(n*a):=Int.mul_neg ..
  have e3:n*(-a - 1)=-(n*a) - n:=by rw [Int.mul_sub,Int.mul_one,e2]
  refine ⟨?_,fun _=>trivial,fun h3 _=>?_⟩
  ·rcases (by omega:1≤a∨a=0∨a≤-1) with z | z | z
   ·have:=hm (a - 1) (by omega); omega
   ·omega
   ·have:=hm (-a) (by omega); omega
  ·rcases (by omega:2≤a∨a=1∨a=0∨a≤-1) with z | z | z | z
   ·have:=hm (a - 1) (by omega); omega
   ·subst z; omega
   ·exact .inl z
   ·have:=hm (-a) (by omega); omega
 | balanced=>
  simp only [Kd.ratN,Kd.rat,Nm.re,Nm.im,Kd.low,Kd.high,Kd.size,xB,Kd.lo] at *
  have q':t=f+2*(n*a)+a:=by rw [q,Int.add_mul,Int.mul_assoc]; omega
  have hm:∀ x:Int,0≤x→x≤n*x:=fun x hx=>by
   have:=Int.mul_le_mul_of_nonneg_right h1 hx
   omega
  have e1:n*(a - 1)=n*a - n:=by rw [Int.mul_sub,Int.mul_one]
  have e2:n*(-a)=-(n*a):=Int.mul_neg ..
  have e3:n*(-a - 1)=-(n*a) - n:=by rw [Int.mul_sub,Int.mul_one,e2]
  have key:2*a.natAbs≤t.natAbs:=by
   rcases (by omega:1≤a∨a=0∨a≤-1) with z | z | z
   ·have:=hm (a - 1) (by omega); have:=hm a (by omega); omega
   ·omega
   ·have:=hm (-a - 1) (by omega); have:=hm (-a) (by omega); omega
  exact ⟨by omega,fun _=>trivial,fun _ _=>.inl (by omega)⟩
 | growing=>
  simp only [Kd.ratN,Kd.rat,Nm.re,Nm.im,Kd.low,Kd.high,Kd.size,xB,decide_eq_true_iff] at *
  obtain ⟨p1,p2,p3⟩:=mK (t:=t) (a:=a) (s:=n+(j:Int)) hs f1 (by omega) (by omega)
  exact ⟨p1,p2,fun x y=>.inl (p3 x y)⟩
theorem Yw {k:Kd} (h4:k.four=true):k.zero=.i 0:=by cases k <;> first | rfl | cases h4
theorem sC4 {k:Kd} {n:Int} {j:Nat} {t:Nm} (h4:k.four=true):∃ a,sC k n j t=.i a:=xa (fun z=>by rw [z] at h4; cases h4) (dz k n j t)
theorem YS {k:Kd} {n:Int} (h4:k.four=true) (hn:k.ok n):∀ (b:Nat) (j:Nat) (c:Nat→Nm) (t:Int),c 0=.i t→(∀ i,c (i+1)=sC k n (j+i) (c i))→xB k (.i t)=true→t.natAbs≤2 ^ b→∃ m,m≤b+2∧c m=k.zero
 | 0,j,c,t,h0,hc,hh,hb=>by
  obtain ⟨a,ea⟩:=sC4 (n:=n) (j:=j) (t:=.i t) h4
  have e1:c 1=.i a:=by rw [hc 0,h0]; exact ea
  obtain ⟨_,s2,s3⟩:=oh h4 hn ea
  rcases s3 hb hh with z | ⟨_,z⟩
  ·exact ⟨1,by omega,by rw [e1,z,Yw h4]⟩
  ·obtain ⟨a2,ea2⟩:=sC4 (n:=n) (j:=j+1) (t:=.i a) h4
   have e2:c 2=.i a2:=by rw [hc 1,e1]; exact ea2
   obtain ⟨_,_,s5⟩:=oh h4 hn ea2
   rcases s5 (by omega) (s2 hh) with y | ⟨y,_⟩
   ·exact ⟨2,by omega,by rw [e2,y,Yw h4]⟩
   ·omega
 | b+1,j,c,t,h0,hc,hh,hb=>by
  obtain ⟨a,ea⟩:=sC4 (n:=n) (j:=j) (t:=.i t) h4
  have e1:c 1=.i a:=by rw [hc 0,h0]; exact ea
  obtain ⟨s1,s2,_⟩:=oh h4 hn ea
  have hp:2 ^ (b+1)=2*2 ^ b:=by rw [Nat.pow_succ]; omega
  obtain ⟨m,hm,e⟩:=YS h4 hn b (j+1) (fun i=>c (i+1)) a e1 (fun i=>by rw [hc (i+1),show j+(i+1)=j+1+i by omega]) (s2 hh) (by omega)
  exact ⟨m+1,by omega,e⟩
theorem mx {k:Kd} {n:Int} (h4:k.four=true) (hn:k.ok n) {j:Nat} {c:Nat→Nm} {t:Int} (h0:c 0=.i t) (hc:∀ i,c (i+1)=sC k n (j+i) (c i)) (hh:xB k (.i t)=true):∀ i,∃ a,c i=.i a∧xB k (.i a)=true
 | 0=>⟨t,h0,hh⟩
 | i+1=>by
  obtain ⟨a,e,h⟩:=mx h4 hn h0 hc hh i
  obtain ⟨a',e'⟩:=sC4 (n:=n) (j:=j+i) (t:=.i a) h4
  exact ⟨a',by rw [hc i,e]; exact e',(oh h4 hn e').2.1 h⟩
def pA (n a b:Int):Int:=((a - (a+n*b).fmod (n*n+1))*(-n) - b*(-1)).fdiv (n*n+1)
def pB (n a b:Int):Int:=((a - (a+n*b).fmod (n*n+1))*(-1)+b*(-n)).fdiv (n*n+1)
theorem aH (n:Int) (j:Nat) (a b:Int):sC .pairs n j (.p a b)=.p (pA n a b) (pB n a b):=rfl
def pz (n:Int):Nat→Int→Int→Bool
 | 0,a,b=>a == 0 && b == 0
 | m+1,a,b=>(a == 0 && b == 0) || pz n m (pA n a b) (pB n a b)
theorem Xu:(List.range 9).all (fun n=>(List.range 31).all fun a=>(List.range 31).all fun b=>pz ((n:Int)+1) 14 ((a:Int) - 15) ((b:Int) - 15))=true:=by decide +kernel
theorem dL {n a b:Int} (n1:1≤n) (n2:n≤9) (a1:-15≤a) (a2:a≤15) (b1:-15≤b) (b2:b≤15):pz n 14 a b=true:=by
 have h:=List.all_eq_true.mp Xu (n - 1).toNat (List.mem_range.mpr (by omega))
 have h:=List.all_eq_true.mp h (a+15).toNat (List.mem_range.mpr (by omega))
 have h:=List.all_eq_true.mp h (b+15).toNat (List.mem_range.mpr (by omega))
 rw [show (((n - 1).toNat:Nat):Int)+1=n by omega,show (((a+15).toNat:Nat):Int) - 15=a by omega,show (((b+15).toNat:Nat):Int) - 15=b by omega] at h
 exact h
theorem oY {n:Int}:∀ (m j:Nat) (c:Nat→Nm) (a b:Int),c 0=.p a b→(∀ i,c (i+1)=sC .pairs n (j+i) (c i))→pz n m a b=true→∃ i,i≤m∧c i=Kd.zero .pairs
 | 0,j,c,a,b,h0,hc,h=>by
  unfold pz at h
  rw [Bool.and_eq_true,beq_iff_eq,beq_iff_eq] at h
  exact ⟨0,Nat.le_refl _,by rw [h0,h.1,h.2]; rfl⟩
 | m+1,j,c,a,b,h0,hc,h=>by
  unfold pz at h
  rw [Bool.or_eq_true] at h
  rcases h with h | h
  ·rw [Bool.and_eq_true,beq_iff_eq,beq_iff_eq] at h
   exact ⟨0,by omega,by rw [h0,h.1,h.2]; rfl⟩
  ·obtain ⟨i,hi,e⟩:=oY m (j+1) (fun i=>c (i+1)) _ _ (by rw [hc 0,h0]; exact aH n _ a b) (fun i=>by rw [hc (i+1),show j+(i+1)=j+1+i by omega]) h
   exact ⟨i+1,by omega,e⟩
theorem iU {n a b:Int}:∃ f,0≤f∧f≤n*n∧(a - f)*(a - f)+b*b=(n*n+1)*(pA n a b*pA n a b+pB n a b*pB n a b):=by
 obtain ⟨g1,g2,g3,g4⟩:=rB (a:=a) (b:=b) (m:=n) (n*n+1) rfl _ rfl _ _ rfl rfl
 refine ⟨_,g1,g2,?_⟩
 have e1:pA n a b=((a - (a+n*b).fmod (n*n+1))*(-n) - b*(-1)).fdiv (n*n+1):=rfl
 have e2:pB n a b=((a - (a+n*b).fmod (n*n+1))*(-1)+b*(-n)).fdiv (n*n+1):=rfl
 rw [← e1,← e2] at g3
 rw [← e1,← e2] at g4
 generalize (a + n * b).fmod (n * n + 1)=f at *
 generalize pA n a b=x at *
 generalize pB n a b=y at *
 have ea:a - f=-(n*x) - y:=by omega
 have eb:b=x - n*y:=by omega
 rw [ea,eb]
 grind
theorem z8 (x:Int):0≤x*x:=by
 rcases Int.le_total 0 x with h | h
 ·exact Int.mul_nonneg h h
 ·exact Int.mul_nonneg_of_nonpos_of_nonpos h h
theorem bG {n a b f:Int} (n1:1≤n) (n2:n≤9) (f0:0≤f) (f1:f≤n*n) (h:¬ (-15≤a∧a≤15∧-15≤b∧b≤15)):8*((a - f)*(a - f)+b*b)≤5*((n*n+1)*(a*a+b*b)):=by
 have e1:(a - f)*(a - f)=a*a - 2*(a*f)+f*f:=by grind
 have e2:(n*n+1)*(a*a+b*b)=(n*n)*(a*a+b*b)+(a*a+b*b):=by grind
 rw [e1,e2]
 have q1:1≤n*n:=by have:=Int.mul_le_mul n1 n1 (by omega) (by omega); omega
 have q2:n*n≤81:=by have:=Int.mul_le_mul n2 n2 (by omega) (by omega); omega
 have hff:f*f≤(n*n)*(n*n):=Int.mul_le_mul f1 f1 f0 (by omega)
 have hf0:0≤f*f:=z8 f
 have haf:-(a.natAbs:Int)*(n*n)≤a*f:=by
  rcases Int.le_total 0 a with z | z
  ·have z1:0≤a*f:=Int.mul_nonneg z f0
   have z2:0≤a*(n*n):=Int.mul_nonneg z (by omega)
   rw [show (a.natAbs:Int)=a by omega,Int.neg_mul]
   omega
  ·rw [show (a.natAbs:Int)=-a by omega,Int.neg_neg]
   exact Int.mul_le_mul_of_nonpos_left z f1
 have hA:(a.natAbs:Int)*a.natAbs=a*a:=by
  rcases Int.le_total 0 a with z | z
  ·rw [show (a.natAbs:Int)=a by omega]
  ·rw [show (a.natAbs:Int)=-a by omega,Int.neg_mul_neg]
 have hB:(b.natAbs:Int)*b.natAbs=b*b:=by
  rcases Int.le_total 0 b with z | z
  ·rw [show (b.natAbs:Int)=b by omega]
  ·rw [show (b.natAbs:Int)=-b by omega,Int.neg_mul_neg]
 have hAB:16≤(a.natAbs:Int)∨16≤(b.natAbs:Int):=by omega
 have hA0:(0:Int)≤(a.natAbs:Int):=Int.natCast_nonneg _
 rw [← hA,← hB]
 generalize (a.natAbs:Int)=A at *
 generalize (b.natAbs:Int)=B at *
 have sB:=z8 B
 have s4:=z8 (A - 4)
 have s2:=z8 (A - 2)
 have x4:(A - 4)*(A - 4)=A*A - 8*A+16:=by grind
 have x2:(A - 2)*(A - 2)=A*A - 4*A+4:=by grind
 rw [x4] at s4
 rw [x2] at s2
 have hb16:16≤B→256≤B*B:=fun z=>by have:=Int.mul_le_mul z z (by decide) (by omega); omega
 have ha16:16≤A→16*A≤A*A:=fun z=>Int.mul_le_mul_of_nonneg_right z (by omega)
 rcases (by omega:n=1∨n=2∨n=3∨n=4∨n=5∨n=6∨n=7∨n=8∨n=9) with z | z | z | z | z | z | z | z | z <;> subst z <;> rcases hAB with z | z <;> first | (have:=ha16 z; omega) | (have:=hb16 z; omega)
theorem lz {n a b:Int} (n1:1≤n) (n2:n≤9) (h:¬ (-15≤a∧a≤15∧-15≤b∧b≤15)):8*(pA n a b*pA n a b+pB n a b*pB n a b)≤5*(a*a+b*b):=by
 obtain ⟨f,f0,f1,e⟩:=iU (n:=n) (a:=a) (b:=b)
 have k:=bG n1 n2 f0 f1 h
 rw [e] at k
 have q1:0<n*n+1:=by have:=z8 n; omega
 generalize pA n a b * pA n a b + pB n a b * pB n a b=X at *
 generalize a * a + b * b=Y at *
 generalize n * n + 1=N at *
 have k':N*(8*X)≤N*(5*Y):=by
  have r1:N*(8*X)=8*(N*X):=by grind
  have r2:N*(5*Y)=5*(N*Y):=by grind
  rw [r1,r2]; exact k
 exact Int.le_of_mul_le_mul_left k' q1
theorem UV {n:Int} (n1:1≤n) (n2:n≤9):∀ (d j:Nat) (c:Nat→Nm) (a b:Int),c 0=.p a b→(∀ i,c (i+1)=sC .pairs n (j+i) (c i))→a*a+b*b≤((2 ^ d:Nat):Int)→∃ m,m≤2*d+16∧c m=Kd.zero .pairs:=by
 intro d
 induction d with
 | zero=>
  intro j c a b h0 hc hb
  have sa:=z8 a
  have sb:=z8 b
  have hb':a*a+b*b≤1:=hb
  have ha:-15≤a∧a≤15:=by
   constructor
   ·rcases Int.lt_or_le a (-15) with z | z
    ·have:=Int.mul_le_mul (show 16≤-a by omega) (show 16≤-a by omega) (by decide) (by omega)
     rw [Int.neg_mul_neg] at this; omega
    ·exact z
   ·rcases Int.lt_or_le 15 a with z | z
    ·have:=Int.mul_le_mul (show 16≤a by omega) (show 16≤a by omega) (by decide) (by omega)
     omega
    ·exact z
  have hbb:-15≤b∧b≤15:=by
   constructor
   ·rcases Int.lt_or_le b (-15) with z | z
    ·have:=Int.mul_le_mul (show 16≤-b by omega) (show 16≤-b by omega) (by decide) (by omega)
     rw [Int.neg_mul_neg] at this; omega
    ·exact z
   ·rcases Int.lt_or_le 15 b with z | z
    ·have:=Int.mul_le_mul (show 16≤b by omega) (show 16≤b by omega) (by decide) (by omega)
     omega
    ·exact z
  obtain ⟨i,hi,e⟩:=oY 14 j c a b h0 hc (dL n1 n2 ha.1 ha.2 hbb.1 hbb.2)
  exact ⟨i,by omega,e⟩
 | succ d ih=>
  intro j c a b h0 hc hb
  by_cases hin:-15≤a∧a≤15∧-15≤b∧b≤15
  ·obtain ⟨i,hi,e⟩:=oY 14 j c a b h0 hc (dL n1 n2 hin.1 hin.2.1 hin.2.2.1 hin.2.2.2)
   exact ⟨i,by omega,e⟩
  ·have e1:c 1=.p (pA n a b) (pB n a b):=by rw [hc 0,h0]; exact aH n _ a b
   have k1:=lz n1 n2 hin
   by_cases hin2:-15≤pA n a b∧pA n a b≤15∧-15≤pB n a b∧pB n a b≤15
   ·obtain ⟨i,hi,e⟩:=oY 14 (j+1) (fun i=>c (i+1)) _ _ e1 (fun i=>by rw [hc (i+1),show j+(i+1)=j+1+i by omega]) (dL n1 n2 hin2.1 hin2.2.1 hin2.2.2.1 hin2.2.2.2)
    exact ⟨i+1,by omega,e⟩
   ·have k2:=lz n1 n2 hin2
    have e2:c 2=.p (pA n (pA n a b) (pB n a b)) (pB n (pA n a b) (pB n a b)):=by rw [hc 1,e1]; exact aH n _ _ _
    have hp:((2 ^ (d+1):Nat):Int)=2*((2 ^ d:Nat):Int):=by rw [Nat.pow_succ]; omega
    have h2:(0:Int)≤((2 ^ d:Nat):Int):=Int.natCast_nonneg _
    obtain ⟨m,hm,e⟩:=ih (j+2) (fun i=>c (i+2)) _ _ e2 (fun i=>by rw [hc (i+2),show j+(i+2)=j+2+i by omega]) (by omega)
    exact ⟨m+2,by omega,e⟩
theorem Xr {k:Kd} {n:Int} {j:Nat} {c t:Nm} {T:Nat} (h4:k.four=true) (hn:k.ok n) (hc:c.ty k) (ht:tot k t) (b1:c.re.natAbs≤T+1) (b2:t.re.natAbs≤T):(sC k n j (c.add t)).re.natAbs≤T+1:=by
 have hk:k≠.pairs:=fun z=>by rw [z] at h4; cases h4
 obtain ⟨x,rfl⟩:=xa hk hc
 obtain ⟨y,rfl⟩:=ht hk
 obtain ⟨a,ea⟩:=sC4 (n:=n) (j:=j) (t:=.i (x+y)) h4
 have e:(Nm.i x).add (.i y)=.i (x+y):=rfl
 rw [e,ea]
 have:=(oh h4 hn ea).1
 simp only [Nm.re] at *
 omega
theorem gj {k:Kd} {n:Int} {ts:List Nm} {T:Nat} (h4:k.four=true) (hn:k.ok n) (ht:∀ t∈ts,tot k t) (hb:∀ t∈ts,t.re.natAbs≤T):∀ j,(cAt k n ts j).re.natAbs≤T+1
 | 0=>by
  show (k.zero).re.natAbs≤_
  rw [zJ]
  exact Nat.zero_le _
 | j+1=>by
  refine Xr h4 hn (xz k n ts j) (y3 ht j) (gj h4 hn ht hb j) ?_
  rw [List.getD_eq_getElem?_getD]
  cases q:ts[j]? with
  | none=>exact Nat.zero_le _
  | some t=>exact hb t (List.mem_of_getElem? q)
theorem YA {x T:Int} (h1:-T≤x) (h2:x≤T):x*x≤T*T:=by
 rcases Int.le_total 0 x with z | z
 ·exact Int.mul_le_mul h2 h2 z (by omega)
 ·have:=Int.mul_le_mul (show -x≤T by omega) (show -x≤T by omega) (by omega) (by omega)
  rwa [Int.neg_mul_neg] at this
theorem fS {n a b x y T:Int} (hT:81≤T) (n1:1≤n) (n2:n≤9) (hx1:-T≤x) (hx2:x≤T) (hy1:-T≤y) (hy2:y≤T) (h:a*a+b*b≤30*(T*T)):
  pA n (a+x) (b+y)*pA n (a+x) (b+y)+pB n (a+x) (b+y)*pB n (a+x) (b+y)≤30*(T*T):=by
 obtain ⟨f,f0,f1,e⟩:=iU (n:=n) (a:=a+x) (b:=b+y)
 have q1:1≤n*n:=by have:=Int.mul_le_mul n1 n1 (by omega) (by omega); omega
 have q2:n*n≤81:=by have:=Int.mul_le_mul n2 n2 (by omega) (by omega); omega
 generalize pA n (a + x) (b + y) * pA n (a + x) (b + y) + pB n (a + x) (b + y) * pB n (a + x) (b + y)=X at *
 have hX:2*X≤(n*n+1)*X∨X<0:=by
  rcases Int.lt_or_le X 0 with z | z
  ·exact .inr z
  ·exact .inl (Int.mul_le_mul_of_nonneg_right (by omega) z)
 have r1:2*((a+x - f)*(a+x - f))≤3*(a*a)+6*((x - f)*(x - f)):=by
  have:=z8 (a - 2*(x - f))
  have e1:(a - 2*(x - f))*(a - 2*(x - f))=a*a - 4*(a*(x - f))+4*((x - f)*(x - f)):=by grind
  have e2:(a+x - f)*(a+x - f)=a*a+2*(a*(x - f))+(x - f)*(x - f):=by grind
  omega
 have r2:2*((b+y)*(b+y))≤3*(b*b)+6*(y*y):=by
  have:=z8 (b - 2*y)
  have e1:(b - 2*y)*(b - 2*y)=b*b - 4*(b*y)+4*(y*y):=by grind
  have e2:(b+y)*(b+y)=b*b+2*(b*y)+y*y:=by grind
  omega
 have s1:(x - f)*(x - f)≤(2*T)*(2*T):=YA (by omega) (by omega)
 have s2:y*y≤T*T:=YA hy1 hy2
 have s3:(2*T)*(2*T)=4*(T*T):=by grind
 have s4:=z8 T
 omega
theorem gi {n:Int} {ts:List Nm} {T:Nat} (hT:81≤T) (hn:Kd.pairs.ok n) (hb:∀ t∈ts,t.re.natAbs≤T∧t.im.natAbs≤T):∀ j,∃ a b,cAt .pairs n ts j=.p a b∧a*a+b*b≤30*((T:Int)*T)
 | 0=>⟨0,0,rfl,by have:=z8 (T:Int); omega⟩
 | j+1=>by
  obtain ⟨a,b,e,h⟩:=gi hT hn hb j
  have ht:(ts.getD j (.i 0)).re.natAbs≤T∧(ts.getD j (.i 0)).im.natAbs≤T:=by
   rw [List.getD_eq_getElem?_getD]
   cases q:ts[j]? with
   | none=>exact ⟨Nat.zero_le _,Nat.zero_le _⟩
   | some t=>exact hb t (List.mem_of_getElem? q)
  have ea:(Nm.p a b).add (ts.getD j (.i 0))=.p (a+(ts.getD j (.i 0)).re) (b+(ts.getD j (.i 0)).im):=by
   cases ts.getD j (.i 0) <;> rfl
  refine ⟨_,_,by show sC .pairs n j ((cAt .pairs n ts j).add _)=_; rw [e,ea]; exact aH ..,?_⟩
  have h1:(1:Int)≤n:=hn.1
  have h2:n≤9:=hn.2
  exact fS (by omega) h1 h2 (by omega) (by omega) (by omega) (by omega) h
theorem UK {P:Nat→Prop}:∀ (m:Nat),P m→∃ i,i≤m∧P i∧∀ l,l<i→¬ P l:=by
 intro m
 induction m using Nat.strongRecOn with
 | ind m ih=>
  intro h
  by_cases hx:∃ l,l<m∧P l
  ·obtain ⟨l,hl,pl⟩:=hx
   obtain ⟨i,hi,h2⟩:=ih l hl pl
   exact ⟨i,by omega,h2⟩
  ·exact ⟨m,Nat.le_refl _,h,fun l hl pl=>hx ⟨l,hl,pl⟩⟩
theorem iO {k:Kd} {n:Int} {ts:List Nm} {b:Nat} (h5:k.five=true) (hn:k.ok n) (ht:∀ t∈ts,tot k t) (hb:∀ t∈ts,t.re.natAbs≤2 ^ b∧t.im.natAbs≤2 ^ b) (b7:7≤b) (hh:xB k (cAt k n ts ts.length)=true):
  ∃ J,Fin k n ts J∧J≤ts.length+4*b+30∧(k≠.pairs→J≤ts.length+b+3):=by
 have hpow:2 ^ (b+1)=2*2 ^ b:=by rw [Nat.pow_succ]; omega
 have h128:128≤2 ^ b:=Nat.pow_le_pow_right (by decide:0<2) b7
 have main:∃ m,m≤4*b+30∧(k≠.pairs→m≤b+3)∧cAt k n ts (ts.length+m)=k.zero∧∀ i,xB k (cAt k n ts (ts.length+i))=true:=by
  have hc:∀ i,cAt k n ts (ts.length+(i+1))=sC k n (ts.length+i) (cAt k n ts (ts.length+i)):=fun i=>Yo (j:=ts.length+i) (by omega)
  by_cases hk:k=.pairs
  ·subst hk
   obtain ⟨x,y,e,hxy⟩:=gi (T:=2 ^ b) (by omega) hn hb ts.length
   have hbig:30*(((2 ^ b:Nat):Int)*((2 ^ b:Nat):Int))≤((2 ^ (2*b+5):Nat):Int):=by
    have:2 ^ (2*b+5)=32*(2 ^ b*2 ^ b):=by rw [← Nat.pow_add,show 2*b+5=(b+b)+5 by omega,Nat.pow_add]; omega
    rw [this,← Int.natCast_mul]
    omega
   obtain ⟨m,hm,em⟩:=UV hn.1 hn.2 (2*b+5) ts.length (fun i=>cAt .pairs n ts (ts.length+i)) x y e hc (Int.le_trans hxy hbig)
   refine ⟨m,by omega,fun z=>absurd rfl z,em,fun i=>?_⟩
   obtain ⟨u,v,e'⟩:=xz .pairs n ts (ts.length+i)
   rw [e']
   rfl
  ·have h4:=uq h5 hk
   obtain ⟨t,et⟩:=xa hk (xz k n ts ts.length)
   rw [et] at hh
   have bd:=gj h4 hn ht (fun t h=>(hb t h).1) ts.length
   rw [et] at bd
   have bd':t.natAbs≤2 ^ b+1:=bd
   obtain ⟨m,hm,em⟩:=YS h4 hn (b+1) ts.length (fun i=>cAt k n ts (ts.length+i)) t et hc hh (by omega)
   refine ⟨m,by omega,fun _=>by omega,em,fun i=>?_⟩
   obtain ⟨a,e',h'⟩:=mx h4 hn (c:=fun i=>cAt k n ts (ts.length+i)) et hc hh i
   have e':cAt k n ts (ts.length+i)=.i a:=e'
   rw [e']
   exact h'
 obtain ⟨m,hm,hm4,em,hall⟩:=main
 obtain ⟨i,hi,pi,hl⟩:=UK (P:=fun i=>cAt k n ts (ts.length+i)=k.zero) m em
 refine ⟨ts.length+i,⟨by omega,pi,fun j h1 h2=>?_⟩,by omega,fun z=>by have:=hm4 z; omega⟩
 have e:j=ts.length+(j - ts.length):=by omega
 rw [e]
 exact ⟨hl _ (by omega),hall _⟩
theorem w8 (k:Kd) (n:Int) (ts:List Nm) (j:Nat):(wx k n ts j).length=j:=by unfold wx; rw [List.length_map,List.length_range]
theorem lJ {k:Kd} {n:Int} {ts:List Nm} {j i:Nat} (h:i<j):(wx k n ts j).getD i 0=fAt k n ts i:=by
 unfold wx
 rw [List.getD_eq_getElem?_getD,List.getElem?_map,List.getElem?_range h]
 rfl
theorem eK (k:Kd) (n:Int) (ts:List Nm) (j:Nat):wx k n ts (j+1)=wx k n ts j++[fAt k n ts j]:=by
 unfold wx
 rw [List.range_succ,List.map_append]
 rfl
theorem ag (k:Kd) (n:Int) (ts:List Nm) (j:Nat):crs k n ts (j+1)=crs k n ts j++[cAt k n ts j]:=by
 unfold crs
 rw [List.range_succ,List.map_append]
 rfl
theorem Ym (k:Kd) (n:Int) (ts:List Nm) (j:Nat):(crs k n ts j).length=j:=by unfold crs; rw [List.length_map,List.length_range]
def Kd.isF:Kd→Bool
 | .falling=>true
 | _=>false
structure Legal (k:Kd) (n:Int) (r:List Int):Prop where
 fig:∀ p,p<r.length→k.low n p≤r.getD p 0∧r.getD p 0≤k.high n p
 fal:k.isF=true→∀ p,p+1<r.length→r.getD (p+1) 0=n→r.getD p 0=0
 end_:r=[]∨r.getD (r.length - 1) 0≠0
open Classical in
noncomputable def lB (k:Kd) (n:Int) (r:List Int):Bool:=decide (Legal k n r)
open Classical in
theorem iX {k:Kd} {n:Int} {r:List Int} (h:Legal k n r):lB k n r=true:=by unfold lB; exact decide_eq_true h
open Classical in
theorem nQ {k:Kd} {n:Int} {r:List Int} (h:¬ Legal k n r):lB k n r=false:=by unfold lB; exact decide_eq_false h
structure Lg (k:Kd) (n:Int) (r:List Int):Prop where
 fig:∀ p,p<r.length→k.low n p≤r.getD p 0∧r.getD p 0≤k.high n p
 fal:k.isF=true→∀ p,p+1<r.length→r.getD (p+1) 0=n→r.getD p 0=0
theorem tF {k:Kd} {n:Int} (h:k.ok n) (p:Nat):k.low n p≤0∧0≤k.high n p:=by
 obtain ⟨h1,h2⟩:=h
 cases k <;> simp only [Kd.lo,Kd.hi,Kd.low,Kd.high] at * <;> first | omega | exact ⟨Int.le_refl _,Int.mul_nonneg (by omega) (by omega)⟩
theorem zS {r:List Int} {z:Int} {p:Nat} (h:p<r.length):(r++[z]).getD p 0=r.getD p 0:=by
 rw [List.getD_eq_getElem?_getD,List.getD_eq_getElem?_getD,List.getElem?_append_left h]
theorem getD_snoc_eq {r:List Int} {z:Int}:(r++[z]).getD r.length 0=z:=by
 rw [List.getD_eq_getElem?_getD,List.getElem?_append_right (Nat.le_refl _)]
 simp
theorem Lg.nil (k:Kd) (n:Int):Lg k n []:=⟨fun p h=>absurd h (Nat.not_lt_zero _),fun _ p h=>absurd h (Nat.not_lt_zero _)⟩
theorem Lg.pop {k:Kd} {n:Int} {r:List Int} {z:Int} (h:Lg k n (r++[z])):Lg k n r:=by
 refine ⟨fun p hp=>?_,fun hk p hp=>?_⟩
 ·have:=h.fig p (by rw [List.length_append]; omega)
  rwa [zS hp] at this
 ·have:=h.fal hk p (by rw [List.length_append]; omega)
  rwa [zS hp,zS (by omega)] at this
theorem Lg.trim {k:Kd} {n:Int}:∀ {r:List Int},Lg k n r→Legal k n (trim r):=by
 intro r
 generalize hl:r.length=m
 induction m generalizing r with
 | zero=>
  intro h
  obtain rfl:r=[]:=List.length_eq_zero_iff.mp hl
  exact ⟨h.fig,h.fal,.inl rfl⟩
 | succ m ih=>
  intro h
  rcases zO r with rfl | ⟨l,z,rfl⟩
  ·cases hl
  ·by_cases hz:z=0
   ·subst hz
    rw [xR]
    exact ih (by rw [List.length_append] at hl; exact Nat.succ.inj hl) h.pop
   ·rw [ud hz]
    exact ⟨h.fig,h.fal,.inr (by rw [List.length_append]; exact fun e=>hz (by rw [← e]; exact getD_snoc_eq.symm))⟩
theorem Lg.push {k:Kd} {n z:Int} {r:List Int} (h:Lg k n r) (hz:k.low n r.length≤z∧z≤k.high n r.length) (hf:k.isF=true→z=n→r=[]∨r.getD (r.length - 1) 0=0):Lg k n (r++[z]):=by
 refine ⟨fun p hp=>?_,fun hk p hp e=>?_⟩
 ·rw [List.length_append] at hp
  rcases (by simp at hp; omega:p<r.length∨p=r.length) with q | q
  ·rw [zS q]; exact h.fig p q
  ·subst q; rw [getD_snoc_eq]; exact hz
 ·rw [List.length_append] at hp
  rcases (by simp at hp; omega:p+1<r.length∨p+1=r.length) with q | q
  ·rw [zS q] at e
   rw [zS (by omega)]
   exact h.fal hk p q e
  ·rw [q,getD_snoc_eq] at e
   rw [zS (by omega)]
   rcases hf hk e with z | z
   ·rw [z] at q; cases q
   ·rw [show r.length - 1=p by omega] at z; exact z
theorem yD {r:List Int} {i j:Nat} {z:Int} (h:i≠j):(r.set i z).getD j 0=r.getD j 0:=by
 rw [List.getD_eq_getElem?_getD,List.getD_eq_getElem?_getD,List.getElem?_set_ne h]
theorem yE {r:List Int} {i:Nat} {z:Int} (h:i<r.length):(r.set i z).getD i 0=z:=by
 rw [List.getD_eq_getElem?_getD,List.getElem?_set_self h]
 rfl
theorem Lg.zero {k:Kd} {n:Int} {r:List Int} (hn:k.ok n) (h:Lg k n r):Lg k n (r.set (r.length - 1) 0):=by
 refine ⟨fun p hp=>?_,fun hk p hp e=>?_⟩
 ·rw [List.length_set] at hp
  by_cases q:r.length - 1=p
  ·subst q; rw [yE hp]; exact tF hn _
  ·rw [yD q]; exact h.fig p hp
 ·rw [List.length_set] at hp
  have n1:n≠0:=by have:=hn.1; cases k <;> simp only [Kd.lo] at this <;> omega
  by_cases q:r.length - 1=p+1
  ·rw [← q,yE (by omega)] at e; exact absurd e.symm n1
  ·rw [yD q] at e
   rw [yD (by omega)]
   exact h.fal hk p hp e
theorem vi (k:Kd) (n:Int) (ns:List Int):∀ j,zY k n ns j=wF k n (fun i=>ns.getD i 0) j
 | 0=>rfl
 | j+1=>by unfold zY wF; rw [vi k n ns j]
theorem rp {k:Kd} {n:Int} {f g:Nat→Int}:∀ j,(∀ i,i<j→f i=g i)→wF k n f j=wF k n g j
 | 0,_=>rfl
 | j+1,h=>by
  unfold wF
  rw [rp j fun i hi=>h i (by omega),h j (by omega)]
theorem n_ (k:Kd) (n:Int) (j:Nat):(wt k n j).ty k:=by
 by_cases hk:k=.pairs
 ·subst hk; exact wt2 j
 ·obtain ⟨w,e⟩:=wtI (n:=n) hk j
  rw [e]
  exact x9 hk
theorem vW {k:Kd} {t w:Nm} (ht:tot k t) (hw:w.ty k):(t.mul w).ty k:=by
 by_cases hk:k=.pairs
 ·subst hk
  obtain ⟨a,b,rfl⟩:=hw
  cases t <;> exact ⟨_,_,rfl⟩
 ·obtain ⟨a,rfl⟩:=ht hk
  obtain ⟨b,rfl⟩:=xa hk hw
  exact x9 hk
theorem zT {k:Kd} {m:Nm} (h:m.ty k):tot k m:=fun hk=>xa hk h
theorem vJ (k:Kd) (a:Int):tot k (.i a):=fun _=>⟨a,rfl⟩
theorem e7 (k:Kd) (n:Int) (f:Nat→Int):∀ j,(wF k n f j).ty k
 | 0=>yw k
 | j+1=>wG (e7 k n f j) (zT (vW (vJ k _) (n_ k n j)))
theorem rn {k:Kd} {n:Int} {ts:List Nm} (ht:∀ t∈ts,tot k t):∀ j,(wN k n ts j).ty k
 | 0=>yw k
 | j+1=>wG (rn ht j) (zT (vW (y3 ht j) (n_ k n j)))
theorem lY {k:Kd} {m w:Nm} (hm:m.ty k) (hw:w.ty k):m.add ((Nm.i 0).mul w)=m:=by
 refine y_ (wG hm (zT (vW (vJ k 0) hw))) hm ?_ ?_
 ·rw [zM,zB]; show m.re+(0*w.re - 0*w.im)=_; rw [Int.zero_mul,Int.zero_mul]; omega
 ·rw [zQ,zC]; show m.im+(0*w.im+0*w.re)=_; rw [Int.zero_mul,Int.zero_mul]; omega
theorem ka {k:Kd} {n:Int} {ts:List Nm} (ht:∀ t∈ts,tot k t):∀ i,wN k n ts (ts.length+i)=wN k n ts ts.length
 | 0=>rfl
 | i+1=>by
  have e:ts.getD (ts.length+i) (.i 0)=.i 0:=by rw [List.getD_eq_getElem?_getD,List.getElem?_eq_none (by omega)]; rfl
  show (wN k n ts (ts.length+i)).add ((ts.getD (ts.length+i) (.i 0)).mul (wt k n (ts.length+i)))=_
  rw [e,lY (rn ht _) (n_ k n _)]
  exact ka ht i
def yc (k:Kd) (n:Int) (ts:List Nm):Nm:=wN k n ts ts.length
def zm (k:Kd) (n:Int) (r:List Int):Nm:=zY k n r r.length
theorem Fin.worth {k:Kd} {n:Int} {ts:List Nm} {J:Nat} (F:Fin k n ts J) (h5:k.five=true) (hn:k.ok n) (ht:∀ t∈ts,tot k t):zm k n (wx k n ts J)=yc k n ts:=by
 unfold zm yc
 rw [w8,vi,rp (g:=fAt k n ts) J (fun i hi=>lJ hi)]
 have e:wN k n ts J=wN k n ts ts.length:=by
  rw [show J=ts.length+(J - ts.length) by have:=F.le; omega]
  exact ka ht _
 obtain ⟨t1,t2⟩:=Xn h5 hn ht J
 rw [F.z,zB,zJ,zL] at t1
 rw [F.z,zC,zJ,zL] at t2
 rw [← e]
 refine y_ (e7 k n _ J) (rn ht J) ?_ ?_
 ·rw [t1,Int.mul_zero,Int.mul_zero]; omega
 ·rw [t2,Int.mul_zero,Int.mul_zero]; omega
theorem oN {k:Kd} {n:Int} {l:List Int} {z:Int} {j:Nat} (h:j≤l.length):zY k n (l++[z]) j=zY k n l j:=by
 rw [vi,vi]
 exact rp j fun i hi=>zS (by omega)
theorem wI (k:Kd) (n:Int) (l:List Int) (z:Int):zm k n (l++[z])=(zm k n l).add ((Nm.i z).mul (wt k n l.length)):=by
 unfold zm
 rw [List.length_append]
 show (zY k n (l++[z]) l.length).add ((Nm.i ((l++[z]).getD l.length 0)).mul (wt k n l.length))=_
 rw [oN (Nat.le_refl _),getD_snoc_eq]
theorem zH (k:Kd) (n:Int) (r:List Int):(zm k n r).ty k:=by
 unfold zm
 rw [vi]
 exact e7 k n _ _
theorem mi (k:Kd) (n:Int) (r:List Int):zm k n (trim r)=zm k n r:=by
 generalize hl:r.length=m
 induction m generalizing r with
 | zero=>
  obtain rfl:r=[]:=List.length_eq_zero_iff.mp hl
  rfl
 | succ m ih=>
  rcases zO r with rfl | ⟨l,z,rfl⟩
  ·cases hl
  ·by_cases hz:z=0
   ·subst hz
    rw [xR,ih l (by rw [List.length_append] at hl; exact Nat.succ.inj hl),wI,lY (zH k n l) (n_ k n _)]
   ·rw [ud hz]
theorem ut {k:Kd} (h5:k.five=true):k.isF=false:=by cases k <;> first | rfl | cases h5
theorem Z4 {k:Kd} {n:Int} {ts:List Nm} (h5:k.five=true) (hn:k.ok n) (ht:∀ t∈ts,tot k t) (J:Nat):Lg k n (wx k n ts J):=by
 refine ⟨fun p hp=>?_,fun hF=>?_⟩
 ·rw [w8] at hp
  rw [lJ hp]
  obtain ⟨a,b,_⟩:=ue (j:=p) h5 hn (wG (xz k n ts p) (y3 ht p))
  exact ⟨a,b⟩
 ·rw [ut h5] at hF
  cases hF
def gM (k:Kd) (n:Int) (ts:List Nm) (J:Nat):List Int:=trim (wx k n ts J)
theorem rG {k:Kd} {n:Int} {ts:List Nm} {J:Nat} (h5:k.five=true) (hn:k.ok n) (ht:∀ t∈ts,tot k t):Legal k n (gM k n ts J):=(Z4 h5 hn ht J).trim
theorem rF {k:Kd} {n:Int} {ts:List Nm} {J:Nat} (F:Fin k n ts J) (h5:k.five=true) (hn:k.ok n) (ht:∀ t∈ts,tot k t):zm k n (gM k n ts J)=yc k n ts:=by
 unfold gM
 rw [mi,F.worth h5 hn ht]
theorem l9 {k:Kd} {n:Int} {m:Nm} (hm:m.ty k) (h5:k.five=true):yc k n [m]=m:=by
 show (k.zero.add (m.mul (wt k n 0)))=m
 have e:wt k n 0=k.zero.add (.i 1):=by cases k <;> first | rfl | cases h5
 have r1:(wt k n 0).re=1:=by rw [e,zM,zJ]; rfl
 have r2:(wt k n 0).im=0:=by rw [e,zQ,zL]; rfl
 refine y_ (wG (yw k) (zT (vW (zT hm) (n_ k n 0)))) hm ?_ ?_
 ·rw [zM,zB,zJ,r1,r2,Int.mul_one,Int.mul_zero]; omega
 ·rw [zQ,zC,zL,r1,r2,Int.mul_one,Int.mul_zero]; omega
theorem jL {k:Kd} {m:Nm} (h:xB k m=true):m.ty k:=by
 cases k <;> cases m <;> first | exact ⟨_,rfl⟩ | exact ⟨_,_,rfl⟩ | cases h
theorem du {k:Kd} {n:Int} {m:Nm} {b:Nat} (h5:k.five=true) (hn:k.ok n) (hm:xB k m=true) (hb:m.re.natAbs≤2 ^ b∧m.im.natAbs≤2 ^ b) (b7:7≤b):∃ J,Fin k n [m] J∧J≤4*b+31∧(k≠.pairs→J≤b+4):=by
 have ht:∀ t∈[m],tot k t:=fun t h=>by rw [List.mem_singleton.mp h]; exact zT (jL hm)
 have e1:cAt k n [m] 1=sC k n 0 m:=by
  show sC k n 0 (k.zero.add m)=_
  rw [VN (jL hm)]
 obtain ⟨J,F,hJ⟩:=iO (b:=b) h5 hn ht (fun t h=>by rw [List.mem_singleton.mp h]; exact hb) b7 (by
  show xB k (cAt k n [m] 1)=true
  rw [e1]
  by_cases hk:k=.pairs
  ·subst hk
   obtain ⟨x,y,e⟩:=dz .pairs n 0 m
   rw [e]; rfl
  ·have h4:=uq h5 hk
   obtain ⟨t,rfl⟩:=xa hk (jL hm)
   obtain ⟨a,ea⟩:=sC4 (n:=n) (j:=0) (t:=.i t) h4
   rw [ea]
   exact (oh h4 hn ea).2.1 hm)
 exact ⟨J,F,by have:=hJ.1; simp at this; omega,fun z=>by have:=hJ.2 z; simp at this; omega⟩
def tU (k:Kd):DSp:=fun ds Q=>∃ o d m,ds=[o,d]∧ql d=some m∧Q (.bl (xB k m))
def isP:Nm→Bool
 | .p _ _=>true
 | _=>false
def oJ:DSp:=fun ds Q=>∃ d m,ds=[d]∧ql d=some m∧Q (.bl (isP m))
def iB:DSp:=fun ds Q=>∃ r,ds=[zE r]∧Q (zE (trim r))
def ub:DSp:=fun ds Q=>∃ xs p,ds=[.lst xs,.int p]∧0≤p∧Q (xs.getD p.toNat (.int 0))
def se (ts:List Nm):Dt:=.lst (ts.map Nm.dt)
def lU (k:Kd) (n:Int) (ts:List Nm) (j:Nat):List Dt:=(crs k n ts j).map Nm.dt
theorem nS (ts:List Nm) (j:Nat):(ts.map Nm.dt).getD j (.int 0)=(ts.getD j (.i 0)).dt:=by
 rw [List.getD_eq_getElem?_getD,List.getD_eq_getElem?_getD,List.getElem?_map]
 cases ts[j]? <;> rfl
theorem Vi {k:Kd} {m m':Nm} (h:m.ty k) (h':m'.ty k):eqD m.dt m'.dt=true↔m=m':=by
 by_cases hk:k=.pairs
 ·subst hk
  obtain ⟨a,b,rfl⟩:=h
  obtain ⟨c,d,rfl⟩:=h'
  show eqD (.tup [.int a,.int b]) (.tup [.int c,.int d])=true↔_
  rw [uv,x6,x6,uu,xh,xh,Bool.and_eq_true,Bool.and_eq_true,beq_iff_eq,beq_iff_eq]
  constructor
  ·rintro ⟨rfl,rfl,_⟩; rfl
  ·intro e; cases e; exact ⟨rfl,rfl,rfl⟩
 ·obtain ⟨a,rfl⟩:=xa hk h
  obtain ⟨c,rfl⟩:=xa hk h'
  show eqD (.int a) (.int c)=true↔_
  rw [xh,beq_iff_eq]
  constructor
  ·rintro rfl; rfl
  ·intro e; cases e; rfl
def wf (n:Int) (j:Nat):Int:=(wtF n j).2
theorem qF (n:Int):wf n 0=1:=rfl
theorem mm (n:Int):wf n 1=n+1:=by show n*1+1=_; rw [Int.mul_one]
theorem uD (n:Int) (j:Nat):wf n (j+2)=n*wf n (j+1)+wf n j:=rfl
theorem z5 {n:Int} (h:1≤n):∀ j,1≤wf n j∧wf n j≤wf n (j+1)
 | 0=>by rw [qF,mm]; omega
 | j+1=>by
  obtain ⟨a,b⟩:=z5 h j
  have:wf n (j+1)≤n*wf n (j+1):=by
   have:=Int.mul_le_mul_of_nonneg_right h (show 0≤wf n (j+1) by omega)
   omega
  rw [uD]
  omega
theorem Yx {n:Int} (h:1≤n) (h9:n≤9):∀ j,wf n j≤((2 ^ (4*j):Nat):Int)
 | 0=>by rw [qF]; decide
 | j+1=>by
  have ih:=Yx h h9 j
  have p:=z5 h j
  have hp:((2 ^ (4*(j+1)):Nat):Int)=16*((2 ^ (4*j):Nat):Int):=by rw [show 4*(j+1)=4*j+4 by omega,Nat.pow_add]; omega
  have k:n*wf n j≤9*wf n j:=Int.mul_le_mul_of_nonneg_right h9 (by omega)
  have e:wf n (j+1)≤n*wf n j+wf n j:=by
   cases j with
   | zero=>rw [mm,qF]; omega
   | succ q=>rw [uD]; have:=(z5 h q).2; omega
  omega
def Vt (k:Kd) (n:Int):Nat→List Int→Nm
 | _,[]=>k.zero
 | j,f::r=>(Nm.i f).add ((k.ratN n j).mul (Vt k n (j+1) r))
theorem dI {k:Kd} {n:Int} {j:Nat} (h5:k.five=true):(k.ratN n j).ty k:=by
 cases k <;> first | exact ⟨_,rfl⟩ | exact ⟨_,_,rfl⟩ | cases h5
theorem lE {k:Kd} {f:Int} {m:Nm} (h:m.ty k):((Nm.i f).add m).ty k:=by
 by_cases hk:k=.pairs
 ·subst hk
  obtain ⟨a,b,rfl⟩:=h
  exact ⟨_,_,rfl⟩
 ·obtain ⟨a,rfl⟩:=xa hk h
  exact x9 hk
theorem lZ {k:Kd} {n:Int} (h5:k.five=true):∀ (r:List Int) (j:Nat),(Vt k n j r).ty k
 | [],_=>yw k
 | _::r,j=>lE (vW (zT (dI h5)) (lZ h5 r (j+1)))
theorem aC {P1 P2 w1 w2 f r1 r2 v1 v2:Int}:P1+(f*w1 - 0*w2)+((r1*w1 - r2*w2)*v1 - (r1*w2+r2*w1)*v2)=P1+(w1*(f+(r1*v1 - r2*v2)) - w2*(0+(r1*v2+r2*v1)))∧P2+(f*w2+0*w1)+((r1*w1 - r2*w2)*v2+(r1*w2+r2*w1)*v1)=P2+(w1*(0+(r1*v2+r2*v1))+w2*(f+(r1*v1 - r2*v2))):=by
 constructor <;> grind
theorem mf {k:Kd} {n:Int} (h5:k.five=true):∀ (r pre:List Int),
  (zm k n (pre++r)).re=(zm k n pre).re+((wt k n pre.length).mul (Vt k n pre.length r)).re∧(zm k n (pre++r)).im=(zm k n pre).im+((wt k n pre.length).mul (Vt k n pre.length r)).im
 | [],pre=>by
  rw [List.append_nil]
  unfold Vt
  rw [zB,zC,zJ,zL,Int.mul_zero,Int.mul_zero]
  exact ⟨by omega,by omega⟩
 | f::r,pre=>by
  obtain ⟨i1,i2⟩:=mf h5 r (pre++[f])
  have e:pre++f::r=(pre++[f])++r:=by rw [List.append_assoc]; rfl
  have el:(pre++[f]).length=pre.length+1:=by rw [List.length_append]; rfl
  have ev:Vt k n pre.length (f::r)=(Nm.i f).add ((k.ratN n pre.length).mul (Vt k n (pre.length+1) r)):=rfl
  rw [e,i1,i2,el,wI,yg h5,ev]
  simp only [zB,zC,zM,zQ]
  have fr:(Nm.i f).re=f:=rfl
  have fi:(Nm.i f).im=0:=rfl
  rw [fr,fi]
  exact aC
theorem mh {k:Kd} {n:Int} (h5:k.five=true) (r:List Int):zm k n r=Vt k n 0 r:=by
 obtain ⟨a,b⟩:=mf (n:=n) h5 r []
 have e:wt k n 0=k.zero.add (.i 1):=by cases k <;> first | rfl | cases h5
 have r1:(wt k n 0).re=1:=by rw [e,zM,zJ]; rfl
 have r2:(wt k n 0).im=0:=by rw [e,zQ,zL]; rfl
 have z1:(zm k n []).re=0:=zJ k
 have z2:(zm k n []).im=0:=zL k
 simp only [List.length_nil,List.nil_append] at a b
 rw [zB,r1,r2,z1] at a
 rw [zC,r1,r2,z2] at b
 refine y_ (zH k n r) (lZ h5 r 0) ?_ ?_
 ·rw [a]; omega
 ·rw [b]; omega
theorem oi {lo n r t f c:Int} (hr:r=n∨r=-n) (h1:lo≤f) (h2:f≤lo+n - 1) (h3:lo≤t) (h4:t≤lo+n - 1) (e:f+c*r=t):c=0∧f=t:=by
 have hc:c=0:=by
  rcases (by omega:c=0∨1≤c∨c≤-1) with h | h | h
  ·exact h
  ·rcases hr with rfl | rfl
   ·have:=Int.mul_le_mul_of_nonneg_right h (show 0≤r by omega)
    omega
   ·have:=Int.mul_le_mul_of_nonneg_right h (show 0≤n by omega)
    rw [Int.mul_neg] at e
    omega
  ·rcases hr with rfl | rfl
   ·have:=Int.mul_le_mul_of_nonneg_right h (show 0≤r by omega)
    omega
   ·have:=Int.mul_le_mul_of_nonneg_right h (show 0≤n by omega)
    rw [Int.mul_neg] at e
    omega
 subst hc
 omega
theorem oq {k:Kd} {n f g:Int} {j:Nat} {c d:Nm} (h5:k.five=true) (hn:k.ok n) (f1:k.low n j≤f) (f2:f≤k.high n j) (g1:k.low n j≤g) (g2:g≤k.high n j) (tc:c.ty k) (td:d.ty k)
  (e:(Nm.i f).add ((k.ratN n j).mul c)=(Nm.i g).add ((k.ratN n j).mul d)):f=g∧c=d:=by
 have e1:=congrArg Nm.re e
 have e2:=congrArg Nm.im e
 rw [zM,zM,zB,zB] at e1
 rw [zQ,zQ,zC,zC] at e2
 by_cases hk:k=.pairs
 ·subst hk
  obtain ⟨a,b,rfl⟩:=tc
  obtain ⟨x,y,rfl⟩:=td
  simp only [Kd.ratN,Nm.re,Nm.im,Kd.low,Kd.high] at *
  have q1:f - n*(a - x) - (b - y)=g:=by rw [Int.mul_sub]; simp only [Int.neg_mul,Int.one_mul] at e1; omega
  have q2:(a - x) - n*(b - y)=0:=by rw [Int.mul_sub]; simp only [Int.neg_mul,Int.one_mul] at e2; omega
  generalize hu:a - x=u at *
  generalize hv:b - y=v at *
  have eu:u=n*v:=by omega
  rw [eu] at q1
  have e3:f+(-v)*(n*n+1)=g:=by
   have r1:n*(n*v)=v*(n*n):=by grind
   have r2:(-v)*(n*n+1)=-(v*(n*n)) - v:=by grind
   omega
  obtain ⟨h1,h2⟩:=oi (lo:=0) (n:=n*n+1) (.inl rfl) f1 (by omega) g1 (by omega) e3
  have v0:v=0:=by omega
  rw [v0,Int.mul_zero] at eu
  exact ⟨h2,by rw [show a=x by omega,show b=y by omega]⟩
 ·have h4:=uq h5 hk
  obtain ⟨a,rfl⟩:=xa hk tc
  obtain ⟨x,rfl⟩:=xa hk td
  have eR:k.ratN n j=.i (k.rat n j):=by cases k <;> first | rfl | exact absurd rfl hk
  rw [eR] at e1
  obtain ⟨z1,z2⟩:=oQ h4 n j
  have q:f+(a - x)*k.rat n j=g:=by
   have e1':f+(k.rat n j*a - 0*0)=g+(k.rat n j*x - 0*0):=e1
   rw [Int.sub_mul,Int.mul_comm a,Int.mul_comm x]
   omega
  obtain ⟨h1,h2⟩:=oi (lo:=k.low n j) (n:=k.size n j) z2 f1 (by omega) g1 (by omega) q
  exact ⟨h2,by rw [show a=x by omega]⟩
def Figs (k:Kd) (n:Int) (j:Nat) (r:List Int):Prop:=∀ p,p<r.length→k.low n ((j+p:Nat):Int)≤r.getD p 0∧r.getD p 0≤k.high n ((j+p:Nat):Int)
theorem Figs.cons {k:Kd} {n f:Int} {j:Nat} {r:List Int} (h:Figs k n j (f::r)):(k.low n j≤f∧f≤k.high n j)∧Figs k n (j+1) r:=by
 refine ⟨h 0 (by simp),fun p hp=>?_⟩
 have:=h (p+1) (by simp; exact hp)
 rw [show j+(p+1)=j+1+p by omega] at this
 exact this
theorem VI {k:Kd} {n:Int} (h5:k.five=true) (hn:k.ok n):∀ (r s:List Int) (j:Nat),Figs k n j r→Figs k n j s→Vt k n j r=Vt k n j s→∀ p,r.getD p 0=s.getD p 0:=by
 have zz:∀ j:Nat,k.zero=(Nm.i 0).add ((k.ratN n j).mul k.zero):=fun j=>by
  refine y_ (yw k) (lE (vW (zT (dI h5)) (yw k))) ?_ ?_
  ·rw [zM,zB,zJ,zL,Int.mul_zero,Int.mul_zero]; rfl
  ·rw [zQ,zC,zJ,zL,Int.mul_zero,Int.mul_zero]; rfl
 have nilc:∀ (s:List Int) (j:Nat),Figs k n j s→k.zero=Vt k n j s→∀ p,(0:Int)=s.getD p 0:=by
  intro s
  induction s with
  | nil=>intro j _ _ p; rfl
  | cons g s ih=>
   intro j hs e p
   obtain ⟨⟨g1,g2⟩,hs'⟩:=hs.cons
   obtain ⟨l1,l2⟩:=tF hn j
   rw [zz j] at e
   obtain ⟨q1,q2⟩:=oq h5 hn l1 l2 g1 g2 (yw k) (lZ h5 s (j+1)) e
   cases p with
   | zero=>exact q1
   | succ p=>exact ih (j+1) hs' q2 p
 intro r
 induction r with
 | nil=>intro s j _ hs e p; exact nilc s j hs e p
 | cons f r ih=>
  intro s j hr hs e p
  cases s with
  | nil=>exact (nilc (f::r) j hr e.symm p).symm
  | cons g s=>
   obtain ⟨⟨f1,f2⟩,hr'⟩:=hr.cons
   obtain ⟨⟨g1,g2⟩,hs'⟩:=hs.cons
   obtain ⟨q1,q2⟩:=oq h5 hn f1 f2 g1 g2 (lZ h5 r (j+1)) (lZ h5 s (j+1)) e
   cases p with
   | zero=>exact q1
   | succ p=>exact ih s (j+1) hr' hs' q2 p
theorem lH {r:List Int} {p:Nat} (h:r.length≤p):r.getD p 0=0:=by rw [List.getD_eq_getElem?_getD,List.getElem?_eq_none h]; rfl
theorem aJ {r s:List Int} (h:∀ p,r.getD p 0=s.getD p 0) (hr:r=[]∨r.getD (r.length - 1) 0≠0) (hs:s=[]∨s.getD (s.length - 1) 0≠0):r=s:=by
 have hl:r.length=s.length:=by
  rcases (by omega:r.length=s.length∨r.length<s.length∨s.length<r.length) with z | z | z
  ·exact z
  ·rcases hs with hs | hs
   ·rw [hs] at z; simp at z
   ·exact absurd (by rw [← h]; exact lH (by omega)) hs
  ·rcases hr with hr | hr
   ·rw [hr] at z; simp at z
   ·exact absurd (by rw [h]; exact lH (by omega)) hr
 apply List.ext_getElem hl
 intro i h1 h2
 have:=h i
 rw [List.getD_eq_getElem?_getD,List.getD_eq_getElem?_getD,List.getElem?_eq_getElem h1,List.getElem?_eq_getElem h2] at this
 exact this
theorem yC (n:Int) (l:List Int) (z:Int):(zm .falling n (l++[z])).re=(zm .falling n l).re+z*wf n l.length:=by
 rw [wI,zM]
 rfl
theorem Lg.nonneg {n:Int} {r:List Int} (h:Lg .falling n r) (h1:1≤n):0≤(zm .falling n r).re:=by
 generalize hl:r.length=m
 induction m generalizing r with
 | zero=>obtain rfl:r=[]:=List.length_eq_zero_iff.mp hl; exact Int.le_refl 0
 | succ m ih=>
  rcases zO r with rfl | ⟨l,z,rfl⟩
  ·cases hl
  ·have hz:=h.fig l.length (by rw [List.length_append]; simp)
   rw [getD_snoc_eq] at hz
   have hz0:0≤z:=hz.1
   have:=ih h.pop (by rw [List.length_append] at hl; exact Nat.succ.inj hl)
   rw [yC]
   have:=Int.mul_nonneg hz0 (show 0≤wf n l.length by have:=(z5 h1 l.length).1; omega)
   omega
theorem Lg.lt {n:Int} (h1:1≤n):∀ (m:Nat) (r:List Int),r.length=m→Lg .falling n r→(zm .falling n r).re<wf n m:=by
 intro m
 induction m using Nat.strongRecOn with
 | ind m ih=>
  intro r hl h
  rcases zO r with rfl | ⟨l,z,rfl⟩
  ·subst hl; show (0:Int)<wf n 0; rw [qF]; decide
  ·have el:l.length+1=m:=by rw [List.length_append] at hl; exact hl
   have hz:=h.fig l.length (by rw [List.length_append]; simp)
   rw [getD_snoc_eq] at hz
   have hz0:0≤z:=hz.1
   have hz1:z≤n:=hz.2
   have il:=ih l.length (by omega) l rfl h.pop
   have wp:=(z5 h1 l.length).1
   rw [yC,← el]
   rcases (by omega:z≤n - 1∨z=n) with c | c
   ·have k1:=Int.mul_le_mul_of_nonneg_right c (show 0≤wf n l.length by omega)
    have k2:(n - 1)*wf n l.length=n*wf n l.length - wf n l.length:=by rw [Int.sub_mul,Int.one_mul]
    have k3:n*wf n l.length<wf n (l.length+1):=by
     cases l.length with
     | zero=>rw [mm,qF]; omega
     | succ q=>rw [uD]; have:=(z5 h1 q).1; omega
    omega
   ·subst c
    rcases zO l with rfl | ⟨l',y,rfl⟩
    ·show (0:Int)+z*wf z 0<wf z 1
     rw [qF,mm]; omega
    ·have hy:=h.fal rfl l'.length (by rw [List.length_append,List.length_append]; simp) (by
      have:=getD_snoc_eq (r:=l'++[y]) (z:=z)
      rw [List.length_append] at this
      exact this)
     rw [zS (by rw [List.length_append]; simp),getD_snoc_eq] at hy
     subst hy
     have i2:=ih l'.length (by rw [List.length_append] at el; simp at el; omega) l' rfl h.pop.pop
     rw [yC,Int.zero_mul,Int.add_zero,List.length_append]
     show _+z*wf z (l'.length+1)<wf z (l'.length+2)
     rw [uD]
     omega
theorem og {n:Int} (h1:1≤n):∀ (m:Nat) (r s:List Int),r.length=m→s.length=m→Lg .falling n r→Lg .falling n s→(zm .falling n r).re=(zm .falling n s).re→r=s
 | 0,r,s,hr,hs,_,_,_=>by rw [List.length_eq_zero_iff.mp hr,List.length_eq_zero_iff.mp hs]
 | m+1,r,s,hr,hs,Lr,Ls,e=>by
  rcases zO r with rfl | ⟨l,z,rfl⟩
  ·cases hr
  rcases zO s with rfl | ⟨l',z',rfl⟩
  ·cases hs
  have e1:l.length=m:=by rw [List.length_append] at hr; exact Nat.succ.inj hr
  have e2:l'.length=m:=by rw [List.length_append] at hs; exact Nat.succ.inj hs
  rw [yC,yC,e1,e2] at e
  have a1:=Lr.pop.nonneg h1
  have a2:=Lr.pop.lt h1 m l e1
  have b1:=Ls.pop.nonneg h1
  have b2:=Ls.pop.lt h1 m l' e2
  have wp:=(z5 h1 m).1
  have hz:z=z':=by
   rcases (by omega:z=z'∨z+1≤z'∨z'+1≤z) with c | c | c
   ·exact c
   ·have:=Int.mul_le_mul_of_nonneg_right c (show 0≤wf n m by omega)
    rw [Int.add_mul,Int.one_mul] at this
    omega
   ·have:=Int.mul_le_mul_of_nonneg_right c (show 0≤wf n m by omega)
    rw [Int.add_mul,Int.one_mul] at this
    omega
  subst hz
  rw [og h1 m l l' e1 e2 Lr.pop Ls.pop (by omega)]
theorem Legal.lg {k:Kd} {n:Int} {r:List Int} (h:Legal k n r):Lg k n r:=⟨h.fig,h.fal⟩
theorem Legal.geF {n:Int} {r:List Int} (h:Legal .falling n r) (h1:1≤n) (hr:r≠[]):wf n (r.length - 1)≤(zm .falling n r).re:=by
 rcases zO r with rfl | ⟨l,z,rfl⟩
 ·exact absurd rfl hr
 ·have hz:=h.fig l.length (by rw [List.length_append]; simp)
  rw [getD_snoc_eq] at hz
  have hz0:0≤z:=hz.1
  have el:(l++[z]).length - 1=l.length:=by rw [List.length_append]; rfl
  rcases h.end_ with c | c
  ·exact absurd c hr
  ·rw [el,getD_snoc_eq] at c
   rw [yC,el]
   have a1:=h.lg.pop.nonneg h1
   have wp:=(z5 h1 l.length).1
   have:=Int.mul_le_mul_of_nonneg_right (show 1≤z by omega) (show 0≤wf n l.length by omega)
   omega
theorem iH {n:Int} (h1:1≤n) {i j:Nat} (h:i≤j):wf n i≤wf n j:=by
 induction h with
 | refl=>exact Int.le_refl _
 | step _ ih=>exact Int.le_trans ih (z5 h1 _).2
theorem kb {k:Kd} {n:Int} {r s:List Int} (hn:k.ok n) (hr:Legal k n r) (hs:Legal k n s) (e:zm k n r=zm k n s):r=s:=by
 by_cases hk:k=.falling
 ·subst hk
  have h1:1≤n:=hn.1
  have e':=congrArg Nm.re e
  rcases (by omega:r.length=s.length∨r.length<s.length∨s.length<r.length) with z | z | z
  ·exact og h1 _ r s z rfl hr.lg hs.lg e'
  ·have a:=hr.lg.lt h1 _ r rfl
   have b:=hs.geF h1 (by intro q; rw [q] at z; simp at z)
   have:=iH h1 (show r.length≤s.length - 1 by omega)
   omega
  ·have a:=hs.lg.lt h1 _ s rfl
   have b:=hr.geF h1 (by intro q; rw [q] at z; simp at z)
   have:=iH h1 (show s.length≤r.length - 1 by omega)
   omega
 ·have h5:k.five=true:=by cases k <;> first | rfl | exact absurd rfl hk
  rw [mh h5,mh h5] at e
  exact aJ (VI h5 hn r s 0 (fun p hp=>by rw [Nat.zero_add]; exact hr.fig p hp) (fun p hp=>by rw [Nat.zero_add]; exact hs.fig p hp) e) hr.end_ hs.end_
theorem wt7 {k:Kd} {n:Int} (hn:k.ok n) (hk:k≠.pairs) {j:Nat} (hj:j≤60):(wt k n j).re.natAbs≤2 ^ (7*j):=by
 obtain ⟨b1,b2⟩:=xu hn
 by_cases hf:k=.falling
 ·subst hf
  have:=Yx b1 (by have:=hn.2; exact this) j
  have p:=(z5 b1 j).1
  have h2:2 ^ (4*j)≤2 ^ (7*j):=Nat.pow_le_pow_right (by decide) (by omega)
  show (wf n j).natAbs≤_
  omega
 ·have h4:k.four=true:=by cases k <;> first | rfl | exact absurd rfl hk | exact absurd rfl hf
  have h5:k.five=true:=by cases k <;> first | rfl | cases h4
  induction j with
  | zero=>
   have e:wt k n 0=.i 1:=by cases k <;> first | rfl | exact absurd rfl hf | exact absurd rfl hk
   rw [e]
   exact Nat.le_refl 1
  | succ j ih=>
   have i:=ih (by omega)
   rw [yg h5,zB]
   have hr1:(k.ratN n j).im=0:=by cases k <;> first | rfl | cases h4
   have hr2:(k.ratN n j).re.natAbs≤128:=by cases k <;> cases h4 <;> simp only [Kd.ratN,Kd.rat,Nm.re] <;> omega
   rw [hr1,Int.zero_mul,Int.sub_zero,Int.natAbs_mul,show 7*(j+1)=7+7*j by omega,Nat.pow_add]
   exact Nat.mul_le_mul hr2 i
theorem eW {k:Kd} {n:Int} (hn:k.ok n) {j:Nat}:(k=.below∨k=.balanced∨k=.pairs)∨∃ x,wt k n j=.i x∧1≤x:=by
 obtain ⟨b1,b2⟩:=xu hn
 cases k with
 | below=>exact .inl (.inl rfl)
 | balanced=>exact .inl (.inr (.inl rfl))
 | pairs=>exact .inl (.inr (.inr rfl))
 | falling=>exact .inr ⟨_,rfl,(z5 b1 j).1⟩
 | plain=>
  refine .inr ?_
  induction j with
  | zero=>exact ⟨_,rfl,by decide⟩
  | succ j ih=>
   obtain ⟨x,e,h⟩:=ih
   rw [yg rfl,e]
   exact ⟨_,rfl,by show 1≤n*x; have:=Int.mul_le_mul b1 h (by decide) (by omega); omega⟩
 | growing=>
  refine .inr ?_
  induction j with
  | zero=>exact ⟨_,rfl,by decide⟩
  | succ j ih=>
   obtain ⟨x,e,h⟩:=ih
   rw [yg rfl,e]
   exact ⟨_,rfl,by show 1≤(n+(j:Int))*x; have:=Int.mul_le_mul (show 1≤n+(j:Int) by omega) h (by decide) (by omega); omega⟩
def sw (k:Kd):Prop:=k=.plain∨k=.growing
theorem oM {k:Kd} {n:Int} (hk:sw k) (hn:k.ok n) (j:Nat):∃ w,wt k n j=.i w∧1≤w∧wt k n (j+1)=.i (k.rat n j*w)∧k.high n j=k.rat n j - 1∧k.low n j=0:=by
 rcases hk with rfl | rfl
 ·rcases eW hn (j:=j) with (h | h | h) | ⟨w,e,h⟩
  ·cases h
  ·cases h
  ·cases h
  ·exact ⟨w,e,h,by rw [yg rfl,e]; rfl,rfl,rfl⟩
 ·rcases eW hn (j:=j) with (h | h | h) | ⟨w,e,h⟩
  ·cases h
  ·cases h
  ·cases h
  ·exact ⟨w,e,h,by rw [yg rfl,e]; rfl,rfl,rfl⟩
theorem o0 {k:Kd} (hk:sw k):k≠.pairs:=by rcases hk with rfl | rfl <;> (intro z; cases z)
theorem XC {k:Kd} (hk:sw k):k.five=true:=by rcases hk with rfl | rfl <;> rfl
theorem nU {k:Kd} {n:Int} {f:Nat→Int} (hk:sw k) (hn:k.ok n):∀ j:Nat,(∀ i:Nat,i<j→k.low n i≤f i∧f i≤k.high n i)→0≤(wF k n f j).re∧(wF k n f j).re<(wt k n j).re
 | 0,_=>by
  obtain ⟨w,e,h,_⟩:=oM hk hn 0
  rw [e]
  show 0≤(k.zero).re∧(k.zero).re<w
  rw [zJ]
  omega
 | j+1,h=>by
  obtain ⟨a,b⟩:=nU hk hn j fun i hi=>h i (by omega)
  obtain ⟨w,e,hw,e2,h1,h2⟩:=oM hk hn j
  obtain ⟨f1,f2⟩:=h j (by omega)
  rw [e2]
  have ew:(wF k n f (j+1)).re=(wF k n f j).re+f j*w:=by
   show ((wF k n f j).add ((Nm.i (f j)).mul (wt k n j))).re=_
   rw [zM,e]
   rfl
  rw [ew]
  rw [e] at b
  have b':(wF k n f j).re<w:=b
  rw [h2] at f1
  rw [h1] at f2
  have m1:=Int.mul_nonneg f1 (show 0≤w by omega)
  have m2:=Int.mul_le_mul_of_nonneg_right f2 (show 0≤w by omega)
  rw [Int.sub_mul,Int.one_mul] at m2
  show 0≤_∧_<k.rat n j*w
  omega
theorem iz {k:Kd} {n:Int} {ts:List Nm} (hk:sw k) (hn:k.ok n) (ht:∀ t∈ts,tot k t) (j:Nat):0≤(wN k n ts j).re↔xB k (cAt k n ts j)=true:=by
 have h5:=XC hk
 obtain ⟨t1,_⟩:=Xn h5 hn ht j
 obtain ⟨c,ec⟩:=xa (o0 hk) (xz k n ts j)
 obtain ⟨w,e,hw,_⟩:=oM hk hn j
 obtain ⟨a,b⟩:=nU (f:=fAt k n ts) hk hn j fun i _=>by
  obtain ⟨s1,s2,_⟩:=ue (j:=i) h5 hn (wG (xz k n ts i) (y3 ht i))
  exact ⟨s1,s2⟩
 rw [e] at b
 have b':(wF k n (fAt k n ts) j).re<w:=b
 rw [ec,e,zB] at t1
 have t1':(wN k n ts j).re=(wF k n (fAt k n ts) j).re+(w*c - 0*0):=t1
 rw [ec]
 have hh:xB k (.i c)=decide (0≤c):=by rcases hk with rfl | rfl <;> rfl
 rw [hh,decide_eq_true_iff,t1']
 constructor
 ·intro h
  rcases Int.lt_or_le c 0 with z | z
  ·have:=Int.mul_le_mul_of_nonneg_left (show c≤-1 by omega) (show 0≤w by omega)
   omega
  ·exact z
 ·intro h
  have:=Int.mul_nonneg (show 0≤w by omega) h
  omega
theorem lx {k:Kd} {m:Nm} (h5:k.five=true) (hk:¬ sw k) (hm:m.ty k):xB k m=true:=by
 cases k with
 | plain=>exact absurd (.inl rfl) hk
 | growing=>exact absurd (.inr rfl) hk
 | falling=>cases h5
 | below=>obtain ⟨a,rfl⟩:=hm; rfl
 | balanced=>obtain ⟨a,rfl⟩:=hm; rfl
 | pairs=>obtain ⟨a,b,rfl⟩:=hm; rfl
theorem dr {k:Kd} {n:Int} {ts:List Nm} {b:Nat} (h5:k.five=true) (hn:k.ok n) (ht:∀ t∈ts,tot k t) (hb:∀ t∈ts,t.re.natAbs≤2 ^ b∧t.im.natAbs≤2 ^ b) (b7:7≤b) (hw:sw k→0≤(yc k n ts).re):
  ∃ J,Fin k n ts J∧J≤ts.length+4*b+30:=by
 suffices z:xB k (cAt k n ts ts.length)=true by
  obtain ⟨J,F,hJ,_⟩:=iO h5 hn ht hb b7 z
  exact ⟨J,F,hJ⟩
 by_cases hk:sw k
 ·exact (iz hk hn ht _).mp (hw hk)
 ·exact lx h5 hk (xz k n ts _)
theorem db (r:List Int):(r.map Nm.i).map Nm.dt=r.map Dt.int:=by rw [List.map_map]; rfl
theorem rq {k:Kd} {r:List Int}:∀ t∈r.map Nm.i,tot k t:=fun t h=>by
 obtain ⟨z,_,e⟩:=List.mem_map.mp h
 rw [← e]
 exact vJ k z
theorem iL (k:Kd) (n:Int) (r:List Int):∀ j,wN k n (r.map Nm.i) j=zY k n r j
 | 0=>rfl
 | j+1=>by
  have e:(r.map Nm.i).getD j (.i 0)=.i (r.getD j 0):=by
   rw [List.getD_eq_getElem?_getD,List.getD_eq_getElem?_getD,List.getElem?_map]
   cases r[j]? <;> rfl
  unfold wN zY
  rw [iL k n r j,e]
theorem wK (k:Kd) (n:Int) (r:List Int):yc k n (r.map Nm.i)=zm k n r:=by
 unfold yc zm
 rw [List.length_map,iL]
theorem ou {k:Kd} {n:Int} {r:List Int} (hn:k.ok n) (h:Legal k n r):xB k (zm k n r)=true:=by
 by_cases hf:k=.falling
 ·subst hf
  have:=h.lg.nonneg hn.1
  obtain ⟨a,e⟩:=zH .falling n r
  rw [e] at this ⊢
  exact decide_eq_true this
 ·have h5:k.five=true:=by cases k <;> first | rfl | exact absurd rfl hf
  by_cases hk:sw k
  ·have a:=(nU (f:=fun i=>r.getD i 0) hk hn r.length fun i hi=>h.fig i hi).1
   obtain ⟨x,e⟩:=xa (o0 hk) (zH k n r)
   have:zm k n r=wF k n (fun i=>r.getD i 0) r.length:=vi k n r _
   rw [← this,e] at a
   rw [e]
   have a':0≤x:=a
   rcases hk with rfl | rfl <;> exact decide_eq_true a'
  ·exact lx h5 hk (zH k n r)
theorem tN {k:Kd} {n:Int} {r:List Int} (hn:k.ok n) (h:Legal k n r) (hl:r.length≤2000):∀ t∈r,t.natAbs≤4000:=by
 intro t ht
 obtain ⟨i,hi,e⟩:=List.getElem_of_mem ht
 have f:=h.fig i hi
 have eg:r.getD i 0=t:=by rw [List.getD_eq_getElem?_getD,List.getElem?_eq_getElem hi,e]; rfl
 rw [eg] at f
 obtain ⟨b1,b2⟩:=xu hn
 have sq:n*n≤3600:=by have:=Int.mul_le_mul b2 b2 (by omega) (by omega); omega
 cases k <;> simp only [Kd.low,Kd.high] at f <;> omega
theorem j6 {k:Kd} {n:Int} {r:List Int} (hn:k.ok n) (h:Legal k n r) (hl:r.length≤2000):bdR r:=fun t ht=>
 Nat.lt_of_le_of_lt (tN hn h hl t ht) (Nat.lt_of_lt_of_le (by decide:4000<2 ^ 12) (Nat.pow_le_pow_right (by decide) (by decide)))
theorem Xi {k:Kd} {n:Int} (hn:k.ok n) {j:Nat} (hj:j≤60):(wt k n j).re.natAbs≤2 ^ (7*j)∧(wt k n j).im.natAbs≤2 ^ (7*j):=by
 by_cases hk:k=.pairs
 ·subst hk
  have h1:1≤n:=hn.1
  have h9:n≤9:=hn.2
  induction j with
  | zero=>exact ⟨Nat.le_refl 1,Nat.zero_le _⟩
  | succ j ih=>
   obtain ⟨a,b⟩:=ih (by omega)
   rw [yg rfl,zB,zC,show 7*(j+1)=7+7*j by omega,Nat.pow_add]
   show (-n*(wt .pairs n j).re - 1*(wt .pairs n j).im).natAbs≤_∧(-n*(wt .pairs n j).im+1*(wt .pairs n j).re).natAbs≤_
   generalize (wt .pairs n j).re=x at *
   generalize (wt .pairs n j).im=y at *
   generalize 2 ^ (7 * j)=X at *
   have m1:(-n*x).natAbs≤9*X:=by rw [Int.natAbs_mul]; exact Nat.mul_le_mul (by omega) a
   have m2:(-n*y).natAbs≤9*X:=by rw [Int.natAbs_mul]; exact Nat.mul_le_mul (by omega) b
   have e:(2:Nat) ^ 7=128:=rfl
   rw [e]
   omega
 ·refine ⟨wt7 hn hk hj,?_⟩
  obtain ⟨w,e⟩:=wtI (n:=n) hk j
  rw [e]
  exact Nat.zero_le _
theorem md {k:Kd} {n:Int} {r:List Int} (hn:k.ok n) (hs:∀ t∈r,t.natAbs≤4000):∀ j,j≤60→(zY k n r j).re.natAbs≤2 ^ (7*j+13)∧(zY k n r j).im.natAbs≤2 ^ (7*j+13)
 | 0,_=>by
  show (k.zero).re.natAbs≤_∧(k.zero).im.natAbs≤_
  rw [zJ,zL]
  exact ⟨Nat.zero_le _,Nat.zero_le _⟩
 | j+1,hj=>by
  obtain ⟨a,b⟩:=md hn hs j (by omega)
  obtain ⟨w1,w2⟩:=Xi hn (show j≤60 by omega)
  have ht:(r.getD j 0).natAbs≤4000:=by
   rw [List.getD_eq_getElem?_getD]
   cases q:r[j]? with
   | none=>exact Nat.zero_le _
   | some t=>exact hs t (List.mem_of_getElem? q)
  have e:zY k n r (j+1)=(zY k n r j).add ((Nm.i (r.getD j 0)).mul (wt k n j)):=rfl
  rw [e,zM,zQ,zB,zC]
  show ((zY k n r j).re+(r.getD j 0*(wt k n j).re - 0*(wt k n j).im)).natAbs≤_∧((zY k n r j).im+(r.getD j 0*(wt k n j).im+0*(wt k n j).re)).natAbs≤_
  have p1:2 ^ (7*(j+1)+13)=128*(8192*2 ^ (7*j)):=by rw [show 7*(j+1)+13=7+(13+7*j) by omega,Nat.pow_add,Nat.pow_add]
  have p2:2 ^ (7*j+13)=8192*2 ^ (7*j):=by rw [show 7*j+13=13+7*j by omega,Nat.pow_add]
  rw [p1]
  rw [p2] at a b
  have m1:(r.getD j 0*(wt k n j).re).natAbs≤4000*2 ^ (7*j):=by rw [Int.natAbs_mul]; exact Nat.mul_le_mul ht w1
  have m2:(r.getD j 0*(wt k n j).im).natAbs≤4000*2 ^ (7*j):=by rw [Int.natAbs_mul]; exact Nat.mul_le_mul ht w2
  generalize 2 ^ (7 * j)=X at *
  omega
abbrev Stp:=Bool × Nat
def hf (h:List Int) (p:Nat):Int:=h.getD p 0
def pt (a:Nat) (c:Int) (i:Nat):Int:=if i=a then c else 0
def chg (n:Int):Stp→List (Nat × Int)
 | (true,p)=>[(p+1,1),(p,-n),(p - 1,-1)]
 | (false,0)=>[(1,1),(0,-n - 1)]
 | (false,1)=>[(2,1),(1,-n - 1),(0,n)]
 | (false,p+2)=>[(p+3,1),(p+2,-n - 1),(p+1,n - 1),(p,1)]
def vd:List (Nat × Int)→Nat→Int
 | [],_=>0
 | x::l,i=>pt x.1 x.2 i+vd l i
def dlt (n:Int) (s:Stp) (i:Nat):Int:=vd (chg n s) i
def Can (n:Int):Stp→(Nat→Int)→Prop
 | (true,p),f=>0<p∧n≤f p∧0<f (p - 1)
 | (false,p),f=>n<f p
def sm (w f:Nat→Int):Nat→Int
 | 0=>0
 | m+1=>sm w f m+f m*w m
def ls (w:Nat→Int):List (Nat × Int)→Int
 | []=>0
 | x::l=>x.2*w x.1+ls w l
theorem rD (w f g:Nat→Int):∀ m,sm w (fun i=>f i+g i) m=sm w f m+sm w g m
 | 0=>rfl
 | m+1=>by
  show sm w (fun i=>f i+g i) m+(f m+g m)*w m=(sm w f m+f m*w m)+(sm w g m+g m*w m)
  rw [rD w f g m,Int.add_mul]
  omega
theorem dq (w f:Nat→Int) (c:Int):∀ m,sm w (fun i=>c*f i) m=c*sm w f m
 | 0=>by show (0:Int)=c*0; rw [Int.mul_zero]
 | m+1=>by
  show sm w (fun i=>c*f i) m+(c*f m)*w m=c*(sm w f m+f m*w m)
  rw [dq w f c m,Int.mul_add,Int.mul_assoc]
theorem YB (w:Nat→Int) (a:Nat) (c:Int):∀ m,sm w (pt a c) m=if a<m then c*w a else 0
 | 0=>by rw [if_neg (Nat.not_lt_zero _)]; rfl
 | m+1=>by
  show sm w (pt a c) m+pt a c m*w m=_
  rw [YB w a c m]
  unfold pt
  by_cases h:m=a
  ·subst h
   rw [if_neg (Nat.lt_irrefl _),if_pos rfl,if_pos (Nat.lt_succ_self _)]
   omega
  ·rw [if_neg h,Int.zero_mul]
   by_cases h2:a<m
   ·rw [if_pos h2,if_pos (by omega)]; omega
   ·rw [if_neg h2,if_neg (by omega)]; omega
theorem iN (w:Nat→Int) (m:Nat):∀ l:List (Nat × Int),(∀ x∈l,x.1<m)→sm w (vd l) m=ls w l
 | [],_=>by
  show sm w (fun _=>0) m=0
  induction m with
  | zero=>rfl
  | succ m ih=>show sm w (fun _=>0) m+0*w m=0; rw [ih (fun _ h=>nomatch h)]; omega
 | x::l,h=>by
  show sm w (fun i=>pt x.1 x.2 i+vd l i) m=x.2*w x.1+ls w l
  rw [rD,iN w m l (fun y hy=>h y (List.mem_cons_of_mem _ hy))]
  rw [show sm w (fun i=>pt x.1 x.2 i) m=_ from YB w x.1 x.2 m,if_pos (h x List.mem_cons_self)]
theorem iy {n:Int} {s:Stp} {m:Nat} (h:s.2+2≤m):∀ x∈chg n s,x.1<m:=by
 intro x hx
 match s,h,hx with
 | (true,p),h,hx=>
  have h:p+2≤m:=h
  rcases List.mem_cons.mp hx with rfl | hx
  ·show p+1<m; omega
  rcases List.mem_cons.mp hx with rfl | hx
  ·show p<m; omega
  rw [List.mem_singleton.mp hx]
  show p - 1<m; omega
 | (false,0),h,hx=>
  have h:0+2≤m:=h
  rcases List.mem_cons.mp hx with rfl | hx
  ·show 1<m; omega
  rw [List.mem_singleton.mp hx]
  show 0<m; omega
 | (false,1),h,hx=>
  have h:1+2≤m:=h
  rcases List.mem_cons.mp hx with rfl | hx
  ·show 2<m; omega
  rcases List.mem_cons.mp hx with rfl | hx
  ·show 1<m; omega
  rw [List.mem_singleton.mp hx]
  show 0<m; omega
 | (false,p+2),h,hx=>
  have h:p+2+2≤m:=h
  rcases List.mem_cons.mp hx with rfl | hx
  ·show p+3<m; omega
  rcases List.mem_cons.mp hx with rfl | hx
  ·show p+2<m; omega
  rcases List.mem_cons.mp hx with rfl | hx
  ·show p+1<m; omega
  rw [List.mem_singleton.mp hx]
  show p<m; omega
theorem TF {n:Int} {s:Stp} (h:s.1=true→0<s.2):ls (wf n) (chg n s)=0:=by
 match s,h with
 | (true,0),h=>exact absurd (h rfl) (Nat.lt_irrefl _)
 | (true,q+1),_=>
  show 1*wf n (q+2)+(-n*wf n (q+1)+(-1*wf n q+0))=0
  rw [uD]
  grind
 | (false,0),_=>
  show 1*wf n 1+((-n - 1)*wf n 0+0)=0
  rw [mm,qF]
  omega
 | (false,1),_=>
  show 1*wf n (0+2)+((-n - 1)*wf n 1+(n*wf n 0+0))=0
  rw [uD,mm,qF]
  grind
 | (false,q+2),_=>
  show 1*wf n ((q+1)+2)+((-n - 1)*wf n (q+2)+((n - 1)*wf n (q+1)+(1*wf n q+0)))=0
  rw [uD n (q+1),uD n q]
  grind
def cst (n:Int) (i:Nat):Int:=if n=1 then (if i=0 then 7 else 4*i+8) else i+1
theorem vC (n:Int) (i:Nat):1≤cst n i∧cst n i≤4*i+8:=by
 unfold cst
 split
 ·split <;> omega
 ·omega
theorem sX (i:Nat):cst 1 i=if i=0 then (7:Int) else 4*(i:Int)+8:=by unfold cst; rw [if_pos rfl]
theorem sW {n:Int} (h:n≠1) (i:Nat):cst n i=i+1:=by unfold cst; rw [if_neg h]
theorem TH {n:Int} (hn:1≤n) {s:Stp} (h:s.1=true→0<s.2):ls (cst n) (chg n s)≤-1:=by
 by_cases h1:n=1
 ·subst h1
  match s,h with
  | (true,0),h=>exact absurd (h rfl) (Nat.lt_irrefl _)
  | (true,q+1),_=>
   show 1*cst 1 (q+2)+(-1*cst 1 (q+1)+(-1*cst 1 q+0))≤-1
   rw [sX,sX,sX,if_neg (by omega),if_neg (by omega)]
   split <;> omega
  | (false,0),_=>
   show 1*cst 1 1+((-1 - 1)*cst 1 0+0)≤-1
   rw [sX,sX]; decide
  | (false,1),_=>
   show 1*cst 1 2+((-1 - 1)*cst 1 1+(1*cst 1 0+0))≤-1
   rw [sX,sX,sX]; decide
  | (false,q+2),_=>
   show 1*cst 1 (q+3)+((-1 - 1)*cst 1 (q+2)+((1 - 1)*cst 1 (q+1)+(1*cst 1 q+0)))≤-1
   rw [sX,sX,sX,sX,if_neg (by omega),if_neg (by omega),if_neg (by omega)]
   split <;> omega
 ·match s,h with
  | (true,0),h=>exact absurd (h rfl) (Nat.lt_irrefl _)
  | (true,q+1),_=>
   show 1*cst n (q+2)+(-n*cst n (q+1)+(-1*cst n q+0))≤-1
   rw [sW h1,sW h1,sW h1]
   have hq:0≤n*(q:Int):=Int.mul_nonneg (by omega) (by omega)
   have e:1*(((q+2:Nat):Int)+1)+(-n*(((q+1:Nat):Int)+1)+(-1*((q:Int)+1)+0))=2 - n*q - 2*n:=by
    rw [show ((q+2:Nat):Int)=(q:Int)+2 by omega,show ((q+1:Nat):Int)=(q:Int)+1 by omega]
    grind
   rw [e]
   omega
  | (false,0),_=>
   show 1*cst n 1+((-n - 1)*cst n 0+0)≤-1
   rw [sW h1,sW h1]
   omega
  | (false,1),_=>
   show 1*cst n 2+((-n - 1)*cst n 1+(n*cst n 0+0))≤-1
   rw [sW h1,sW h1,sW h1]
   omega
  | (false,q+2),_=>
   show 1*cst n (q+3)+((-n - 1)*cst n (q+2)+((n - 1)*cst n (q+1)+(1*cst n q+0)))≤-1
   rw [sW h1,sW h1,sW h1,sW h1]
   have e:1*(((q+3:Nat):Int)+1)+((-n - 1)*(((q+2:Nat):Int)+1)+((n - 1)*(((q+1:Nat):Int)+1)+(1*((q:Int)+1)+0)))=-n:=by
    rw [show ((q+3:Nat):Int)=(q:Int)+3 by omega,show ((q+2:Nat):Int)=(q:Int)+2 by omega,show ((q+1:Nat):Int)=(q:Int)+1 by omega]
    grind
   rw [e]
   omega
theorem bT {n:Int} {p:Nat} (h:0<p):dlt n (true,p) p=-n∧dlt n (true,p) (p - 1)=-1∧∀ i,i≠p→i≠p - 1→0≤dlt n (true,p) i:=by
 refine ⟨?_,?_,fun i h1 h2=>?_⟩
 ·show pt (p+1) 1 p+(pt p (-n) p+(pt (p - 1) (-1) p+0))=-n
  unfold pt
  rw [if_neg (by omega),if_pos rfl,if_neg (by omega)]
  omega
 ·show pt (p+1) 1 (p - 1)+(pt p (-n) (p - 1)+(pt (p - 1) (-1) (p - 1)+0))=-1
  unfold pt
  rw [if_neg (by omega),if_neg (by omega),if_pos rfl]
  omega
 ·show 0≤pt (p+1) 1 i+(pt p (-n) i+(pt (p - 1) (-1) i+0))
  unfold pt
  rw [if_neg h1,if_neg h2]
  split <;> omega
theorem lP {n:Int} (hn:1≤n) (p:Nat):dlt n (false,p) p=-n - 1∧∀ i,i≠p→0≤dlt n (false,p) i:=by
 match p with
 | 0=>
  refine ⟨?_,fun i h1=>?_⟩
  ·show pt 1 1 0+(pt 0 (-n - 1) 0+0)=_
   unfold pt
   rw [if_neg (by omega),if_pos rfl]
   omega
  ·show 0≤pt 1 1 i+(pt 0 (-n - 1) i+0)
   unfold pt
   rw [if_neg h1]
   split <;> omega
 | 1=>
  refine ⟨?_,fun i h1=>?_⟩
  ·show pt 2 1 1+(pt 1 (-n - 1) 1+(pt 0 n 1+0))=_
   unfold pt
   rw [if_neg (by omega),if_pos rfl,if_neg (by omega)]
   omega
  ·show 0≤pt 2 1 i+(pt 1 (-n - 1) i+(pt 0 n i+0))
   unfold pt
   rw [if_neg h1]
   split <;> split <;> omega
 | q+2=>
  refine ⟨?_,fun i h1=>?_⟩
  ·show pt (q+3) 1 (q+2)+(pt (q+2) (-n - 1) (q+2)+(pt (q+1) (n - 1) (q+2)+(pt q 1 (q+2)+0)))=_
   unfold pt
   rw [if_neg (by omega),if_pos rfl,if_neg (by omega),if_neg (by omega)]
   omega
  ·show 0≤pt (q+3) 1 i+(pt (q+2) (-n - 1) i+(pt (q+1) (n - 1) i+(pt q 1 i+0)))
   unfold pt
   rw [if_neg h1]
   split <;> split <;> split <;> omega
def Oft (n:Int):Stp→(Nat→Int)→Int→Prop
 | (true,p),f,m=>0<p∧m*n≤f p∧m≤f (p - 1)
 | (false,p),f,m=>m*(n+1)≤f p
theorem Oft.up {n m:Int} {s:Stp} {f:Nat→Int} (h:Oft n s f m):s.1=true→0<s.2:=by
 match s,h with
 | (true,p),h=>exact fun _=>h.1
 | (false,p),_=>exact fun z=>Bool.noConfusion z
theorem Oft.nonneg {n m:Int} (hn:1≤n) (hm:0≤m) {s:Stp} {f:Nat→Int} (h:Oft n s f m) (hf0:∀ i,0≤f i) (i:Nat):0≤f i+m*dlt n s i:=by
 have pos:∀ d:Int,0≤d→0≤f i+m*d:=fun d hd=>by
  have:=Int.mul_nonneg hm hd
  have:=hf0 i
  omega
 match s,h with
 | (true,p),⟨h1,h2,h3⟩=>
  obtain ⟨a,b,c⟩:=bT (n:=n) h1
  by_cases e1:i=p
  ·subst e1; rw [a,Int.mul_neg]; omega
  by_cases e2:i=p - 1
  ·subst e2; rw [b,Int.mul_neg,Int.mul_one]; omega
  exact pos _ (c i e1 e2)
 | (false,p),h=>
  obtain ⟨a,c⟩:=lP hn p
  by_cases e1:i=p
  ·subst e1
   rw [a,show -n - 1=-(n+1) by omega,Int.mul_neg]
   have:m*(n+1)≤f i:=h
   omega
  exact pos _ (c i e1)
theorem Oft.can {n m j:Int} (hn:1≤n) {s:Stp} {f:Nat→Int} (h:Oft n s f m) (hj0:0≤j) (hj:j<m):Can n s (fun i=>f i+j*dlt n s i):=by
 match s,h with
 | (true,p),⟨h1,h2,h3⟩=>
  obtain ⟨a,b,c⟩:=bT (n:=n) h1
  have k:=Int.mul_le_mul_of_nonneg_right (show j+1≤m by omega) (show 0≤n by omega)
  rw [Int.add_mul,Int.one_mul] at k
  refine ⟨h1,?_,?_⟩
  ·show n≤f p+j*dlt n (true,p) p
   rw [a,Int.mul_neg]; omega
  ·show 0<f (p - 1)+j*dlt n (true,p) (p - 1)
   rw [b,Int.mul_neg,Int.mul_one]; omega
 | (false,p),h=>
  obtain ⟨a,c⟩:=lP hn p
  have h:m*(n+1)≤f p:=h
  have k:=Int.mul_le_mul_of_nonneg_right (show j+1≤m by omega) (show 0≤n+1 by omega)
  rw [Int.add_mul,Int.one_mul] at k
  show n<f p+j*dlt n (false,p) p
  rw [a,show -n - 1=-(n+1) by omega,Int.mul_neg]
  omega
def Walk (n:Int):(Nat→Int)→List Stp→(Nat→Int)→Prop
 | f,[],g=>f=g
 | f,s::ss,g=>Can n s f∧Walk n (fun i=>f i+dlt n s i) ss g
theorem Walk.append {n:Int} {g k:Nat→Int} {ts:List Stp} (h2:Walk n g ts k):∀ {ss:List Stp} {f:Nat→Int},Walk n f ss g→Walk n f (ss++ts) k
 | [],_,h=>by rw [show _=g from h]; exact h2
 | s::ss,_,h=>⟨h.1,Walk.append h2 h.2⟩
theorem mn {n:Int} {s:Stp}:∀ (m:Nat) (f:Nat→Int),(∀ j:Nat,j<m→Can n s (fun i=>f i+j*dlt n s i))→Walk n f (List.replicate m s) (fun i=>f i+m*dlt n s i)
 | 0,f,_=>by
  show f=_
  funext i
  rw [show ((0:Nat):Int)=0 from rfl,Int.zero_mul,Int.add_zero]
 | m+1,f,h=>by
  refine ⟨?_,?_⟩
  ·have:=h 0 (Nat.succ_pos _)
   have e:(fun i=>f i+((0:Nat):Int)*dlt n s i)=f:=by
    funext i
    rw [show ((0:Nat):Int)=0 from rfl,Int.zero_mul,Int.add_zero]
   rw [e] at this
   exact this
  ·have:=mn m (fun i=>f i+dlt n s i) (fun j hj=>by
    have:=h (j+1) (by omega)
    have e:(fun i=>f i+((j+1:Nat):Int)*dlt n s i)=fun i=>f i+dlt n s i+j*dlt n s i:=by
     funext i
     rw [show ((j+1:Nat):Int)=(j:Int)+1 by omega,Int.add_mul,Int.one_mul]
     omega
    rw [e] at this
    exact this)
   have e:(fun i=>f i+((m+1:Nat):Int)*dlt n s i)=fun i=>f i+dlt n s i+m*dlt n s i:=by
    funext i
    rw [show ((m+1:Nat):Int)=(m:Int)+1 by omega,Int.add_mul,Int.one_mul]
    omega
   rw [e]
   exact this
theorem yM {h:List Int} {i:Nat} (hi:h.length≤i):hf h i=0:=by unfold hf; rw [List.getD_eq_getElem?_getD,List.getElem?_eq_none hi]; rfl
theorem rC (w:Nat→Int) {f:Nat→Int} {k:Nat} (h:∀ i,k≤i→f i=0):∀ m,k≤m→sm w f m=sm w f k
 | 0,hm=>by rw [show k=0 by omega]
 | m+1,hm=>by
  by_cases e:k=m+1
  ·rw [e]
  ·show sm w f m+f m*w m=_
   rw [h m (by omega),Int.zero_mul,rC w h m (by omega)]
   omega
def hw (n:Int) (h:List Int):Int:=sm (wf n) (hf h) h.length
def pot (n:Int) (h:List Int):Int:=sm (cst n) (hf h) h.length
theorem US {h:List Int} (h0:∀ z∈h,0≤z) (i:Nat):0≤hf h i:=by
 unfold hf
 rw [List.getD_eq_getElem?_getD]
 cases q:h[i]? with
 | none=>exact Int.le_refl _
 | some z=>exact h0 z (List.mem_of_getElem? q)
theorem mt {w f:Nat→Int} (hw:∀ i,0≤w i) (hf:∀ i,0≤f i):∀ m,0≤sm w f m
 | 0=>Int.le_refl _
 | m+1=>Int.add_nonneg (mt hw hf m) (Int.mul_nonneg (hf m) (hw m))
theorem iM {w f:Nat→Int} (hw:∀ i,0≤w i) (hf:∀ i,0≤f i) {i:Nat}:∀ m,i<m→f i*w i≤sm w f m
 | 0,h=>absurd h (Nat.not_lt_zero _)
 | m+1,h=>by
  show _≤sm w f m+f m*w m
  by_cases e:i=m
  ·subst e
   have:=mt hw hf i
   omega
  ·have:=iM hw hf (i:=i) m (by omega)
   have:=Int.mul_nonneg (hf m) (hw m)
   omega
theorem dn {n:Int} (hn:1≤n) {f:Nat→Int} (hf:∀ i,0≤f i):∀ m,sm (wf n) f m≤sm (fun _=>1) f m*wf n m
 | 0=>by show (0:Int)≤0*_; rw [Int.zero_mul]; exact Int.le_refl _
 | m+1=>by
  obtain ⟨p1,p2⟩:=z5 hn m
  have ih:=dn hn hf m
  have t0:=mt (w:=fun _=>1) (fun _=>by decide) hf (m+1)
  have k:=Int.mul_le_mul_of_nonneg_left p2 t0
  have e:sm (fun _=>1) f (m+1)*wf n m=sm (fun _=>1) f m*wf n m+f m*wf n m:=by
   show (sm (fun _=>1) f m+f m*1)*wf n m=_
   rw [Int.mul_one,Int.add_mul]
  show sm (wf n) f m+f m*wf n m≤_
  omega
theorem YC {w v f:Nat→Int} (hf:∀ i,0≤f i) (h:∀ i,w i≤v i):∀ m,sm w f m≤sm v f m
 | 0=>Int.le_refl _
 | m+1=>by
  have:=YC hf h m
  have:=Int.mul_le_mul_of_nonneg_left (h m) (hf m)
  show sm w f m+f m*w m≤sm v f m+f m*v m
  omega
theorem iI {n:Int} (hn:1≤n) (m:Nat):∀ b:Nat,((2 ^ b:Nat):Int)*wf n m≤wf n (m+2*b)
 | 0=>by rw [show ((2 ^ 0:Nat):Int)=1 from rfl,Int.one_mul]; exact Int.le_refl _
 | b+1=>by
  have ih:=iI hn m b
  obtain ⟨a1,b1⟩:=z5 hn (m+2*b)
  have:wf n (m+2*b+1)≤n*wf n (m+2*b+1):=by
   have:=Int.mul_le_mul_of_nonneg_right hn (show 0≤wf n (m+2*b+1) by omega)
   omega
  have e:wf n (m+2*(b+1))=n*wf n (m+2*b+1)+wf n (m+2*b):=uD n (m+2*b)
  have hp:((2 ^ (b+1):Nat):Int)*wf n m=2*(((2 ^ b:Nat):Int)*wf n m):=by rw [Nat.pow_succ,Int.natCast_mul,Int.mul_comm ((2 ^ b:Nat):Int),Int.mul_assoc]; rfl
  omega
theorem ml {n:Int} (hn:1≤n) (m:Nat):∀ k,wf n m≤wf n (m+k)
 | 0=>Int.le_refl _
 | k+1=>Int.le_trans (ml hn m k) (z5 hn (m+k)).2
theorem dU {n:Int} (hn:1≤n) {h l:List Int} (h0:∀ i,0≤hf h i) (l0:∀ i,0≤hf l i) (hp:pot n h≤15000000) (e:hw n l=hw n h) {p:Nat} (hpos:0<hf l p):p<h.length+48:=by
 rcases Nat.lt_or_ge p (h.length+48) with z | z
 ·exact z
 exfalso
 have hpl:p<l.length:=by
  rcases Nat.lt_or_ge p l.length with z | z
  ·exact z
  ·rw [yM z] at hpos; omega
 have w0:∀ i,0≤wf n i:=fun i=>by have:=(z5 hn i).1; omega
 have g1:=iM w0 l0 l.length hpl
 have g2:wf n p≤hf l p*wf n p:=by
  have:=Int.mul_le_mul_of_nonneg_right (show 1≤hf l p by omega) (w0 p)
  omega
 have t:=dn hn h0 h.length
 have tp:sm (fun _=>1) (hf h) h.length≤pot n h:=YC h0 (fun i=>(vC n i).1) _
 have gr:=iI hn h.length 24
 have mo:=ml hn (h.length+2*24) (p - (h.length+2*24))
 rw [show h.length+2*24+(p - (h.length+2*24))=p by omega] at mo
 have w1:=(z5 hn h.length).1
 have k:=Int.mul_le_mul_of_nonneg_right (show sm (fun _=>1) (hf h) h.length≤15000000 by omega) (show 0≤wf n h.length by omega)
 have e2:((2 ^ 24:Nat):Int)=16777216:=by decide
 rw [e2] at gr
 have e:sm (wf n) (hf l) l.length=sm (wf n) (hf h) h.length:=e
 omega
theorem eB {n m:Int} (hn:1≤n) (hm:1≤m) {l l':List Int} {s:Stp} (l0:∀ i,0≤hf l i) (ho:Oft n s (hf l) m) (hl:l'.length=max l.length (s.2+2)) (he:∀ i,hf l' i=hf l i+m*dlt n s i):
  (∀ i,0≤hf l' i)∧hw n l'=hw n l∧pot n l'+m≤pot n l∧Walk n (hf l) (List.replicate m.toNat s) (hf l'):=by
 have ef:hf l'=fun i=>hf l i+m*dlt n s i:=funext he
 have sums:∀ w:Nat→Int,sm w (hf l') l'.length=sm w (hf l) l.length+m*ls w (chg n s):=fun w=>by
  rw [ef,rD,dq,show sm w (fun i=>dlt n s i) l'.length=_ from iN w l'.length (chg n s) (iy (by omega)),rC w (fun i hi=>yM hi) l'.length (by omega)]
 refine ⟨fun i=>?_,?_,?_,?_⟩
 ·rw [he]; exact ho.nonneg hn (by omega) l0 i
 ·show sm (wf n) (hf l') l'.length=sm (wf n) (hf l) l.length
  rw [sums,TF ho.up,Int.mul_zero,Int.add_zero]
 ·show sm (cst n) (hf l') l'.length+m≤sm (cst n) (hf l) l.length
  rw [sums]
  have:=Int.mul_le_mul_of_nonneg_left (TH hn ho.up) (show 0≤m by omega)
  omega
 ·have:=mn (n:=n) (s:=s) m.toNat (hf l) (fun j hj=>ho.can hn (by omega) (by omega))
  rw [show ((m.toNat:Nat):Int)=m from Int.toNat_of_nonneg (by omega)] at this
  rw [ef]
  exact this
theorem i7 (l:List Int) (i:Nat):hf (trim l) i=hf l i:=by
 generalize hl:l.length=m
 induction m generalizing l with
 | zero=>rw [List.length_eq_zero_iff.mp hl]; rfl
 | succ m ih=>
  rcases zO l with rfl | ⟨r,z,rfl⟩
  ·cases hl
  ·by_cases hz:z=0
   ·subst hz
    rw [xR,ih r (by rw [List.length_append] at hl; exact Nat.succ.inj hl)]
    unfold hf
    rw [List.getD_eq_getElem?_getD,List.getD_eq_getElem?_getD]
    by_cases h1:i<r.length
    ·rw [List.getElem?_append_left h1]
    ·rw [List.getElem?_eq_none (by omega)]
     rw [List.getElem?_append_right (by omega)]
     by_cases h2:i - r.length=0
     ·rw [h2]; rfl
     ·rw [List.getElem?_eq_none (by simp; omega)]
   ·rw [ud hz]
theorem Z0 (n:Int) (l:List Int):hw n (trim l)=hw n l:=by
 have e:hf (trim l)=hf l:=funext (i7 l)
 show sm (wf n) (hf (trim l)) (trim l).length=sm (wf n) (hf l) l.length
 rw [← rC (wf n) (fun i hi=>yM hi) l.length (wL l),e]
structure S9 (n:Int) (h:List Int) (ss:List Stp) (r:List Int):Prop where
 leg:Legal .falling n r
 eqw:hw n r=hw n h
 wlk:Walk n (hf h) ss (hf r)
 len:r.length≤h.length+60
 few:ss.length≤15000000
def yy (n:Int) (f:Nat→Int) (p:Nat):Option Stp:=if 0<p∧n≤f p∧0<f (p - 1) then some (true,p) else if n<f p then some (false,p) else none
theorem tW {n:Int} {f:Nat→Int} {p:Nat} (h:yy n f p=none):f p≤n∧(0<p→n≤f p→f (p - 1)≤0):=by
 unfold yy at h
 split at h
 ·cases h
 ·rename_i h1
  split at h
  ·cases h
  ·rename_i h2
   refine ⟨by omega,fun a b=>?_⟩
   rcases Int.lt_or_le 0 (f (p - 1)) with z | z
   ·exact absurd ⟨a,b,z⟩ h1
   ·exact z
theorem mr {n:Int} {f:Nat→Int} {p:Nat} {s:Stp} (h:yy n f p=some s):s.2=p∧Can n s f:=by
 unfold yy at h
 split at h
 ·rename_i h1; cases h; exact ⟨rfl,h1⟩
 ·split at h
  ·rename_i h2; cases h; exact ⟨rfl,h2⟩
  ·cases h
theorem ZX {n:Int} {l:List Int} (l0:∀ i,0≤hf l i) (h:∀ q,q<l.length→yy n (hf l) q=none):Lg .falling n l:=by
 refine ⟨fun p hp=>⟨l0 p,(tW (h p hp)).1⟩,fun _ p hp e=>?_⟩
 have:=(tW (h (p+1) hp)).2 (by omega) (by unfold hf; rw [e]; exact Int.le_refl _)
 have k:=l0 p
 rw [show p+1 - 1=p by omega] at this
 unfold hf at this k
 omega
theorem gc {n:Int} {s:Stp} {i:Nat} (h:s.2+1<i):dlt n s i=0:=by
 have key:∀ l:List (Nat × Int),(∀ x∈l,x.1<i)→vd l i=0:=by
  intro l
  induction l with
  | nil=>intro _; rfl
  | cons x l ih=>
   intro hl
   show pt x.1 x.2 i+vd l i=0
   rw [ih (fun y hy=>hl y (List.mem_cons_of_mem _ hy))]
   unfold pt
   rw [if_neg (by have:=hl x List.mem_cons_self; omega)]
   rfl
 exact key _ (iy (by omega))
theorem iG (n:Int) (r:List Int):∀ j,zY .falling n r j=.i (sm (wf n) (hf r) j)
 | 0=>rfl
 | j+1=>by
  show (zY .falling n r j).add ((Nm.i (r.getD j 0)).mul (.i (wf n j)))=_
  rw [iG n r j]
  rfl
theorem XB {n B:Int} {h:List Int} (hb:∀ z∈h,0≤z∧z≤B) (hB:0≤B):pot n h≤h.length*(B*(4*h.length+8)):=by
 have key:∀ m:Nat,m≤h.length→sm (cst n) (hf h) m≤m*(B*(4*h.length+8)):=by
  intro m
  induction m with
  | zero=>intro _; show (0:Int)≤0*_; rw [Int.zero_mul]; exact Int.le_refl _
  | succ m ih=>
   intro hm
   have ih:=ih (by omega)
   have c:=vC n m
   have f1:0≤hf h m∧hf h m≤B:=by
    unfold hf
    rw [List.getD_eq_getElem?_getD,List.getElem?_eq_getElem (by omega)]
    exact hb _ (List.getElem_mem _)
   have k1:=Int.mul_le_mul f1.2 (show cst n m≤4*(h.length:Int)+8 by omega) (by omega) hB
   show sm (cst n) (hf h) m+hf h m*cst n m≤((m+1:Nat):Int)*_
   rw [show ((m+1:Nat):Int)=(m:Int)+1 by omega,Int.add_mul,Int.one_mul]
   omega
 exact key h.length (Nat.le_refl _)
def kg:Bool→Str
 | true=>.ofString "up"
 | false=>.ofString "part"
def y4 (s:Stp):Dt:=.tup [.str (kg s.1),.int s.2]
def chD (x:Nat × Int):Dt:=.tup [.int x.1,.int x.2]
def Ud:Option Stp→Dt
 | none=>.non
 | some s=>y4 s
theorem aM {Q:Dt→Prop} {d e:Dt} (q:Q d) (h:e=d):Q e:=h ▸ q
theorem lT (a b:List (Nat × Int)) (j:Nat):vd (a++b) j=vd a j+vd b j:=by
 induction a with
 | nil=>show vd b j=0+vd b j; omega
 | cons x a ih=>show pt x.1 x.2 j+vd (a++b) j=pt x.1 x.2 j+vd a j+vd b j; omega
theorem eN {l:List (Nat × Int)} {i:Nat} {x:Nat × Int} (h:l[i]? = some x) (j:Nat):vd (l.take (i+1)) j=vd (l.take i) j+pt x.1 x.2 j:=by
 rw [List.take_succ,h,lT]
 show _+(pt x.1 x.2 j+0)=_
 omega
theorem VG {n:Int} (h1:1≤n) (h2:n≤60) {s:Stp}:∀ x∈chg n s,-1000≤x.2∧x.2≤1000:=by
 intro x hx
 have o1:(-1000:Int)≤1∧(1:Int)≤1000:=by decide
 have o2:(-1000:Int)≤-1∧(-1:Int)≤1000:=by decide
 match s,hx with
 | (true,p),hx=>
  rcases List.mem_cons.mp hx with rfl | hx
  ·exact o1
  rcases List.mem_cons.mp hx with rfl | hx
  ·show -1000≤-n∧-n≤1000; omega
  rw [List.mem_singleton.mp hx]
  exact o2
 | (false,0),hx=>
  rcases List.mem_cons.mp hx with rfl | hx
  ·exact o1
  rw [List.mem_singleton.mp hx]
  show -1000≤-n - 1∧-n - 1≤1000; omega
 | (false,1),hx=>
  rcases List.mem_cons.mp hx with rfl | hx
  ·exact o1
  rcases List.mem_cons.mp hx with rfl | hx
  ·show -1000≤-n - 1∧-n - 1≤1000; omega
  rw [List.mem_singleton.mp hx]
  show -1000≤n∧n≤1000; omega
 | (false,p+2),hx=>
  rcases List.mem_cons.mp hx with rfl | hx
  ·exact o1
  rcases List.mem_cons.mp hx with rfl | hx
  ·show -1000≤-n - 1∧-n - 1≤1000; omega
  rcases List.mem_cons.mp hx with rfl | hx
  ·show -1000≤n - 1∧n - 1≤1000; omega
  rw [List.mem_singleton.mp hx]
  exact o1
theorem Vg (l:List Int) (k i:Nat):hf (l++List.replicate k 0) i=hf l i:=by
 unfold hf
 rw [List.getD_eq_getElem?_getD,List.getD_eq_getElem?_getD]
 by_cases h:i<l.length
 ·rw [List.getElem?_append_left h]
 ·rw [List.getElem?_append_right (by omega),List.getElem?_eq_none (show l.length≤i by omega),List.getElem?_replicate]
  split <;> rfl
theorem Vf {l:List Int} {p:Nat} (h:p<l.length) (c:Int) (i:Nat):hf (l.set p (hf l p+c)) i=hf l i+pt p c i:=by
 unfold hf pt
 rw [List.getD_eq_getElem?_getD,List.getD_eq_getElem?_getD,List.getD_eq_getElem?_getD]
 by_cases e:i=p
 ·subst e
  rw [List.getElem?_set_self h,if_pos rfl]
  rfl
 ·rw [List.getElem?_set_ne (fun z=>e z.symm),if_neg e]
  omega
theorem qt {l:List Int} {p:Nat} (h:p<l.length):(l.map Dt.int)[p]? = some (.int (hf l p)):=by
 unfold hf
 rw [List.getElem?_map,List.getElem?_eq_getElem h,List.getD_eq_getElem?_getD,List.getElem?_eq_getElem h]
 rfl
theorem dH (k:Nat) (s:Stp):(List.replicate k [y4 s]).flatten=(List.replicate k s).map y4:=by
 induction k with
 | zero=>rfl
 | succ k ih=>rw [List.replicate_succ,List.flatten_cons,ih]; rfl
theorem oj (k:Nat) (s:Stp):(List.replicate k [Ud (some s)]).flatten=(List.replicate k s).map y4:=dH k s
theorem Can.pos {n:Int} (hn:1≤n) {s:Stp} {f:Nat→Int} (h:Can n s f):0<f s.2:=by
 match s,h with
 | (true,p),⟨_,h2,_⟩=>show 0<f p; omega
 | (false,p),h=>
  have h:n<f p:=h
  show 0<f p; omega
theorem Oft.le_pot {n m:Int} (hn:1≤n) {s:Stp} {l:List Int} (l0:∀ i,0≤hf l i) (hm:0≤m) (h:Oft n s (hf l) m) (hs:s.2<l.length):m≤pot n l:=by
 have a:m≤hf l s.2:=by
  match s,h with
  | (true,p),⟨_,h2,_⟩=>
   have:=Int.mul_le_mul_of_nonneg_left hn hm
   show m≤hf l p; omega
  | (false,p),h=>
   have h:m*(n+1)≤hf l p:=h
   have:=Int.mul_le_mul_of_nonneg_left (show 1≤n+1 by omega) hm
   show m≤hf l p; omega
 have b:=iM (w:=cst n) (fun i=>by have:=(vC n i).1; omega) l0 l.length hs
 have c:=Int.mul_le_mul_of_nonneg_left (vC n s.2).1 (l0 s.2)
 show m≤sm (cst n) (hf l) l.length
 omega
theorem qu (a b:Int):a=b*a.fdiv b+a.fmod b:=by have:=Int.fmod_def a b; omega
theorem hU {a b:Int} (hb:0<b):a.fdiv b*b≤a:=by
 have:=qu a b
 have:=Int.fmod_nonneg_of_pos a hb
 rw [Int.mul_comm]
 omega
theorem lK {a b:Int} (hb:0<b) (h:b≤a):1≤a.fdiv b:=by
 have e:=qu a b
 have f:=Int.fmod_lt_of_pos a hb
 rcases Int.lt_or_le 0 (a.fdiv b) with z | z
 ·exact z
 ·have:=Int.mul_le_mul_of_nonneg_left z (show 0≤b by omega)
  omega
def xA (a b:List Int):List Int:=(List.range (max a.length b.length)).map fun p=>a.getD p 0+b.getD p 0
theorem rQ (a b:List Int):(xA a b).length=max a.length b.length:=by unfold xA; rw [List.length_map,List.length_range]
theorem i8 (a b:List Int) (p:Nat):hf (xA a b) p=hf a p+hf b p:=by
 by_cases h:p<max a.length b.length
 ·unfold hf xA
  rw [List.getD_eq_getElem?_getD,List.getElem?_map,List.getElem?_range h]
  rfl
 ·rw [yM (by rw [rQ]; omega),yM (by omega),yM (by omega)]
  rfl
theorem iE (k:Kd) (n:Int) (ns:List Int):∀ j,(zY k n ns j).re=sm (fun i=>(wt k n i).re) (hf ns) j
 | 0=>zJ k
 | j+1=>by
  show ((zY k n ns j).add ((Nm.i (ns.getD j 0)).mul (wt k n j))).re=_
  rw [zM,zB,iE k n ns j]
  show _+(hf ns j*(wt k n j).re - 0*(wt k n j).im)=_
  rw [Int.zero_mul,Int.sub_zero]
  rfl
theorem iF (k:Kd) (n:Int) (ns:List Int):∀ j,(zY k n ns j).im=sm (fun i=>(wt k n i).im) (hf ns) j
 | 0=>zL k
 | j+1=>by
  show ((zY k n ns j).add ((Nm.i (ns.getD j 0)).mul (wt k n j))).im=_
  rw [zQ,zC,iF k n ns j]
  show _+(hf ns j*(wt k n j).im+0*(wt k n j).re)=_
  rw [Int.zero_mul,Int.add_zero]
  rfl
theorem rk {k:Kd} {n:Int} {r:List Int} {m:Nat} (h:r.length≤m):(zm k n r).re=sm (fun i=>(wt k n i).re) (hf r) m:=by
 rw [rC _ (fun i hi=>yM hi) m h]; exact iE k n r _
theorem rm {k:Kd} {n:Int} {r:List Int} {m:Nat} (h:r.length≤m):(zm k n r).im=sm (fun i=>(wt k n i).im) (hf r) m:=by
 rw [rC _ (fun i hi=>yM hi) m h]; exact iF k n r _
theorem qC {k:Kd} {a b:Nm} (ha:a.ty k) (hb:b.ty k):(a.add b).ty k:=wG ha (zT hb)
theorem l8 (k:Kd) (n:Int) (a b:List Int):zm k n (xA a b)=(zm k n a).add (zm k n b):=by
 have e:hf (xA a b)=fun p=>hf a p+hf b p:=funext (i8 a b)
 have hl:=rQ a b
 refine y_ (zH k n _) (qC (zH k n a) (zH k n b)) ?_ ?_
 ·rw [zM,rk (m:=(xA a b).length) (Nat.le_refl _),rk (r:=a) (m:=(xA a b).length) (by omega),rk (r:=b) (m:=(xA a b).length) (by omega),e,rD]
 ·rw [zQ,rm (m:=(xA a b).length) (Nat.le_refl _),rm (r:=a) (m:=(xA a b).length) (by omega),rm (r:=b) (m:=(xA a b).length) (by omega),e,rD]
theorem fX {k:Kd} {n:Int} {r:List Int} (hn:k.ok n) (h:Legal k n r) (hk:sw k):0≤(zm k n r).re:=by
 have:=ou hn h
 obtain ⟨a,e⟩:=xa (o0 hk) (zH k n r)
 rw [e] at this ⊢
 rcases hk with rfl | rfl <;> exact of_decide_eq_true this
theorem y7 (n:Int) (r:List Int):zm .falling n r=.i (hw n r):=iG n r r.length
theorem yV (k:Kd) (n:Int):Legal k n []:=⟨fun p h=>absurd h (Nat.not_lt_zero _),fun _ p h=>absurd h (Nat.not_lt_zero _),.inl rfl⟩
theorem p8 (k:Kd) (n:Int):zm k n []=k.zero:=rfl
theorem mG {a b:List Int} {z:Int} (h:z∈xA a b):∃ p,z=hf a p+hf b p:=by
 unfold xA at h
 obtain ⟨p,_,rfl⟩:=List.mem_map.mp h
 exact ⟨p,rfl⟩
theorem Z5 {k:Kd} {n:Int} {r:List Int} (hn:k.ok n) (h:Legal k n r) (hl:r.length≤2000) (p:Nat):(hf r p).natAbs≤4000:=by
 by_cases hp:p<r.length
 ·refine tN hn h hl _ ?_
  unfold hf
  rw [List.getD_eq_getElem?_getD,List.getElem?_eq_getElem hp]
  exact List.getElem_mem _
 ·rw [yM (by omega)]; decide
theorem xx {n:Int} {r:List Int} (hn:Kd.falling.ok n) (h:Legal .falling n r) (p:Nat):0≤hf r p∧hf r p≤n:=by
 by_cases hp:p<r.length
 ·exact h.fig p hp
 ·have:=hn.1
  rw [yM (by omega)]
  exact ⟨Int.le_refl _,by show 0≤n; simp only [Kd.lo] at this; omega⟩
theorem aD {k:Kd} {a b:Nm} (ha:tot k a) (hb:tot k b):tot k (a.add b):=fun hk=>by
 obtain ⟨x,rfl⟩:=ha hk
 obtain ⟨y,rfl⟩:=hb hk
 exact ⟨_,rfl⟩
def xV (a b:List Nm):List Nm:=(List.range (max a.length b.length)).map fun p=>(a.getD p (.i 0)).add (b.getD p (.i 0))
theorem wY (a b:List Nm):(xV a b).length=max a.length b.length:=by unfold xV; rw [List.length_map,List.length_range]
theorem c9 (a b:List Nm) (p:Nat):(xV a b).getD p (.i 0)=(a.getD p (.i 0)).add (b.getD p (.i 0)):=by
 by_cases h:p<max a.length b.length
 ·unfold xV
  rw [List.getD_eq_getElem?_getD,List.getElem?_map,List.getElem?_range h]
  rfl
 ·have e:∀ {l:List Nm},l.length≤p→l.getD p (.i 0)=.i 0:=fun h=>by rw [List.getD_eq_getElem?_getD,List.getElem?_eq_none h]; rfl
  rw [e (by rw [wY]; omega),e (by omega),e (by omega)]
  rfl
theorem lw {a b:List Nm} {t:Nm} (h:t∈xV a b):∃ p,t=(a.getD p (.i 0)).add (b.getD p (.i 0)):=by
 unfold xV at h
 obtain ⟨p,_,rfl⟩:=List.mem_map.mp h
 exact ⟨p,rfl⟩
theorem uk {k:Kd} {a b:List Nm} (ha:∀ t∈a,tot k t) (hb:∀ t∈b,tot k t):∀ t∈xV a b,tot k t:=fun t h=>by
 obtain ⟨p,rfl⟩:=lw h
 exact aD (y3 ha p) (y3 hb p)
theorem iK (k:Kd) (n:Int) (a b:List Nm):∀ j,(wN k n (xV a b) j).re=(wN k n a j).re+(wN k n b j).re∧(wN k n (xV a b) j).im=(wN k n a j).im+(wN k n b j).im
 | 0=>by
  show (k.zero).re=(k.zero).re+(k.zero).re∧(k.zero).im=(k.zero).im+(k.zero).im
  rw [zJ,zL]
  exact ⟨rfl,rfl⟩
 | j+1=>by
  obtain ⟨h1,h2⟩:=iK k n a b j
  unfold wN
  rw [c9]
  simp only [zM,zQ,zB,zC,h1,h2]
  constructor <;> grind
theorem p9 {k:Kd} {n:Int} {a:List Nm} (ha:∀ t∈a,tot k t) {m:Nat} (h:a.length≤m):wN k n a m=yc k n a:=by
 obtain ⟨d,rfl⟩:∃ d,m=a.length+d:=⟨m - a.length,by omega⟩
 exact ka ha d
theorem wJ {k:Kd} {n:Int} {a b:List Nm} (ha:∀ t∈a,tot k t) (hb:∀ t∈b,tot k t):yc k n (xV a b)=(yc k n a).add (yc k n b):=by
 have hl:=wY a b
 obtain ⟨h1,h2⟩:=iK k n a b (xV a b).length
 rw [p9 ha (by omega),p9 hb (by omega)] at h1 h2
 exact y_ (rn (uk ha hb) _) (qC (rn ha _) (rn hb _)) (h1.trans (zM ..).symm) (h2.trans (zQ ..).symm)
theorem tD (a b:List Int):xV (a.map Nm.i) (b.map Nm.i)=(xA a b).map Nm.i:=by
 have e:∀ (l:List Int) (p:Nat),(l.map Nm.i).getD p (.i 0)=.i (l.getD p 0):=fun l p=>by
  rw [List.getD_eq_getElem?_getD,List.getD_eq_getElem?_getD,List.getElem?_map]
  cases l[p]? <;> rfl
 unfold xV xA
 rw [List.map_map,List.length_map,List.length_map]
 refine List.map_congr_left fun p _=>?_
 rw [e,e]
 rfl
theorem oO (r:List Int):zE r=se (r.map Nm.i):=by unfold zE se; rw [db]
theorem wu {k:Kd} {t w:Nm} (ht:t.ty k) (hw:tot k w):(t.mul w).ty k:=by
 by_cases hk:k=.pairs
 ·subst hk
  obtain ⟨a,b,rfl⟩:=ht
  cases w <;> exact ⟨_,_,rfl⟩
 ·obtain ⟨a,rfl⟩:=hw hk
  obtain ⟨b,rfl⟩:=xa hk ht
  exact x9 hk
def yP (a:List Int) (f:Nm):List Nm:=a.map fun z=>(Nm.i z).mul f
theorem xT (a:List Int) (f:Nm):(yP a f).length=a.length:=List.length_map _
theorem wT {k:Kd} {a:List Int} {f:Nm} (hf:tot k f):∀ t∈yP a f,tot k t:=fun t h hk=>by
 obtain ⟨z,_,rfl⟩:=List.mem_map.mp h
 obtain ⟨y,rfl⟩:=hf hk
 exact ⟨_,rfl⟩
theorem dF (a:List Int) (f:Nm) {p:Nat} (h:p<a.length):(yP a f).getD p (.i 0)=(Nm.i (a.getD p 0)).mul f:=by
 unfold yP
 rw [List.getD_eq_getElem?_getD,List.getElem?_map,List.getD_eq_getElem?_getD,List.getElem?_eq_getElem h]
 rfl
theorem dD (a:List Int) (f:Nm) {p:Nat} (h:a.length≤p):(yP a f).getD p (.i 0)=.i 0:=by
 rw [List.getD_eq_getElem?_getD,List.getElem?_eq_none (by rw [xT]; exact h)]
 rfl
theorem oX (a:List Int) (f:Nm) (p:Nat):((yP a f).getD p (.i 0)).re=hf a p*f.re∧((yP a f).getD p (.i 0)).im=hf a p*f.im:=by
 by_cases h:p<a.length
 ·rw [dF a f h,zB,zC]
  show a.getD p 0*f.re - 0*f.im=_∧a.getD p 0*f.im+0*f.re=_
  rw [Int.zero_mul,Int.zero_mul,Int.sub_zero,Int.add_zero]
  exact ⟨rfl,rfl⟩
 ·rw [dD a f (by omega),yM (by omega),Int.zero_mul,Int.zero_mul]
  exact ⟨rfl,rfl⟩
theorem iJ (k:Kd) (n:Int) (a:List Int) (f:Nm):∀ j,(wN k n (yP a f) j).re=(zY k n a j).re*f.re - (zY k n a j).im*f.im∧(wN k n (yP a f) j).im=(zY k n a j).re*f.im+(zY k n a j).im*f.re
 | 0=>by
  show (k.zero).re=(k.zero).re*_ - (k.zero).im*_∧(k.zero).im=(k.zero).re*_+(k.zero).im*_
  rw [zJ,zL,Int.zero_mul,Int.zero_mul]
  exact ⟨rfl,rfl⟩
 | j+1=>by
  obtain ⟨h1,h2⟩:=iJ k n a f j
  obtain ⟨r1,r2⟩:=oX a f j
  unfold wN zY
  simp only [zM,zQ,zB,zC,h1,h2,r1,r2]
  show _=(_+(hf a j*_ - 0*_))*_ - (_+(hf a j*_+0*_))*_∧_=(_+(hf a j*_ - 0*_))*_+(_+(hf a j*_+0*_))*_
  constructor <;> grind
theorem xD {k:Kd} {n:Int} (a:List Int) {f:Nm} (hf:tot k f):yc k n (yP a f)=(zm k n a).mul f:=by
 obtain ⟨h1,h2⟩:=iJ k n a f a.length
 have e:yc k n (yP a f)=wN k n (yP a f) a.length:=by unfold yc; rw [xT]
 rw [e]
 exact y_ (rn (wT hf) _) (wu (zH k n a) hf) (h1.trans (zB ..).symm) (h2.trans (zC ..).symm)
def hv (k:Kd) (n:Int) (o:List Int):Nat→Nat→Nm
 | 0,_=>k.zero
 | m+1,p=>(Nm.i (o.getD p 0)).add ((k.ratN n p).mul (hv k n o m (p+1)))
theorem sY (k:Kd) (n:Int) (p:Int):tot k (k.ratN n p):=fun hk=>by cases k <;> first | exact ⟨_,rfl⟩ | exact absurd rfl hk
theorem i6 (k:Kd) (n:Int) (o:List Int):∀ m p,(hv k n o m p).ty k
 | 0,_=>yw k
 | m+1,p=>by
  have h:=vW (sY k n p) (i6 k n o m (p+1))
  unfold hv
  by_cases hk:k=.pairs
  ·subst hk
   obtain ⟨a,b,e⟩:=h
   rw [e]
   exact ⟨_,_,rfl⟩
  ·obtain ⟨a,e⟩:=xa hk h
   rw [e]
   exact x9 hk
theorem lF {k:Kd} {n:Int} {o:List Int} (h5:k.five=true):∀ m p,p+m=o.length→(zm k n o).re=(zY k n o p).re+((wt k n p).re*(hv k n o m p).re - (wt k n p).im*(hv k n o m p).im)∧(zm k n o).im=(zY k n o p).im+((wt k n p).re*(hv k n o m p).im+(wt k n p).im*(hv k n o m p).re)
 | 0,p,h=>by
  obtain rfl:p=o.length:=h
  show (zY k n o o.length).re=_+(_*(k.zero).re - _*(k.zero).im)∧(zY k n o o.length).im=_+(_*(k.zero).im+_*(k.zero).re)
  rw [zJ,zL,Int.mul_zero,Int.mul_zero]
  constructor <;> omega
 | m+1,p,h=>by
  obtain ⟨h1,h2⟩:=lF (n:=n) (o:=o) h5 m (p+1) (by omega)
  rw [h1,h2,yg h5]
  have e0:hv k n o (m+1) p=(Nm.i (o.getD p 0)).add ((k.ratN n p).mul (hv k n o m (p+1))):=rfl
  rw [e0]
  simp only [zM,zQ,zB,zC]
  have e:zY k n o (p+1)=(zY k n o p).add ((Nm.i (o.getD p 0)).mul (wt k n p)):=rfl
  rw [e]
  simp only [zM,zQ,zB,zC]
  have i1:(Nm.i (o.getD p 0)).re=o.getD p 0:=rfl
  have i2:(Nm.i (o.getD p 0)).im=0:=rfl
  rw [i1,i2]
  generalize hv k n o m (p+1)=V
  generalize k.ratN n p=R
  generalize wt k n p=W
  generalize zY k n o p=S
  constructor <;> grind
theorem jK {k:Kd} {n:Int} {o:List Int} (h5:k.five=true):zm k n o=hv k n o o.length 0:=by
 obtain ⟨h1,h2⟩:=lF (n:=n) (o:=o) h5 o.length 0 (Nat.zero_add _)
 have z1:(zY k n o 0).re=0:=zJ k
 have z2:(zY k n o 0).im=0:=zL k
 have e:wt k n 0=k.zero.add (.i 1):=by cases k <;> first | rfl | cases h5
 have r1:(wt k n 0).re=1:=by rw [e,zM,zJ]; rfl
 have r2:(wt k n 0).im=0:=by rw [e,zQ,zL]; rfl
 rw [z1,r1,r2] at h1
 rw [z2,r1,r2] at h2
 exact y_ (zH k n o) (i6 k n o _ _) (by omega) (by omega)
theorem YM {k:Kd} {n:Int} {o:List Int} (hk:sw k) (hn:k.ok n) (h:∀ p,0≤hf o p):∀ m p,0≤(hv k n o m p).re∧(hv k n o m p).im=0
 | 0,p=>by
  show 0≤(k.zero).re∧(k.zero).im=0
  rw [zJ,zL]
  exact ⟨Int.le_refl _,rfl⟩
 | m+1,p=>by
  obtain ⟨a,b⟩:=YM hk hn h m (p+1)
  obtain ⟨b1,b2⟩:=xu hn
  unfold hv
  rw [zM,zQ,zB,zC,b]
  have h0:0≤o.getD p 0:=h p
  have hr:0≤(k.ratN n p).re∧(k.ratN n p).im=0:=by
   rcases hk with rfl | rfl
   ·exact ⟨by show 0≤n; omega,rfl⟩
   ·exact ⟨by show 0≤n+(p:Int); omega,rfl⟩
  rw [hr.2]
  have:=Int.mul_nonneg hr.1 a
  show 0≤o.getD p 0+(_ - 0*0)∧0+(_*0+0*_)=0
  simp only [Int.mul_zero,Int.zero_mul]
  exact ⟨by omega,rfl⟩
theorem Z6 {k:Kd} {n:Int} {o:List Int} (hn:k.ok n) (h:Legal k n o) (hl:o.length≤63) (p:Nat):(hf o p).natAbs≤122∧(k=.pairs→(hf o p).natAbs≤81):=by
 by_cases hp:p<o.length
 ·have f:=h.fig p hp
  unfold hf
  obtain ⟨h1,h2⟩:=hn
  generalize o.getD p 0=z at *
  cases k <;> simp only [Kd.low,Kd.high,Kd.lo,Kd.hi] at * <;> first | (refine ⟨by omega,fun h=>by cases h⟩) | (have:=Int.mul_le_mul h2 h2 (by omega) (by omega); exact ⟨by omega,fun _=>by omega⟩)
 ·rw [yM (by omega)]
  exact ⟨by decide,fun _=>by decide⟩
theorem yW {x c:Int} {y A:Nat} (h:c.natAbs≤A) (hy:x.natAbs≤y):(c*x).natAbs≤A*y:=by rw [Int.natAbs_mul]; exact Nat.mul_le_mul h hy
theorem jJ {k:Kd} {n:Int} {o:List Int} (h4:k.four=true) (hn:k.ok n) (hf7:∀ p,(hf o p).natAbs≤122):∀ m p,p+m≤63→(hv k n o m p).re.natAbs≤2 ^ (7*m+5)∧(hv k n o m p).im=0
 | 0,p,_=>by
  show (k.zero).re.natAbs≤_∧(k.zero).im=0
  rw [zJ,zL]
  exact ⟨Nat.zero_le _,rfl⟩
 | m+1,p,hp=>by
  obtain ⟨a,b⟩:=jJ h4 hn hf7 m (p+1) (by omega)
  unfold hv
  rw [zM,zQ,zB,zC,b]
  have h0:(o.getD p 0).natAbs≤122:=hf7 p
  have hr:(k.ratN n p).re.natAbs≤123∧(k.ratN n p).im=0:=by
   obtain ⟨h1,h2⟩:=hn
   cases k <;> simp only [Kd.lo,Kd.hi] at h1 h2 <;> first | exact ⟨by simp only [Kd.ratN,Kd.rat,Nm.re]; omega,rfl⟩ | cases h4
  rw [hr.2]
  have m1:=yW hr.1 a
  have e:2 ^ (7*(m+1)+5)=128*2 ^ (7*m+5):=by rw [show 7*(m+1)+5=7+(7*m+5) by omega,Nat.pow_add]
  have e2:32≤2 ^ (7*m+5):=Nat.le_trans (show 32≤2 ^ 5 by decide) (Nat.pow_le_pow_right (by decide) (by omega))
  rw [e]
  generalize 2 ^ (7 * m + 5)=X at *
  generalize (k.ratN n p).re * (hv k n o m (p + 1)).re=Y at *
  show (o.getD p 0+(Y - 0*0)).natAbs≤_∧0+(_*0+0*_)=(0:Int)
  simp only [Int.mul_zero,Int.zero_mul]
  exact ⟨by omega,rfl⟩
theorem jI {n:Int} {o:List Int} (hn:Kd.pairs.ok n) (hf7:∀ p,(hf o p).natAbs≤81):∀ m p,(hv .pairs n o m p).re.natAbs≤2 ^ (4*m+4)∧(hv .pairs n o m p).im.natAbs≤2 ^ (4*m+4)
 | 0,p=>⟨Nat.zero_le _,Nat.zero_le _⟩
 | m+1,p=>by
  obtain ⟨a,b⟩:=jI hn hf7 m (p+1)
  unfold hv
  rw [zM,zQ,zB,zC]
  have h0:(o.getD p 0).natAbs≤81:=hf7 p
  have n1:(1:Int)≤n:=hn.1
  have n9:n≤9:=hn.2
  have hr:(Kd.ratN .pairs n p).re.natAbs≤9:=by show (-n).natAbs≤9; omega
  have hi:(Kd.ratN .pairs n p).im.natAbs≤1:=Nat.le_refl 1
  have m1:=yW hr a
  have m2:=yW hr b
  have m3:=yW hi a
  have m4:=yW hi b
  have e:2 ^ (4*(m+1)+4)=16*2 ^ (4*m+4):=by rw [show 4*(m+1)+4=4+(4*m+4) by omega,Nat.pow_add]
  have e2:16≤2 ^ (4*m+4):=Nat.le_trans (show 16≤2 ^ 4 by decide) (Nat.pow_le_pow_right (by decide) (by omega))
  rw [e]
  generalize 2 ^ (4 * m + 4)=X at *
  generalize (Kd.ratN .pairs n p).re * (hv .pairs n o m (p + 1)).re=Y1 at *
  generalize (Kd.ratN .pairs n p).re * (hv .pairs n o m (p + 1)).im=Y2 at *
  generalize (Kd.ratN .pairs n p).im * (hv .pairs n o m (p + 1)).re=Y3 at *
  generalize (Kd.ratN .pairs n p).im * (hv .pairs n o m (p + 1)).im=Y4 at *
  show (o.getD p 0+(Y1 - Y4)).natAbs≤_∧(0+(Y2+Y3)).natAbs≤_
  exact ⟨by omega,by omega⟩
theorem ot {k:Kd} {n:Int} {r:List Int} {b:Nat} (h5:k.five=true) (hn:k.ok n) (h:Legal k n r) (hb:(zm k n r).re.natAbs≤2 ^ b∧(zm k n r).im.natAbs≤2 ^ b) (b7:7≤b):r.length≤4*b+31∧(k≠.pairs→r.length≤b+4):=by
 have hh:=ou hn h
 obtain ⟨J,F,h1,h2⟩:=du h5 hn hh hb b7
 have ht:∀ t∈[zm k n r],tot k t:=fun t h=>by rw [List.mem_singleton.mp h]; exact zT (zH k n r)
 have e:gM k n [zm k n r] J=r:=kb hn (rG h5 hn ht) h (by rw [rF F h5 hn ht,l9 (zH k n r) h5])
 have l:=wL (wx k n [zm k n r] J)
 rw [w8] at l
 have l2:r.length≤J:=by
  have:(gM k n [zm k n r] J).length≤J:=l
  rw [e] at this
  exact this
 exact ⟨by omega,fun z=>by have:=h2 z; omega⟩
def few (k:Kd) (x y:Nat):Prop:=x≤63∧y≤63∧x+y≤100∧(k=.pairs→x+y≤50)
theorem dS {k:Kd} {n:Int} {a o r:List Int} {m p:Nat} (h5:k.five=true) (hn:k.ok n) (ha:Legal k n a) (ho:Legal k n o) (hp:p+m=o.length) (hw:few k a.length o.length) (hr:Legal k n r) (e:zm k n r=(zm k n a).mul (hv k n o m p)):r.length≤870:=by
 obtain ⟨w1,w2,w3,w4⟩:=hw
 have fa:=Z6 hn ha w1
 have fo:=Z6 hn ho w2
 by_cases hk:k=.pairs
 ·subst hk
  have:=w4 rfl
  obtain ⟨a1,a2⟩:=jI hn (fun p=>(fa p).2 rfl) a.length 0
  obtain ⟨o1,o2⟩:=jI hn (fun p=>(fo p).2 rfl) m p
  rw [← jK rfl] at a1 a2
  have:=ot (b:=209) rfl hn hr (by
   rw [e,zB,zC]
   have m1:=yW a1 o1
   have m2:=yW a2 o2
   have m3:=yW a1 o2
   have m4:=yW a2 o1
   have q:2 ^ (4*a.length+4)*2 ^ (4*m+4)≤2 ^ 208:=by rw [← Nat.pow_add]; exact Nat.pow_le_pow_right (by decide) (by omega)
   have q2:2 ^ 209=2*2 ^ 208:=by decide
   rw [q2]
   generalize 2 ^ 208=X at *
   generalize 2 ^ (4 * a.length + 4) * 2 ^ (4 * m + 4)=Z at *
   exact ⟨by omega,by omega⟩) (by decide)
  omega
 ·have h4:=uq h5 hk
  obtain ⟨a1,a2⟩:=jJ h4 hn (fun p=>(fa p).1) a.length 0 (by omega)
  obtain ⟨o1,o2⟩:=jJ h4 hn (fun p=>(fo p).1) m p (by omega)
  rw [← jK h5] at a1 a2
  have:=(ot (b:=710) h5 hn hr (by
   rw [e,zB,zC,a2,o2,Int.mul_zero,Int.mul_zero,Int.zero_mul]
   have m1:=yW a1 o1
   have q:2 ^ (7*a.length+5)*2 ^ (7*m+5)≤2 ^ 710:=by rw [← Nat.pow_add]; exact Nat.pow_le_pow_right (by decide) (by omega)
   exact ⟨by rw [Int.sub_zero]; exact Nat.le_trans m1 q,Nat.zero_le _⟩) (by decide)).2 hk
  omega
def fb (n:Int) (o:List Int) (L:Nat):Nat→Int × Int
 | 0=>(0,0)
 | m+1=>((fb n o L m).2,hf o (L - (m+1))+n*(fb n o L m).2+(fb n o L m).1)
theorem lL {n:Int} {o:List Int}:∀ m p,p+m=o.length→hw n o=sm (wf n) (hf o) p+(fb n o o.length m).2*(wtF n p).2+(fb n o o.length m).1*(wtF n p).1
 | 0,p,h=>by
  obtain rfl:p=o.length:=h
  show hw n o=hw n o+0*_+0*_
  rw [Int.zero_mul,Int.zero_mul]
  omega
 | m+1,p,h=>by
  rw [lL m (p+1) (by omega)]
  have e1:sm (wf n) (hf o) (p+1)=sm (wf n) (hf o) p+hf o p*(wtF n p).2:=rfl
  have e2:wtF n (p+1)=((wtF n p).2,n*(wtF n p).2+(wtF n p).1):=rfl
  have e3:fb n o o.length (m+1)=((fb n o o.length m).2,hf o p+n*(fb n o o.length m).2+(fb n o o.length m).1):=by
   show (_,hf o (o.length - (m+1))+_+_)=_
   rw [show o.length - (m+1)=p by omega]
  rw [e1,e2,e3]
  generalize sm (wf n) (hf o) p=S
  generalize fb n o o.length m=B
  generalize wtF n p=W
  grind
theorem j7 (n:Int) (o:List Int):hw n o=(fb n o o.length o.length).2+(fb n o o.length o.length).1:=by
 rw [lL o.length 0 (Nat.zero_add _)]
 show 0+_*1+_*1=_
 omega
theorem YQ {n:Int} {o:List Int} (L:Nat) (n1:1≤n) (h:∀ p,0≤hf o p∧hf o p≤n):∀ m,0≤(fb n o L m).1∧0≤(fb n o L m).2∧(fb n o L m).1+1≤(wtF n m).1∧(fb n o L m).2+1≤(wtF n m).2
 | 0=>⟨Int.le_refl _,Int.le_refl _,Int.le_refl _,Int.le_refl _⟩
 | m+1=>by
  obtain ⟨a,b,c,d⟩:=YQ L n1 h m
  obtain ⟨f1,f2⟩:=h (L - (m+1))
  have m1:=Int.mul_nonneg (show 0≤n by omega) b
  have m2:=Int.mul_le_mul_of_nonneg_left d (show 0≤n by omega)
  rw [Int.mul_add,Int.mul_one] at m2
  have e:fb n o L (m+1)=((fb n o L m).2,hf o (L - (m+1))+n*(fb n o L m).2+(fb n o L m).1):=rfl
  have e2:wtF n (m+1)=((wtF n m).2,n*(wtF n m).2+(wtF n m).1):=rfl
  rw [e,e2]
  exact ⟨b,by dsimp only; omega,d,by dsimp only; omega⟩
theorem eZ {n:Int} (n1:1≤n) (i:Nat):∀ j,wf n i*wf n j≤wf n (i+j+1)∧wf n i*wf n (j+1)≤wf n (i+j+2)
 | 0=>by
  obtain ⟨p1,p2⟩:=z5 n1 i
  rw [qF,mm,Int.mul_one,Nat.add_zero,uD,Int.mul_add,Int.mul_one,Int.mul_comm _ n]
  have:=Int.mul_le_mul_of_nonneg_left p2 (show 0≤n by omega)
  exact ⟨p2,by omega⟩
 | j+1=>by
  obtain ⟨a,b⟩:=eZ n1 i j
  refine ⟨b,?_⟩
  have e1:wf n (j+1+1)=n*wf n (j+1)+wf n j:=uD n j
  have e2:wf n (i+(j+1)+2)=n*wf n (i+j+2)+wf n (i+j+1):=uD n (i+j+1)
  rw [e1,e2,Int.mul_add]
  have:=Int.mul_le_mul_of_nonneg_left b (show 0≤n by omega)
  have e3:wf n i*(n*wf n (j+1))=n*(wf n i*wf n (j+1)):=by grind
  omega
theorem VP {n:Int} (n1:1≤n) {i j:Nat} (h:i<j):wf n i<wf n j:=by
 induction j with
 | zero=>exact absurd h (Nat.not_lt_zero _)
 | succ j ih=>
  have s:wf n j<wf n (j+1):=by
   cases j with
   | zero=>rw [qF,mm]; omega
   | succ q=>
    have p1:=(z5 n1 q).1
    have p2:=(z5 n1 (q+1)).1
    rw [uD]
    have:=Int.mul_le_mul_of_nonneg_right n1 (show 0≤wf n (q+1) by omega)
    omega
  rcases Nat.lt_or_ge i j with z | z
  ·exact Int.lt_trans (ih z) s
  ·obtain rfl:i=j:=by omega
   exact s
theorem lM {n:Int} {r:List Int} {M:Nat} (hn:Kd.falling.ok n) (h:Legal .falling n r) (hb:hw n r≤wf n M):r.length≤M+1:=by
 have n1:1≤n:=hn.1
 rcases Nat.lt_or_ge (M+1) r.length with z | z
 ·have f:=xx hn h
  have g:=iM (w:=wf n) (f:=hf r) (fun i=>by have:=(z5 n1 i).1; omega) (fun i=>(f i).1) (i:=r.length - 1) r.length (by omega)
  have hne:hf r (r.length - 1)≠0:=by
   rcases h.end_ with q | q
   ·rw [q] at z; exact absurd z (Nat.not_lt_zero _)
   ·exact q
  have f0:=(f (r.length - 1)).1
  have:=Int.mul_le_mul_of_nonneg_right (show 1≤hf r (r.length - 1) by omega) (show 0≤wf n (r.length - 1) by have:=(z5 n1 (r.length - 1)).1; omega)
  have l:=VP n1 (show M<r.length - 1 by omega)
  have hb':sm (wf n) (hf r) r.length≤wf n M:=hb
  omega
 ·exact z
theorem bF {n:Int} {o:List Int} (L:Nat) (n1:1≤n) (h:∀ p,0≤hf o p∧hf o p≤n) (m:Nat):0≤(fb n o L m).2∧(fb n o L m).2≤wf n m∧0≤(fb n o L m).2+(fb n o L m).1∧(fb n o L m).2+(fb n o L m).1≤wf n (m+1):=by
 obtain ⟨a,b,c,d⟩:=YQ L n1 h m
 have e:wf n (m+1)=n*(wtF n m).2+(wtF n m).1:=rfl
 have d':(fb n o L m).2+1≤wf n m:=d
 have:=Int.mul_le_mul_of_nonneg_right n1 (show 0≤(wtF n m).2 by omega)
 exact ⟨b,by omega,by omega,by omega⟩
theorem bc {n x y:Int} {i j:Nat} (n1:1≤n) (x0:0≤x) (hx:x≤wf n i) (y0:0≤y) (hy:y≤wf n j):0≤x*y∧x*y≤wf n (i+j+1):=by
 have p:=(z5 n1 i).1
 exact ⟨Int.mul_nonneg x0 y0,Int.le_trans (Int.mul_le_mul hx hy y0 (by omega)) (eZ n1 i j).1⟩
theorem iT {n B:Int} {h:List Int} (hb:∀ z∈h,0≤z∧z≤B) (h0:0≤B) (hB:B≤180) (hl:h.length≤110):pot n h≤15000000:=by
 have p:=XB (n:=n) hb h0
 have k1:=Int.mul_le_mul hB (show 4*(h.length:Int)+8≤448 by omega) (by omega) (by decide)
 have k2:=Int.mul_le_mul (show (h.length:Int)≤110 by omega) k1 (Int.mul_nonneg h0 (by omega)) (by decide)
 omega
theorem bb {k:Kd} {m:Nm} (h:m.ty k):m.mul k.zero=k.zero:=by
 refine y_ (wu h (zT (yw k))) (yw k) ?_ ?_
 ·rw [zB,zJ,zL,Int.mul_zero,Int.mul_zero]; rfl
 ·rw [zC,zJ,zL,Int.mul_zero,Int.mul_zero]; rfl
theorem Z1 {k:Kd} {A V R:Nm} {o:Int} (hA:A.ty k) (hV:V.ty k) (hR:tot k R) (h2:((Nm.i o).add (R.mul V)).ty k):((A.mul V).mul R).add (A.mul (.i o))=A.mul ((Nm.i o).add (R.mul V)):=by
 refine y_ (qC (wu (wu hA (zT hV)) hR) (wu hA (vJ k o))) (wu hA (zT h2)) ?_ ?_
 all_goals
  simp only [zM,zQ,zB,zC]
  have i1:(Nm.i o).re=o:=rfl
  have i2:(Nm.i o).im=0:=rfl
  rw [i1,i2]
  grind
def lC (a:List Int) (c:Int):List Int:=a.map (· * c)
theorem dE (a:List Int) (c:Int):yP a (.i c)=(lC a c).map Nm.i:=by unfold yP lC; rw [List.map_map]; rfl
theorem i9 (a:List Int) (c:Int) (p:Nat):hf (lC a c) p=hf a p*c:=by
 unfold hf lC
 rw [List.getD_eq_getElem?_getD,List.getD_eq_getElem?_getD,List.getElem?_map]
 cases a[p]? with
 | none=>show (0:Int)=0*c; rw [Int.zero_mul]
 | some z=>rfl
theorem Xs {k:Kd} {n:Int} {p:Nat} (hn:k.ok n) (h:p≤63):(k.ratN n p).re.natAbs≤200∧(k.ratN n p).im.natAbs≤200:=by
 obtain ⟨b1,b2⟩:=xu hn
 cases k <;> simp only [Kd.ratN,Kd.rat,Nm.re,Nm.im] <;> omega
theorem gG {a:List Int} {i:Nat} (h:i<a.length):a.take (i+1)=a.take i++[a.getD i 0]:=by
 rw [List.take_succ,List.getD_eq_getElem?_getD,List.getElem?_eq_getElem h]
 rfl
def Fg (k:Kd) (n:Int) (r:List Int):Prop:=∀ p,p<r.length→k.low n p≤r.getD p 0∧r.getD p 0≤k.high n p
theorem Fg.put {k:Kd} {n:Int} {r:List Int} (hn:k.ok n) (h:Fg k n r) (j:Nat):Fg k n (r.set j 0):=fun p hp=>by
 rw [List.length_set] at hp
 by_cases q:j=p
 ·subst q
  rw [yE hp]
  exact tF hn j
 ·rw [yD q]
  exact h p hp
def Fl (k:Kd) (n:Int) (r:List Int) (i:Nat):Prop:=k.isF=true→∀ q:Nat,r.length≤q+1+i→q+1<r.length→r.getD (q+1) 0=n→r.getD q 0=0
theorem Fl.put {k:Kd} {n:Int} {r:List Int} {i j:Nat} (hn:k.ok n) (h:Fl k n r i) (hj:j+i<r.length):Fl k n (r.set j 0) i:=fun hk q h1 h2 h3=>by
 rw [List.length_set] at h1 h2
 by_cases e:j=q
 ·subst e; rw [yE (by omega)]
 ·rw [yD e]
  by_cases e2:j=q+1
  ·subst e2
   rw [yE (by omega)] at h3
   have:=hn.1
   cases k <;> simp only [Kd.lo] at this <;> first | omega | cases hk
  ·rw [yD e2] at h3
   exact h hk q h1 h2 h3
theorem Fg.snoc {k:Kd} {n f:Int} {r:List Int} {i:Nat} (hlr:r.length=i) (hp:∀ p,p<i→k.low n p≤r.getD p 0∧r.getD p 0≤k.high n p) (hf:k.low n i≤f∧f≤k.high n i):
  ∃ r':List Int,r.map Dt.int++[.int f]=r'.map Dt.int∧r'.length=i+1∧∀ p,p<i+1→k.low n p≤r'.getD p 0∧r'.getD p 0≤k.high n p:=by
 refine ⟨r++[f],by rw [List.map_append]; rfl,by rw [List.length_append,hlr]; rfl,fun p hp'=>?_⟩
 rcases (by omega:p<i∨p=i) with z | z
 ·rw [zS (by omega)]
  exact hp p z
 ·subst z
  rw [← hlr,getD_snoc_eq,hlr]
  exact hf
def n6:DSp:=fun ds Q=>∃ z,ds=[.int z]∧∀ r:Int,0≤r→Q (.int r)
def au:DSp:=fun ds Q=>∃ z,ds=[.int z]∧∀ k n,Kd.ok k n→Q (.tup [.int (Kd.num k),.int n])
def iC:DSp:=fun ds Q=>∃ k n,∃ p:Nat,ds=[.int (Kd.num k),.int n,.int p]∧Kd.ok k n∧Q (.tup [.int (k.low n p),.int (k.high n p)])
def gz:DSp:=fun ds Q=>∃ k n cs,ds=[.int (Kd.num k),.int n,zE cs]∧Kd.ok k n∧cs.length≤1000∧∀ r,Legal k n r→r.length≤cs.length→Q (zE r)
def aw:DSp:=fun ds Q=>∃ k n r,ds=[.int (Kd.num k),.int n,zE r]∧Kd.ok k n∧Legal k n r∧r.length≤1000∧Q (.bl true)
def gu:DSp:=fun ds Q=>∃ k n,∃ j:Nat,∃ lo:Dt,ds=[.int (Kd.num k),.int n,.int j,(wt k n j).dt,lo]∧Kd.ok k n∧j≤1000∧(k=.falling→lo=.int (wtF n j).1)∧Q (wt k n (j+1)).dt
def av:DSp:=fun ds Q=>∃ k n r,ds=[.int (Kd.num k),.int n,zE r]∧Kd.ok k n∧r.length≤1000∧bdR r∧Q (zm k n r).dt
theorem bE {k:Kd} {n m:Int} {p:Nat} (hn:k.ok n) (h0:0≤m.fmod 9) (h5:m.fmod 9<5):∃ f,atI [Dt.int 0,.int (k.high n p),.int (k.low n p),.int (k.high n p),.int 1] (m.fmod 9)=some (.int f)∧k.low n p≤f∧f≤k.high n p:=by
 obtain ⟨l1,l2⟩:=tF hn p
 have h1:(1:Int)≤k.high n p:=by
  obtain ⟨a,b⟩:=hn
  cases k <;> simp only [Kd.lo,Kd.hi,Kd.high] at * <;> first | omega | (have:=Int.mul_le_mul a a (by omega) (by omega); omega)
 rcases (by omega:m.fmod 9=0∨m.fmod 9=1∨m.fmod 9=2∨m.fmod 9=3∨m.fmod 9=4) with e | e | e | e | e <;> rw [e]
 ·exact ⟨0,rfl,l1,l2⟩
 ·exact ⟨_,rfl,by omega,Int.le_refl _⟩
 ·exact ⟨_,rfl,Int.le_refl _,by omega⟩
 ·exact ⟨_,rfl,by omega,Int.le_refl _⟩
 ·exact ⟨1,rfl,by omega,h1⟩
def Xb:DSp:=fun ds Q=>∃ ns k n m,ds=[.scr ns,.int (Kd.num k),.int n,.int m]∧Kd.ok k n∧ns.length≤63∧0≤m∧m≤1000∧∀ a b,Legal k n a→Legal k n b→a.length≤63→b.length≤63→a.length≤m.toNat→b.length≤m.toNat→Q (.tup [zE a,zE b])
theorem Yl {xs:List Dt} {m:Int} (h:0≤m):(iq xs (some 1) (some (1+2*m))).length≤2*m.toNat:=by
 unfold iq
 have e1:HT.sIx xs.length 0 (some 1)=min 1 xs.length:=HT.sIx_nat _ _ 1
 have e2:=HT.sIx_nat xs.length xs.length (1+2*m).toNat
 rw [Int.toNat_of_nonneg (by omega)] at e2
 rw [e1,e2,List.length_take]
 omega
def aq:DSp:=fun ds Q=>∃ k a b,ds=[.int (Kd.num k),Nm.dt a,Nm.dt b]∧Nm.ty k a∧Nm.ty k b∧a.mulOk b∧Q (a.mul b).dt
theorem bf (a b:Nm):a.mul b=b.mul a:=by cases a <;> cases b <;> simp only [Nm.mul,Nm.re,Nm.im] <;> congr 1 <;> grind
theorem ma {k:Kd} {n:Int} {a b:List Int} (hn:k.ok n) (hLa:Legal k n a) (hLb:Legal k n b) (la:a.length≤60) (lb:b.length≤60):(zm k n a).mulOk (zm k n b):=by
 have key:∀ {r:List Int},Legal k n r→r.length≤60→bdN (zm k n r) 434:=fun {r} h hl=>by
  obtain ⟨x,y⟩:=md (r:=r) hn (tN hn h (by omega)) r.length hl
  have e:2 ^ (7*r.length+13)<2 ^ 434:=Nat.pow_lt_pow_right (by decide) (by omega)
  exact ⟨Nat.lt_of_le_of_lt x e,Nat.lt_of_le_of_lt y e⟩
 exact bg (key hLa la) (key hLb lb) (by decide)
theorem tG {k:Kd} {n:Int} (hn:k.ok n):Legal k n [1]:=by
 refine ⟨fun p hp=>?_,fun _ p hp=>?_,.inr (by decide)⟩
 ·obtain rfl:p=0:=by simp at hp; exact hp
  obtain ⟨l1,l2⟩:=tF hn 0
  have h1:(1:Int)≤k.high n 0:=by
   obtain ⟨a,b⟩:=hn
   cases k <;> simp only [Kd.lo,Kd.hi,Kd.high] at * <;> first | omega | (have:=Int.mul_le_mul a a (by omega) (by omega); omega)
  exact ⟨Int.le_trans l1 (by decide),h1⟩
 ·simp at hp
theorem qm {k:Kd} {n:Int} {m:Nm} (h:m.ty k):m.mul (zm k n [1])=m:=by
 have e:wt k n 0=k.zero.add (.i 1):=by cases k <;> rfl
 have w:zm k n [1]=k.zero.add ((Nm.i 1).mul (wt k n 0)):=rfl
 have r1:(zm k n [1]).re=1:=by rw [w,e,zM,zB,zM,zQ,zJ,zL]; rfl
 have r2:(zm k n [1]).im=0:=by rw [w,e,zQ,zC,zM,zQ,zJ,zL]; rfl
 refine y_ (wu h (zT (zH k n [1]))) h ?_ ?_
 ·rw [zB,r1,r2,Int.mul_one,Int.mul_zero,Int.sub_zero]
 ·rw [zC,r1,r2,Int.mul_one,Int.mul_zero,Int.zero_add]
structure Adr where
 Plain:Addr
 Below:Addr
 Balanced:Addr
 Growing:Addr
 Falling:Addr
 Pairs:Addr
 TooLess:Addr
structure Txt (K:PySem.W.Frag) (mg:Str→Option Value) (A:Adr):Prop where
 kt:Yv K
 isinstance:mg "isinstance"=none
 n_int:mg "int"=none
 n_bool:mg "bool"=none
 n_tuple:mg "tuple"=none
 n_list:mg "list"=none
 len:mg "len"=none
 range:mg "range"=none
 n_enumerate:mg "enumerate"=none
 n_min:mg "min"=none
 n_max:mg "max"=none
 cl_Plain:Cls K A.Plain
 na_Plain:NoAttr K A.Plain "base"
 cl_Below:Cls K A.Below
 na_Below:NoAttr K A.Below "base"
 cl_Balanced:Cls K A.Balanced
 na_Balanced:NoAttr K A.Balanced "half"
 cl_Growing:Cls K A.Growing
 na_Growing:NoAttr K A.Growing "first"
 cl_Falling:Cls K A.Falling
 na_Falling:NoAttr K A.Falling "most"
 cl_Pairs:Cls K A.Pairs
 na_Pairs:NoAttr K A.Pairs "most"
 gc_Falling:mg "Falling"=some (.ref A.Falling)
 isi_Plain:sd K A.Plain
 ki_Plain_Falling:PySem.W.kitOne K (.ref A.Plain) (.ref A.Falling)=some false
 isi_Below:sd K A.Below
 ki_Below_Falling:PySem.W.kitOne K (.ref A.Below) (.ref A.Falling)=some false
 isi_Balanced:sd K A.Balanced
 ki_Balanced_Falling:PySem.W.kitOne K (.ref A.Balanced) (.ref A.Falling)=some false
 isi_Growing:sd K A.Growing
 ki_Growing_Falling:PySem.W.kitOne K (.ref A.Growing) (.ref A.Falling)=some false
 isi_Falling:sd K A.Falling
 ki_Falling_Falling:PySem.W.kitOne K (.ref A.Falling) (.ref A.Falling)=some true
 isi_Pairs:sd K A.Pairs
 ki_Pairs_Falling:PySem.W.kitOne K (.ref A.Pairs) (.ref A.Falling)=some false
 gc_TooLess:mg "TooLess"=some (.ref A.TooLess)
 ex_TooLess:ExcK K A.TooLess
 ix_TooLess:Xf K A.TooLess
 kx_TooLess_TooLess:PySem.W.kitOne K (.ref A.TooLess) (.ref A.TooLess)=some true
def Adr.at (A:Adr):Kd→Addr
 | .plain=>A.Plain | .below=>A.Below | .balanced=>A.Balanced | .growing=>A.Growing | .falling=>A.Falling | .pairs=>A.Pairs
def zZ (A:Adr) (k:Kd) (n:Int):Dt:=.way (A.at k) k.fld n
def x8 (A:Adr) (k:Kd) (g:Int→Int→Int):DSp:=fun ds Q=>∃ n p,ds=[zZ A k n,.int p]∧k.ok n∧Q (.int (g n p))
def vh (A:Adr) (k:Kd) (g:Int→Int→Nm):DSp:=fun ds Q=>∃ n p,ds=[zZ A k n,.int p]∧k.ok n∧Q (g n p).dt
def VJ:DSp:=fun ds Q=>∃ o p,ds=[o,p]∧Q (.int 0)
def S4:DSp:=fun ds Q=>∃ o,ds=[o]∧Q (.int 0)
def S3:DSp:=fun ds Q=>∃ o,ds=[o]∧Q (.tup [.int 0,.int 0])
def S5 (k:Kd):DSp:=fun ds Q=>∃ o,ds=[o]∧Q k.zero.dt
theorem iZ {K:PySem.W.Frag} {mg:Str→Option Value} {A:Adr} (T:Txt K mg A) (k:Kd):sd K (A.at k):=by
 cases k
 ·exact T.isi_Plain
 ·exact T.isi_Below
 ·exact T.isi_Balanced
 ·exact T.isi_Growing
 ·exact T.isi_Falling
 ·exact T.isi_Pairs
theorem kiF {K:PySem.W.Frag} {mg:Str→Option Value} {A:Adr} (T:Txt K mg A) (k:Kd):PySem.W.kitOne K (.ref (A.at k)) (.ref A.Falling)=some k.isF:=by
 cases k
 ·exact T.ki_Plain_Falling
 ·exact T.ki_Below_Falling
 ·exact T.ki_Balanced_Falling
 ·exact T.ki_Growing_Falling
 ·exact T.ki_Falling_Falling
 ·exact T.ki_Pairs_Falling
def Xd (A:Adr):DSp:=fun ds Q=>∃ k n r,ds=[zZ A k n,zE r]∧k.ok n∧r.length≤1000∧Q (.bl (lB k n r))
def ay (A:Adr):DSp:=fun ds Q=>∃ k n r,ds=[zZ A k n,zE r]∧k.ok n∧r.length≤1000∧∀ b:Bool,(b=true↔∀ p,p<r.length→k.low n p≤r.getD p 0∧r.getD p 0≤k.high n p)→Q (.bl b)
def gv (A:Adr):DSp:=fun ds Q=>∃ n r,ds=[zZ A .falling n,zE r]∧Kd.falling.ok n∧r.length≤1000∧∀ b:Bool,(b=true↔∀ p,p+1<r.length→r.getD (p+1) 0=n→r.getD p 0=0)→Q (.bl b)
theorem YT (k:Kd):(("low":Str) == k.fld)=false:=by cases k <;> decide +kernel
theorem bJ (k:Kd):(("high":Str) == k.fld)=false:=by cases k <;> decide +kernel
def ao (A:Adr):DSp:=fun ds Q=>∃ k n t j,ds=[zZ A k n,.int t,.int ((j:Nat):Int)]∧k.four=true∧k.ok n∧j≤100000∧Q (.tup [.int (sF k n j (.i t)),(sC k n j (.i t)).dt])
def ap (A:Adr):DSp:=fun ds Q=>∃ n d m j,ds=[zZ A .pairs n,d,.int ((j:Nat):Int)]∧ql d=some m∧Kd.pairs.ok n∧Q (.tup [.int (sF .pairs n j m),(sC .pairs n j m).dt])
def gp (A:Adr) (k:Kd):DSp:=fun ds Q=>∃ n m j,ds=[zZ A k n,Nm.dt m,.int ((j:Nat):Int)]∧m.ty k∧k.ok n∧j≤100000∧Q (.tup [.int (sF k n j m),(sC k n j m).dt])
theorem Z8 (k:Kd):(("split":Str) == k.fld)=false:=by cases k <;> decide +kernel
theorem h8 (k:Kd):(("ratio":Str) == k.fld)=false:=by cases k <;> decide +kernel
theorem qx (k:Kd):(("nought":Str) == k.fld)=false:=by cases k <;> decide +kernel
theorem UW (k:Kd):(("has":Str) == k.fld)=false:=by cases k <;> decide +kernel
def S6 (A:Adr):DSp:=fun ds Q=>∃ k n ts J,ds=[zZ A k n,se ts]∧k.five=true∧k.ok n∧(∀ t∈ts,tot k t)∧Fin k n ts J∧J≤50000∧Q (.tup [zE (wx k n ts J),.lst (lU k n ts (J+1))])
def oI (A:Adr):DSp:=fun ds Q=>∃ k n ts J,ds=[zZ A k n,se ts]∧k.five=true∧k.ok n∧(∀ t∈ts,tot k t)∧Fin k n ts J∧J≤50000∧Q (zE (gM k n ts J))
def NF (A:Adr) (k:Kd) (R:Addr→Prop):Prop:=False
theorem ba {A:Adr} {k:Kd} {R R':Addr→Prop} (h:∀ C,R C→R' C) (z:NF A k R):NF A k R':=z.elim
def Xe (A:Adr):DSp:=fun ds Q=>∃ n s,ds=[zZ A .falling n,y4 s]∧Kd.falling.ok n∧(s.1=true→0<s.2)∧Q (.lst ((chg n s).map chD))
def l6 (A:Adr):DSp:=fun ds Q=>∃ n l,∃ p:Nat,ds=[zZ A .falling n,zE l,.int p]∧Kd.falling.ok n∧p<l.length∧Q (Ud (yy n (hf l) p))
def gq (A:Adr):DSp:=fun ds Q=>∃ n l s,ds=[zZ A .falling n,zE l,y4 s]∧Kd.falling.ok n∧s.2<l.length∧Can n s (hf l)∧∀ m:Int,1≤m→Oft n s (hf l) m→Q (.int m)
def S7 (A:Adr):ASp:=fun d0 es0 ds Q=>∃ n l s m,d0=zZ A .falling n∧es0=l.map Dt.int∧ds=[y4 s,.int m]∧Kd.falling.ok n∧(s.1=true→0<s.2)∧s.2≤5000∧∀ l',l'.length=max l.length (s.2+2)→(∀ i,hf l' i=hf l i+m*dlt n s i)→Q (l'.map Dt.int)
def gx (A:Adr):xC:=fun ds Q R=>∃ k n h,ds=[zZ A k n,zE h]∧k.ok n∧(NF A k R∨(k=.falling∧(∃ z∈h,z<0)∧R A.TooLess)∨(k=.falling∧(∀ z∈h,0≤z)∧Q .non))
def Xc (A:Adr):xC:=fun ds Q R=>∃ k n h,ds=[zZ A k n,zE h]∧k.ok n∧h.length≤1000∧(NF A k R∨(k=.falling∧(∃ z∈h,z<0)∧R A.TooLess)∨(k=.falling∧(∀ z∈h,0≤z)∧pot n h≤15000000∧∀ ss r,S9 n h ss r→Q (.tup [.lst (ss.map y4),zE r])))
def oK (A:Adr):xC:=fun ds Q R=>∃ k n h,ds=[zZ A k n,zE h]∧k.ok n∧h.length≤1000∧(NF A k R∨(k=.falling∧(∃ z∈h,z<0)∧R A.TooLess)∨(k=.falling∧(∀ z∈h,0≤z)∧pot n h≤15000000∧∀ ss r,S9 n h ss r→Q (zE r)))
def ax (A:Adr):DSp:=fun ds Q=>∃ k n,∃ rs:List (List Int),ds=[zZ A k n,.lst (rs.map zE)]∧k.ok n∧(∀ r∈rs,Legal k n r∧r.length≤1000)∧Q .non
def iA (A:Adr):DSp:=fun ds Q=>∃ k n ts b,ds=[zZ A k n,se ts]∧k.ok n∧ts.length≤900∧(∀ t∈ts,tot k t)∧(∀ t∈ts,t.re.natAbs≤2 ^ b∧t.im.natAbs≤2 ^ b)∧7≤b∧b≤1000∧(sw k→0≤(yc k n ts).re)∧(k=.falling→∃ h,ts=h.map Nm.i∧(∀ z∈h,0≤z)∧pot n h≤15000000)∧∀ r,Legal k n r→zm k n r=yc k n ts→r.length≤ts.length+4*b+60→Q (zE r)
def n5:DSp:=fun ds Q=>∃ a b,ds=[se a,se b]∧a.length≤1000∧b.length≤1000∧Q (se (xV a b))
def qE:DSp:=fun ds Q=>∃ a f,ds=[zE a,Nm.dt f]∧a.length≤1000∧(-1000000≤f.re∧f.re≤1000000∧-1000000≤f.im∧f.im≤1000000)∧Q (se (yP a f))
def l4 (A:Adr):DSp:=fun ds Q=>∃ k n a b,ds=[zZ A k n,zE a,zE b]∧k.five=true∧k.ok n∧Legal k n a∧Legal k n b∧few k a.length b.length∧∀ r,Legal k n r→zm k n r=(zm k n a).mul (zm k n b)→r.length≤870→Q (zE r)
def l5 (A:Adr):DSp:=fun ds Q=>∃ n a b,ds=[zZ A .falling n,zE a,zE b]∧Kd.falling.ok n∧Legal .falling n a∧Legal .falling n b∧a.length+b.length≤100∧∀ r,Legal .falling n r→hw n r=hw n a*hw n b→r.length≤110→Q (zE r)
def gm (A:Adr):DSp:=fun ds Q=>∃ k n a b,ds=[zZ A k n,zE a,zE b]∧k.ok n∧Legal k n a∧Legal k n b∧few k a.length b.length∧∀ r,Legal k n r→zm k n r=(zm k n a).mul (zm k n b)→r.length≤870→Q (zE r)
def al (A:Adr):DSp:=fun ds Q=>∃ k n,ds=[.int (Kd.num k),.int n]∧k.ok n∧Q (zZ A k n)
theorem UL (i:Int):∃ k:Kd,k.num=i.fmod 6:=by
 have a0:=Int.fmod_nonneg_of_pos i (show (0:Int)<6 by decide)
 have a1:=Int.fmod_lt_of_pos i (show (0:Int)<6 by decide)
 rcases (by omega:i.fmod 6=0∨i.fmod 6=1∨i.fmod 6=2∨i.fmod 6=3∨i.fmod 6=4∨i.fmod 6=5) with e | e | e | e | e | e <;> rw [e]
 ·exact ⟨.plain,rfl⟩
 ·exact ⟨.below,rfl⟩
 ·exact ⟨.balanced,rfl⟩
 ·exact ⟨.growing,rfl⟩
 ·exact ⟨.falling,rfl⟩
 ·exact ⟨.pairs,rfl⟩
section
variable {P:Program} {w:World} {K:PySem.W.Frag} {mg:Str→Option Value} {base:Heap} {f:Addr} {fd:FuncData} {A:Adr}
abbrev wM:Stmt:=top 51
theorem oS:zi ["_law_cell"] ["_law_cell"] (defScope wM):=by walk_at "sc"
theorem o7 (T:Txt K mg A) (F:Fun K "_law_mixed" "_law_mixed" wM f fd):FnOk P w K mg base CX0 1 f fd ["_law_cell"] (zt K (n6)):=by
 refine okD F oS (fun ds Q h=>?_) (fun cdv A' outer s H E hr ds Q h=>?_)
 ·obtain ⟨z,rfl,q⟩:=h
  rfl
 obtain ⟨z,rfl,q⟩:=h
 refine ⟨_,(zh (zk (zj wH (zj z9 (dv 0) zd) zd))),?_⟩
 walk_at "rd"
 exact q _ (Int.fmod_nonneg_of_pos _ (by decide))
abbrev vP:Stmt:=top 52
theorem sc_law_pick:zi ["_law_cell","_law_mixed_here","_law_kind","_law_rest","_law_some"] ["_law_cell"] (defScope vP):=by walk_at "sc"
theorem mQ (T:Txt K mg A) (G__law_mixed:DOk P w K mg base 1 "_law_mixed" (n6)) (F:Fun K "_law_pick" "_law_pick" vP f fd):FnOk P w K mg base CX0 2 f fd ["_law_cell"] (zt K (au)):=by
 refine okD F sc_law_pick (fun ds Q h=>?_) (fun cdv A' outer s H E hr ds Q h=>?_)
 ·obtain ⟨z,rfl,q⟩:=h
  rfl
 obtain ⟨z,rfl,q⟩:=h
 refine ⟨_,(zf (zA (i:=1) sc_law_pick.nd rfl (Or.inl rfl) (zl G__law_mixed (hr.mono (by decide)) rfl (zc (dv 0) zg)))
 (zf (zA (i:=2) sc_law_pick.nd rfl (Or.inl rfl) (zj wH (dv 1) zd))
 (zf (zA (i:=3) sc_law_pick.nd rfl (Or.inl rfl) (zj wq (dv 1) zd))
 (zf (zA (i:=4) sc_law_pick.nd rfl (Or.inl rfl) (zj wH (zj wq (dv 3) zd) zd))
 (yb (zF (zw (yu hr) (zj wH (dv 3) zd) zd (zp _)) (zh (zA (i:=4) sc_law_pick.nd rfl (Or.inl rfl) (zj wH (zj wq (dv 3) zd) zd))) zr)
 (zf (zF (zw (yu hr) (dv 2) zd (zp _)) (zh (zk (zG (zc (dv 2) (zc (zj z4 zd (zj wH (dv 4) zd)) zg))))) zr)
 (zf (zF (zw (nh) (dv 2) zd (zp _)) (zh (zk (zG (zc (dv 2) (zc (zj z4 zd (zj wH (dv 4) zd)) zg))))) zr)
 (zh (zk (zG (zc (dv 2) (zc (zj z4 zd (dv 4)) zg)))))))))))),?_⟩
 refine ⟨_,rfl,z,rfl,fun m hm=>?_⟩
 obtain ⟨k,hk⟩:=UL m
 walk_at "rd"
 dsimp only
 rw [← hk]
 refine ⟨fun ρ=>∃ s:Int,ρ=[.some (.int z),.some (.int m),.some (.int k.num),.some (.int (m.fdiv 6)),.some (.int s)]∧0≤s∧s≤58,?_,?_⟩
 ·have b0:=Int.fmod_nonneg_of_pos ((m.fdiv 6).fdiv 2) (show (0:Int)<59 by decide)
  have b1:=Int.fmod_lt_of_pos ((m.fdiv 6).fdiv 2) (show (0:Int)<59 by decide)
  have c0:=Int.fmod_nonneg_of_pos ((m.fdiv 6).fdiv 2) (show (0:Int)<3 by decide)
  have c1:=Int.fmod_lt_of_pos ((m.fdiv 6).fdiv 2) (show (0:Int)<3 by decide)
  walk_at "rd"
  refine ifB (fun _=>?_) (fun _=>⟨_,rfl,by omega,by omega⟩)
  walk_at "rd"
  exact ⟨by omega,by omega⟩
 ·rintro ρ ⟨s,rfl,s0,s1⟩
  have c0:=Int.fmod_nonneg_of_pos s (show (0:Int)<30 by decide)
  have c1:=Int.fmod_lt_of_pos s (show (0:Int)<30 by decide)
  have d0:=Int.fmod_nonneg_of_pos s (show (0:Int)<9 by decide)
  have d1:=Int.fmod_lt_of_pos s (show (0:Int)<9 by decide)
  cases k
  all_goals walk_at "rd"
  ·exact q .plain _ ⟨by show (2:Int)≤_; omega,by show _≤(60:Int); omega⟩
  ·exact q .below _ ⟨by show (2:Int)≤_; omega,by show _≤(60:Int); omega⟩
  ·exact q .balanced _ ⟨by show (1:Int)≤_; omega,by show _≤(30:Int); omega⟩
  ·exact q .growing _ ⟨by show (2:Int)≤_; omega,by show _≤(60:Int); omega⟩
  ·exact q .falling _ ⟨by show (1:Int)≤_; omega,by show _≤(9:Int); omega⟩
  ·exact q .pairs _ ⟨by show (1:Int)≤_; omega,by show _≤(9:Int); omega⟩
abbrev xK:Stmt:=top 50
theorem rK:zi ["_law_script","_law_k"] ["_law_script","_law_k"] (defScope xK):=by walk_at "sc"
theorem rW (T:Txt K mg A) (F:Fun K "_law_cell_at" "_law_cell_at" xK f fd):FnOk P w K mg base CX0 1 f fd ["_law_script","_law_k"] (zt K (az)):=by
 refine okD F rK (fun ds Q h=>?_) (fun cdv A' outer s H E hr ds Q h=>?_)
 ·obtain ⟨ns,k,rfl,hk,q⟩:=h
  rfl
 obtain ⟨ns,k,rfl,hk,q⟩:=h
 refine ⟨_,(zf (zF (zw (mV) (dv 1) (yr rfl T.len (dv 0)) (zp _)) (zh (zk (zq (dv 0) (dv 1) (fun _ _=>rfl)))) zr)
 (zh (zk zd))),?_⟩
 walk_at "rd"
 refine UM (fun hlt=>?_) (fun _=>q 0)
 have hlt:k<(ns.map Dt.int).length:=of_decide_eq_true hlt
 rw [List.length_map] at hlt
 exact ⟨_,rfl,_,rfl,_,_,_,rfl,rfl,vE hk hlt,q _⟩
abbrev vO:Stmt:=top 54
theorem mD:zi ["_law_kind","_law_by","_law_place"] ["_law_kind","_law_by","_law_place"] (defScope vO):=by walk_at "sc"
theorem mP (T:Txt K mg A) (F:Fun K "_law_span" "_law_span" vO f fd):FnOk P w K mg base CX0 1 f fd ["_law_kind","_law_by","_law_place"] (zt K (iC)):=by
 refine okD F mD (fun ds Q h=>?_) (fun cdv A' outer s H E hr ds Q h=>?_)
 ·obtain ⟨k,n,p,rfl,hn,q⟩:=h
  rfl
 obtain ⟨k,n,p,rfl,hn,q⟩:=h
 refine ⟨_,(zf (zF (zw (yu hr) (dv 0) zd (zp _)) (zh (zk (zG (zc (zj zV zd (dv 1)) (zc (dv 1) zg))))) zr)
 (zf (zF (zw (yu hr) (dv 0) zd (zp _)) (zh (zk (zG (zc zd (zc (zj zV (zj z4 (dv 1) (dv 2)) zd) zg))))) zr)
 (zf (zF (zw (yu hr) (dv 0) zd (zp _)) (zh (zk (zG (zc zd (zc (dv 1) zg))))) zr)
 (zf (zF (zw (yu hr) (dv 0) zd (zp _)) (zh (zk (zG (zc zd (zc (zj z9 (dv 1) (dv 1)) zg))))) zr)
 (zh (zk (zG (zc zd (zc (zj zV (dv 1) zd) zg))))))))),?_⟩
 obtain ⟨b1,b2⟩:=xu hn
 have e0:(0:Int) - n=-n:=by omega
 cases k
 all_goals
  repeat (first | (walk_at "rd1") | refine ⟨small (by omega) (by omega) _,?_⟩)
  first
  | exact q
  | (dsimp only; rw [e0]; exact q)
abbrev xJ:Stmt:=top 55
theorem sc_law_figures:zi ["_law_kind","_law_by","_law_cells","_law_row","_law_place","_law_mixed_here","_law_low","_law_high","_law_some"] ["_law_kind","_law_by","_law_cells"] (defScope xJ):=by walk_at "sc"
theorem rV (T:Txt K mg A) (G__law_mixed:DOk P w K mg base 1 "_law_mixed" (n6)) (G__law_span:DOk P w K mg base 1 "_law_span" (iC)) (F:Fun K "_law_figures" "_law_figures" xJ f fd):FnOk P w K mg base CX0 2 f fd ["_law_kind","_law_by","_law_cells"] (zt K (gz)):=by
 refine okD F sc_law_figures (fun ds Q h=>?_) (fun cdv A' outer s H E hr ds Q h=>?_)
 ·obtain ⟨k,n,cs,rfl,hn,hl,q⟩:=h
  rfl
 obtain ⟨k,n,cs,rfl,hn,hl,q⟩:=h
 refine ⟨_,(zf (yk (i:=3) sc_law_figures.nd rfl (Or.inl rfl) (vZ zg))
 (zf (nW (j:=4) rfl sc_law_figures.nd rfl (Or.inl rfl) PassesOwn.never rfl T.range (yr rfl T.len (dv 2)) (zf (zA (i:=5) sc_law_figures.nd rfl (Or.inl rfl) (zl G__law_mixed (hr.mono (by decide)) rfl (zc (zq (dv 2) (dv 4) (fun _ _=>rfl)) zg)))
 (zf (nV (i:=6) (j:=7) rfl sc_law_figures.nd rfl rfl (Or.inl rfl) (Or.inl rfl) (zl G__law_span (hr.mono (by decide)) rfl (zc (dv 0) (zc (dv 1) (zc (dv 4) zg)))))
 (zf (zA (i:=8) sc_law_figures.nd rfl (Or.inl rfl) (yi (zc zd (zc (dv 7) (zc (dv 6) (zc (dv 7) (zc zd zg)))))))
 (zh (zF (zw (mV) (zj wH (dv 5) zd) zd (zp _)) (zh (wB 3 (zq (dv 8) (zj wH (dv 5) zd) (fun _ _=>rfl)))) (zh (wB 3 (zj z4 (dv 6) (zj wH (zj wq (dv 5) zd) (zj z4 (zj zV (dv 7) (dv 6)) zd)))))))))))
 (zf (nX (j:=4) rfl sc_law_figures.nd rfl (Or.inl rfl) PassesOwn.never rfl T.range (zc (zj zV (vB 3 rfl T.len) zd) (zc zd (zc (yh zd) zg))) (zh (zF (DW.dt (yO (zw (yu hr) (dv 0) zd (zp _)) (yN (zw (yu hr) (ii 3 (dv 4) (fun _ _=>rfl)) (dv 1) (zp _))))) (zh (Vm 3 (zj zV (dv 4) zd) zd)) zr)))
 (zf (w_ PassesOwn.never (DW.dt (yO (zw (nh) (vB 3 rfl T.len) zd (zp _)) (yN (zw (yu hr) (ii 3 (yh zd) (fun _ _=>rfl)) zd (zp _))))) (zh (bN 3)))
 (zh (ra 3)))))),?_⟩
 have ll:=zI cs
 walk_at "rd"
 refine ⟨_,fun i ρ=>∃ (r:List Int) (v4 v5 v6 v7 v8:Sl),ρ=[.some (.int k.num),.some (.int n),.some (zE cs),.own (r.map Dt.int),v4,v5,v6,v7,v8]∧r.length=i∧∀ p,p<i→k.low n p≤r.getD p 0∧r.getD p 0≤k.high n p,rfl,by omega,by omega,⟨[],_,_,_,_,_,rfl,rfl,fun p hp=>absurd hp (Nat.not_lt_zero _)⟩,?_,?_⟩
 ·rintro i ρ' hi ⟨r,v4,v5,v6,v7,v8,rfl,hlr,hp⟩
  have hi':i<cs.length:=by omega
  refine ⟨_,rfl,_,rfl,_,_,_,rfl,rfl,xP hi',_,rfl,fun m hm=>?_⟩
  refine ⟨_,rfl,_,rfl,_,rfl,k,n,i,rfl,hn,_,_,rfl,?_⟩
  have m0:=Int.fmod_nonneg_of_pos m (show (0:Int)<9 by decide)
  obtain ⟨l1,l2⟩:=tF hn i
  walk_at "rd"
  refine ifB (fun h=>?_) (fun h=>?_)
  ·obtain ⟨f,ef,hf⟩:=bE hn m0 (of_decide_eq_true h) (p:=i)
   refine ⟨_,rfl,_,rfl,_,rfl,_,_,rfl,rfl,Y_ (by decide),_,_,_,rfl,rfl,ef,by rw [zI]; omega,?_⟩
   obtain ⟨r',e1,e2,e3⟩:=Fg.snoc hlr hp hf
   exact ⟨r',_,_,_,_,_,by rw [e1]; rfl,e2,e3⟩
  ·have hp0:(0:Int)<k.high n i - k.low n i+1:=by omega
   have f0:=Int.fmod_nonneg_of_pos (m.fdiv 9) hp0
   have f1:=Int.fmod_lt_of_pos (m.fdiv 9) hp0
   walk_at "rd"
   refine ⟨(by show k.high n i - k.low n i+1≠0; omega),?_⟩
   walk_at "rd"
   refine ⟨by rw [zI]; omega,?_⟩
   obtain ⟨r',e1,e2,e3⟩:=Fg.snoc hlr hp (f:=k.low n i+(m.fdiv 9).fmod (k.high n i - k.low n i+1)) ⟨by omega,by omega⟩
   exact ⟨r',_,_,_,_,_,by rw [← e1]; rfl,e2,e3⟩
 ·rintro ρ' ⟨r0,v4,v5,v6,v7,v8,rfl,hl0,hp0⟩
  rw [Int.toNat_natCast,ll] at hl0 hp0
  have hF0:Fg k n r0:=fun p hp=>hp0 p (by omega)
  have l0:=zI r0
  walk_at "rd"
  refine ⟨_,_,fun i ρ=>∃ (r:List Int) (v4:Sl),ρ=[.some (.int k.num),.some (.int n),.some (zE cs),.own (r.map Dt.int),v4,v5,v6,v7,v8]∧r.length=r0.length∧Fg k n r∧Fl k n r i,rfl,by omega,by omega,by decide,by decide,⟨r0,_,rfl,rfl,hF0,fun _ q h1 h2=>by omega⟩,?_,?_⟩
  ·rintro i ρ' hi ⟨r,v4,rfl,hr1,hF,hL⟩
   have lr:=zI r
   obtain ⟨p,hp⟩:∃ p:Nat,p+i+1=r0.length:=⟨r0.length - 1 - i,by omega⟩
   have ep:((List.map Dt.int r0).length:Int) - 1 - i=p:=by omega
   rw [ep]
   have h0:0<p:=by omega
   have done:(k.isF=true→r.getD p 0≠n∨r.getD (p - 1) 0=0)→Fl k n r (i+1):=fun hz hk q h1 h2 h3=>by
    rcases (by omega:r.length≤q+1+i∨q+1=p) with z | z
    ·exact hL hk q z h2 h3
    ·subst z
     rcases hz hk with hz | hz
     ·exact absurd h3 hz
     ·exact hz
   by_cases hk:k=.falling
   ·subst hk
    refine ⟨_,rfl,rfl,rfl,_,rfl,ifT rfl ?_⟩
    refine ⟨_,rfl,_,rfl,_,_,rfl,vE (by omega) (by omega),_,rfl,rfl,rfl,_,rfl,?_⟩
    rw [Int.toNat_natCast]
    refine ifB (fun h4=>?_) (fun h4=>⟨r,_,rfl,hr1,hF,done fun _=>.inl (kK h4)⟩)
    refine ⟨_,rfl,_,rfl,_,_,rfl,rfl,_,_,rfl,ZZ (by omega) (by rw [zI]; omega),?_⟩
    have e1:((p:Int) - 1).toNat=p - 1:=by omega
    rw [e1,mw]
    refine ⟨r.set (p - 1) 0,_,rfl,by rw [List.length_set]; exact hr1,hF.put hn _,fun hk q h1 h2 h3=>?_⟩
    rw [List.length_set] at h1 h2
    rcases (by omega:r.length≤q+1+i∨q+1=p) with z | z
    ·exact (hL.put hn (show p - 1+i<r.length by omega)) hk q (by rw [List.length_set]; exact z) (by rw [List.length_set]; exact h2) h3
    ·subst z
     exact yE (by omega)
   ·have en:eqD (.int k.num) (.int 4)=false:=by cases k <;> first | rfl | exact absurd rfl hk
    exact ⟨_,rfl,rfl,rfl,_,rfl,ifF en (ifF rfl ⟨r,_,rfl,hr1,hF,done fun h=>absurd (by cases k <;> first | rfl | cases h) hk⟩)⟩
  ·rintro ρ' ⟨r,v4,rfl,hr1,hF,hL⟩
   refine l_ rfl ?_
   have:=wL r
   have hg:Lg k n r:=⟨hF,fun hk q h1 h2=>hL hk q (by omega) h1 h2⟩
   exact ⟨_,rfl,q _ hg.trim (by omega)⟩
abbrev xS:Stmt:=top 59
theorem sc_law_two:zi ["_law_script","_law_kind","_law_by","_law_most","_law_cells","_law_one"] ["_law_script","_law_kind","_law_by","_law_most"] (defScope xS):=by walk_at "sc"
theorem kF (T:Txt K mg A) (G__law_figures:DOk P w K mg base 2 "_law_figures" (gz)) (F:Fun K "_law_two" "_law_two" xS f fd):FnOk P w K mg base CX0 3 f fd ["_law_script","_law_kind","_law_by","_law_most"] (zt K (Xb)):=by
 refine okD F sc_law_two (fun ds Q h=>?_) (fun cdv A' outer s H E hr ds Q h=>?_)
 ·obtain ⟨ns,k,n,m,rfl,hn,hns,m0,m1,q⟩:=h
  rfl
 obtain ⟨ns,k,n,m,rfl,hn,hns,m0,m1,q⟩:=h
 refine ⟨_,(zf (zA (i:=4) sc_law_two.nd rfl (Or.inr rfl) (bZ (dv 0) (gb zd) (gb (zj z4 zd (zj z9 zd (dv 3))))))
 (zf (zA (i:=5) sc_law_two.nd rfl (Or.inl rfl) (zl G__law_figures (hr.mono (by decide)) rfl (zc (dv 1) (zc (dv 2) (zc (DF.de (lQ (osc:=defScope xS) (N0:=["_law_script","_law_kind","_law_by","_law_most","_law_cells","_law_one"]) (bs:=["_law_k"]) (caps:=["_law_cells"]) (js:=[4]) rfl (by decide +kernel) rfl rfl rfl (oC rfl T.range (zc zd (zc (yr rfl T.len (dv 4)) (zc zd zg)))) (fun _ _ _ _ _=>(yj (i:=0) (show List.Nodup [("_law_k":Str),("_law_cells":Str)] by decide +kernel) rfl (Or.inl (lookup_relabel_local rfl)) (.inl rfl))) iW (fun _ _ _ _ _=>ac) (fun _ _ _ _ _=>(zq (dv 1) (dv 0) (fun _ _=>rfl))))) zg)))))
 (zh (zk (zG (zc (dv 5) (zc (zl G__law_figures (hr.mono (by decide)) rfl (zc (dv 1) (zc (dv 2) (zc (DF.de (lQ (osc:=defScope xS) (N0:=["_law_script","_law_kind","_law_by","_law_most","_law_cells","_law_one"]) (bs:=["_law_k"]) (caps:=["_law_cells"]) (js:=[4]) rfl (by decide +kernel) rfl rfl rfl (oC rfl T.range (zc zd (zc (yr rfl T.len (dv 4)) (zc zd zg)))) (fun _ _ _ _ _=>(yj (i:=0) (show List.Nodup [("_law_k":Str),("_law_cells":Str)] by decide +kernel) rfl (Or.inl (lookup_relabel_local rfl)) (.inl rfl))) iW (fun _ _ _ _ _=>ac) (fun _ _ _ _ _=>(zq (dv 1) (dv 0) (fun _ _=>rfl))))) zg)))) zg))))))),?_⟩
 obtain ⟨cs,ec,lc,_⟩:=af ns (some 1) (some (1+2*m))
 have lcs:=zI cs
 have lm:=Yl (xs:=ns.map Dt.int) m0
 rw [ec,lcs] at lm
 have every:∀ (st:Int) (ρ:DS) (Q':Dt→Prop),0≤st→st≤1→ρ[4]? = some (.some (.lst (cs.map Dt.int)))→(∀ zs:List Int,zs.length≤63→zs.length≤m.toNat→Q' (zE zs))→ik [4] (YV (ge (dC (Dt.int st)) (ge (Tm (eM 4)) (ge (dC (Dt.int 2)) Tf)))) Td YY (dIx (eM 1) (eM 0)) ρ Q':=fun st ρ Q' s0 s1 e4 q'=>by
  have e5:yQ ρ [4]=[.some (.lst (cs.map Dt.int))]:=by
   unfold yQ
   show [match ρ[4]? with | some (Sl.some d)=>Sl.some d | _=>Sl.none]=_
   rw [e4]
  refine ⟨_,e4,_,rfl,st,_,rfl,by omega,by omega,by omega,by omega,fun i es=>∃ zs:List Int,es=zs.map Dt.int∧zs.length=i,⟨[],rfl,rfl⟩,?_,?_⟩
  ·rintro i e es hi rfl ⟨zs,rfl,hz⟩
   refine ⟨_,rfl,?_⟩
   show dIx (eM 1) (eM 0) ([Sl.some (Dt.int (st+2*i))]++yQ ρ [4]) (fun y=>∃ zs':List Int,List.map Dt.int zs++[y]=zs'.map Dt.int∧zs'.length=i+1)
   rw [e5]
   refine ⟨_,rfl,_,rfl,_,_,_,rfl,rfl,vE (by omega) (by omega),?_⟩
   exact ⟨zs++[_],qB zs _,by rw [List.length_append,hz]; rfl⟩
  ·rintro es ⟨zs,rfl,hz⟩
   exact q' zs (by omega) (by omega)
 refine ⟨_,rfl,_,rfl,_,rfl,_,_,rfl,rfl,ZV (by decide),_,_,rfl,rfl,_,rfl,_,rfl,?_⟩
 rw [ec]
 refine ⟨_,rfl,_,rfl,every 0 _ _ (by decide) (by decide) rfl fun z1 h1 h1m=>?_⟩
 refine ⟨k,n,z1,rfl,hn,by omega,fun a hLa hla=>?_⟩
 refine ⟨_,rfl,_,rfl,_,rfl,every 1 _ _ (by decide) (by decide) rfl fun z2 h2 h2m=>?_⟩
 refine ⟨k,n,z2,rfl,hn,by omega,fun b hLb hlb=>?_⟩
 exact ⟨rfl,q a b hLa hLb (by omega) (by omega) (by omega) (by omega)⟩
abbrev vR:Stmt:=top 9
theorem mF:zi ["value"] ["value"] (defScope vR):=by walk_at "sc"
theorem mS (T:Txt K mg A) (F:Fun K "is_whole" "is_whole" vR f fd):FnOk P w K mg base CX0 1 f fd ["value"] (zt K (xj)):=by
 refine okD F mF (fun ds Q h=>?_) (fun cdv A' outer s H E hr ds Q h=>?_)
 ·obtain ⟨d,b,rfl,hw,q⟩:=h
  rfl
 obtain ⟨d,b,rfl,hw,q⟩:=h
 refine ⟨_,(zh (zk (v9 (tS (T:=.int) T.kt T.isinstance T.n_int PyProof.Rows.boot_int (dv 0)) (qz (Vr (tS (T:=.bool) T.kt T.isinstance T.n_bool PyProof.Rows.boot_bool (dv 0))))))),?_⟩
 cases d <;> cases hw
 all_goals
  walk_at "rd"
  exact q
abbrev uN:Stmt:=top 18
theorem kq:zi ["number","least","most"] ["number","least","most"] (defScope uN):=by walk_at "sc"
theorem kI (T:Txt K mg A) (G_is_whole:DOk P w K mg base 1 "is_whole" (xj)) (F:Fun K "bounded" "bounded" uN f fd):FnOk P w K mg base CX0 2 f fd ["number","least","most"] (zt K (yX)):=by
 refine okD F kq (fun ds Q h=>?_) (fun cdv A' outer s H E hr ds Q h=>?_)
 ·obtain ⟨n,lo,hi,rfl,h1,h2,q⟩:=h
  rfl
 obtain ⟨n,lo,hi,rfl,h1,h2,q⟩:=h
 refine ⟨_,(zf (zF (DW.dt (vL (wz (yf (zl G_is_whole (hr.mono (by decide)) rfl (zc (dv 0) zg)))) (vL (zw (mV) (dv 0) (dv 1) (zp _)) (tP (zw (nh) (dv 0) (dv 2) (zp _)))))) (zh va) zr)
 (zh (zk (dv 0)))),?_⟩
 walk_at "rd"
 rw [decide_eq_false (by omega:¬ n<lo)]
 walk_at "rd"
 rw [decide_eq_false (by omega:¬ hi<n)]
 walk_at "rd"
 exact q
abbrev xb:Stmt:=inClass (top 20) 0
theorem qJ:zi ["self","base"] ["self","base"] (defScope xb):=by walk_at "sc"
theorem qS (T:Txt K mg A) (G_bounded:DOk P w K mg base 2 "bounded" (yX)) (F:Fun K "__init__" "Plain.__init__" xb f fd):FnOk P w K mg base CX0 3 f fd ["self","base"] (xE A.Plain "base" (Kd.ok .plain)):=by
 refine vn F qJ T.cl_Plain T.na_Plain (fun cdv A outer s H E hr=>?_)
 obtain ⟨te,p,l⟩:=((zl G_bounded (hr.mono (by decide)) rfl (zc (dv 1) (zc zd (zc zd zg)))):DE (yF CX0 P w K mg base ["self","base"] "Plain.__init__" (defScope xb) f cdv A outer s H E).nox _ _)
 refine ⟨te,_,wm (uS (pv 0) p rfl),l,fun i hi=>?_⟩
 exact ⟨_,rfl,_,_,_,rfl,hi.1,hi.2,rfl⟩
abbrev xf:Stmt:=inClass (top 21) 0
theorem qN:zi ["self","base"] ["self","base"] (defScope xf):=by walk_at "sc"
theorem qW (T:Txt K mg A) (G_bounded:DOk P w K mg base 2 "bounded" (yX)) (F:Fun K "__init__" "Below.__init__" xf f fd):FnOk P w K mg base CX0 3 f fd ["self","base"] (xE A.Below "base" (Kd.ok .below)):=by
 refine vn F qN T.cl_Below T.na_Below (fun cdv A outer s H E hr=>?_)
 obtain ⟨te,p,l⟩:=((zl G_bounded (hr.mono (by decide)) rfl (zc (dv 1) (zc zd (zc zd zg)))):DE (yF CX0 P w K mg base ["self","base"] "Below.__init__" (defScope xf) f cdv A outer s H E).nox _ _)
 refine ⟨te,_,wm (uS (pv 0) p rfl),l,fun i hi=>?_⟩
 exact ⟨_,rfl,_,_,_,rfl,hi.1,hi.2,rfl⟩
abbrev yx:Stmt:=inClass (top 22) 0
theorem uF:zi ["self","half"] ["self","half"] (defScope yx):=by walk_at "sc"
theorem uU (T:Txt K mg A) (G_bounded:DOk P w K mg base 2 "bounded" (yX)) (F:Fun K "__init__" "Balanced.__init__" yx f fd):FnOk P w K mg base CX0 3 f fd ["self","half"] (xE A.Balanced "half" (Kd.ok .balanced)):=by
 refine vn F uF T.cl_Balanced T.na_Balanced (fun cdv A outer s H E hr=>?_)
 obtain ⟨te,p,l⟩:=((zl G_bounded (hr.mono (by decide)) rfl (zc (dv 1) (zc zd (zc zd zg)))):DE (yF CX0 P w K mg base ["self","half"] "Balanced.__init__" (defScope yx) f cdv A outer s H E).nox _ _)
 refine ⟨te,_,wm (uS (pv 0) p rfl),l,fun i hi=>?_⟩
 exact ⟨_,rfl,_,_,_,rfl,hi.1,hi.2,rfl⟩
abbrev yG:Stmt:=inClass (top 23) 0
theorem si:zi ["self","first"] ["self","first"] (defScope yG):=by walk_at "sc"
theorem sy (T:Txt K mg A) (G_bounded:DOk P w K mg base 2 "bounded" (yX)) (F:Fun K "__init__" "Growing.__init__" yG f fd):FnOk P w K mg base CX0 3 f fd ["self","first"] (xE A.Growing "first" (Kd.ok .growing)):=by
 refine vn F si T.cl_Growing T.na_Growing (fun cdv A outer s H E hr=>?_)
 obtain ⟨te,p,l⟩:=((zl G_bounded (hr.mono (by decide)) rfl (zc (dv 1) (zc zd (zc zd zg)))):DE (yF CX0 P w K mg base ["self","first"] "Growing.__init__" (defScope yG) f cdv A outer s H E).nox _ _)
 refine ⟨te,_,wm (uS (pv 0) p rfl),l,fun i hi=>?_⟩
 exact ⟨_,rfl,_,_,_,rfl,hi.1,hi.2,rfl⟩
abbrev yH:Stmt:=inClass (top 24) 0
theorem sk:zi ["self","most"] ["self","most"] (defScope yH):=by walk_at "sc"
theorem sD (T:Txt K mg A) (G_bounded:DOk P w K mg base 2 "bounded" (yX)) (F:Fun K "__init__" "Falling.__init__" yH f fd):FnOk P w K mg base CX0 3 f fd ["self","most"] (xE A.Falling "most" (Kd.ok .falling)):=by
 refine vn F sk T.cl_Falling T.na_Falling (fun cdv A outer s H E hr=>?_)
 obtain ⟨te,p,l⟩:=((zl G_bounded (hr.mono (by decide)) rfl (zc (dv 1) (zc zd (zc zd zg)))):DE (yF CX0 P w K mg base ["self","most"] "Falling.__init__" (defScope yH) f cdv A outer s H E).nox _ _)
 refine ⟨te,_,wm (uS (pv 0) p rfl),l,fun i hi=>?_⟩
 exact ⟨_,rfl,_,_,_,rfl,hi.1,hi.2,rfl⟩
abbrev xc:Stmt:=inClass (top 25) 0
theorem qL:zi ["self","most"] ["self","most"] (defScope xc):=by walk_at "sc"
theorem qU (T:Txt K mg A) (G_bounded:DOk P w K mg base 2 "bounded" (yX)) (F:Fun K "__init__" "Pairs.__init__" xc f fd):FnOk P w K mg base CX0 3 f fd ["self","most"] (xE A.Pairs "most" (Kd.ok .pairs)):=by
 refine vn F qL T.cl_Pairs T.na_Pairs (fun cdv A outer s H E hr=>?_)
 obtain ⟨te,p,l⟩:=((zl G_bounded (hr.mono (by decide)) rfl (zc (dv 1) (zc zd (zc zd zg)))):DE (yF CX0 P w K mg base ["self","most"] "Pairs.__init__" (defScope xc) f cdv A outer s H E).nox _ _)
 refine ⟨te,_,wm (uS (pv 0) p rfl),l,fun i hi=>?_⟩
 exact ⟨_,rfl,_,_,_,rfl,hi.1,hi.2,rfl⟩
abbrev uK:Stmt:=top 53
theorem kn:zi ["_law_kind","_law_by"] ["_law_kind","_law_by"] (defScope uK):=by walk_at "sc"
theorem kE (T:Txt K mg A) (M_Plain:KOk P w K mg base 3 "Plain" A.Plain "base" (Kd.ok .plain)) (M_Below:KOk P w K mg base 3 "Below" A.Below "base" (Kd.ok .below)) (M_Balanced:KOk P w K mg base 3 "Balanced" A.Balanced "half" (Kd.ok .balanced)) (M_Growing:KOk P w K mg base 3 "Growing" A.Growing "first" (Kd.ok .growing)) (M_Falling:KOk P w K mg base 3 "Falling" A.Falling "most" (Kd.ok .falling)) (M_Pairs:KOk P w K mg base 3 "Pairs" A.Pairs "most" (Kd.ok .pairs)) (F:Fun K "_law_way" "_law_way" uK f fd):FnOk P w K mg base CX0 5 f fd ["_law_kind","_law_by"] (zt K (al A)):=by
 refine okD F kn (fun ds Q h=>?_) (fun cdv A' outer s H E hr ds Q h=>?_)
 ·obtain ⟨k,n,rfl,hn,q⟩:=h
  rfl
 obtain ⟨k,n,rfl,hn,q⟩:=h
 refine ⟨_,(zf (zF (zw (yu hr) (dv 0) zd (zp _)) (zh (zk (vA M_Plain (hr.mono (by decide)) rfl (zc (dv 1) zg)))) zr)
 (zf (zF (zw (yu hr) (dv 0) zd (zp _)) (zh (zk (vA M_Below (hr.mono (by decide)) rfl (zc (dv 1) zg)))) zr)
 (zf (zF (zw (yu hr) (dv 0) zd (zp _)) (zh (zk (vA M_Balanced (hr.mono (by decide)) rfl (zc (dv 1) zg)))) zr)
 (zf (zF (zw (yu hr) (dv 0) zd (zp _)) (zh (zk (vA M_Growing (hr.mono (by decide)) rfl (zc (dv 1) zg)))) zr)
 (zf (zF (zw (yu hr) (dv 0) zd (zp _)) (zh (zk (vA M_Falling (hr.mono (by decide)) rfl (zc (dv 1) zg)))) zr)
 (zh (zk (vA M_Pairs (hr.mono (by decide)) rfl (zc (dv 1) zg))))))))),?_⟩
 cases k
 all_goals
  walk_at "rd"
  exact ⟨hn,q⟩
abbrev xI:Stmt:=top 60
theorem rJ:zi ["_law_kind","_law_one","_law_other"] ["_law_kind","_law_one","_law_other"] (defScope xI):=by walk_at "sc"
theorem rT (T:Txt K mg A) (F:Fun K "_law_product" "_law_product" xI f fd):FnOk P w K mg base CX0 1 f fd ["_law_kind","_law_one","_law_other"] (zt K (aq)):=by
 refine okD F rJ (fun ds Q h=>?_) (fun cdv A' outer s H E hr ds Q h=>?_)
 ·obtain ⟨k,a,b,rfl,ha,hb,⟨h1,h2,h3,h4⟩,q⟩:=h
  rfl
 obtain ⟨k,a,b,rfl,ha,hb,⟨h1,h2,h3,h4⟩,q⟩:=h
 refine ⟨_,(zf (zF (zw (yu hr) (dv 0) zd (zp _)) (zh (zk (zG (zc (zj zV (zj z9 (zq (dv 1) zd (fun _ _=>rfl)) (zq (dv 2) zd (fun _ _=>rfl))) (zj z9 (zq (dv 1) zd (fun _ _=>rfl)) (zq (dv 2) zd (fun _ _=>rfl)))) (zc (zj z4 (zj z9 (zq (dv 1) zd (fun _ _=>rfl)) (zq (dv 2) zd (fun _ _=>rfl))) (zj z9 (zq (dv 1) zd (fun _ _=>rfl)) (zq (dv 2) zd (fun _ _=>rfl)))) zg))))) zr)
 (zh (zk (zj z9 (dv 1) (dv 2))))),?_⟩
 by_cases hk:k=.pairs
 ·subst hk
  obtain ⟨x,y,rfl⟩:=ha
  obtain ⟨u,v,rfl⟩:=hb
  walk_at "rd"
  refine ⟨h1,?_⟩
  walk_at "rd"
  refine ⟨h2,?_⟩
  walk_at "rd"
  refine ⟨h3,?_⟩
  walk_at "rd"
  refine ⟨h4,?_⟩
  walk_at "rd"
  exact q
 ·obtain ⟨x,rfl⟩:=xa hk ha
  obtain ⟨u,rfl⟩:=xa hk hb
  refine ⟨_,rfl,rfl,rfl,_,rfl,ifF (by cases k <;> first | rfl | exact absurd rfl hk) ?_⟩
  walk_at "rd"
  exact ⟨h1,q⟩
abbrev vQ:Stmt:=top 57
theorem mE:zi ["_law_kind","_law_by","_law_place","_law_here","_law_lower"] ["_law_kind","_law_by","_law_place","_law_here","_law_lower"] (defScope vQ):=by walk_at "sc"
theorem mR (T:Txt K mg A) (F:Fun K "_law_next" "_law_next" vQ f fd):FnOk P w K mg base CX0 1 f fd ["_law_kind","_law_by","_law_place","_law_here","_law_lower"] (zt K (gu)):=by
 refine okD F mE (fun ds Q h=>?_) (fun cdv A' outer s H E hr ds Q h=>?_)
 ·obtain ⟨k,n,j,lo,rfl,hn,hj,hlo,q⟩:=h
  rfl
 obtain ⟨k,n,j,lo,rfl,hn,hj,hlo,q⟩:=h
 refine ⟨_,(zf (zF (zw (yu hr) (dv 0) zd (zp _)) (zh (zk (zG (zc (zj zV (zj zV zd (zj z9 (dv 1) (zq (dv 3) zd (fun _ _=>rfl)))) (zq (dv 3) zd (fun _ _=>rfl))) (zc (zj zV (zq (dv 3) zd (fun _ _=>rfl)) (zj z9 (dv 1) (zq (dv 3) zd (fun _ _=>rfl)))) zg))))) zr)
 (zf (zF (zw (yu hr) (dv 0) zd (zp _)) (zh (zk (zj z4 (zj z9 (dv 1) (dv 3)) (dv 4)))) zr)
 (zf (zF (zw (yu hr) (dv 0) zd (zp _)) (zh (zk (zj z9 (zj z4 (dv 1) (dv 2)) (dv 3)))) zr)
 (zh (zk (zj z9 (zq (yi (zc (dv 1) (zc (zj zV zd (dv 1)) (zc (zj z4 (zj z9 zd (dv 1)) zd) zg)))) (dv 0) (fun _ _=>rfl)) (dv 3))))))),?_⟩
 obtain ⟨b1,b2⟩:=xu hn
 have e0:(0:Int) - n=-n:=by omega
 cases k with
 | falling=>
  obtain rfl:=hlo rfl
  repeat (first | (walk_at "rd1") | refine ⟨vM (by omega) (by omega) _,?_⟩)
  exact q
 | pairs=>
  obtain ⟨x,y,e⟩:=wt2 (n:=n) j
  have e:wt .pairs n j=.p x y:=e
  have eq_:wt .pairs n (j+1)=.p (0 - n*x - y) (x - n*y):=by
   rw [yg rfl,e]
   show Nm.p (-n*x - 1*y) (-n*y+1*x)=_
   congr 1 <;> grind
  rw [eq_] at q
  rw [e]
  repeat (first | (walk_at "rd1") | refine ⟨vM (by omega) (by omega) _,?_⟩)
  exact q
 | growing=>
  obtain ⟨x,e⟩:=wtI (k:=.growing) (n:=n) (fun h=>nomatch h) j
  have eq_:wt .growing n (j+1)=.i ((n+j)*x):=by
   rw [yg rfl,e]
   rfl
  rw [eq_] at q
  rw [e]
  repeat (first | (walk_at "rd1") | refine ⟨vM (by omega) (by omega) _,?_⟩)
  exact q
 | plain=>
  obtain ⟨x,e⟩:=wtI (k:=.plain) (n:=n) (fun h=>nomatch h) j
  have eq_:wt .plain n (j+1)=.i (n*x):=by
   rw [yg rfl,e]
   rfl
  rw [eq_] at q
  rw [e]
  repeat (first | (walk_at "rd1") | refine ⟨vM (by omega) (by omega) _,?_⟩)
  exact q
 | below=>
  obtain ⟨x,e⟩:=wtI (k:=.below) (n:=n) (fun h=>nomatch h) j
  have eq_:wt .below n (j+1)=.i ((0 - n)*x):=by
   rw [yg rfl,e,e0]
   rfl
  rw [eq_] at q
  rw [e]
  repeat (first | (walk_at "rd1") | refine ⟨vM (by omega) (by omega) _,?_⟩)
  exact q
 | balanced=>
  obtain ⟨x,e⟩:=wtI (k:=.balanced) (n:=n) (fun h=>nomatch h) j
  have eq_:wt .balanced n (j+1)=.i ((2*n+1)*x):=by
   rw [yg rfl,e]
   rfl
  rw [eq_] at q
  rw [e]
  repeat (first | (walk_at "rd1") | refine ⟨vM (by omega) (by omega) _,?_⟩)
  exact q
abbrev wc:Stmt:=top 58
theorem sc_law_number:zi ["_law_kind","_law_by","_law_row","_law_here","_law_total","_law_lower","_law_place","_law_ahead"] ["_law_kind","_law_by","_law_row"] (defScope wc):=by walk_at "sc"
theorem qQ (T:Txt K mg A) (G__law_next:DOk P w K mg base 1 "_law_next" (gu)) (F:Fun K "_law_number" "_law_number" wc f fd):FnOk P w K mg base CX0 2 f fd ["_law_kind","_law_by","_law_row"] (zt K (av)):=by
 refine okD F sc_law_number (fun ds Q h=>?_) (fun cdv A' outer s H E hr ds Q h=>?_)
 ·obtain ⟨k,n,r,rfl,hn,hl,hb,q⟩:=h
  rfl
 obtain ⟨k,n,r,rfl,hn,hl,hb,q⟩:=h
 refine ⟨_,(zf (zA (i:=3) sc_law_number.nd rfl (Or.inl rfl) zd)
 (zf (zA (i:=4) sc_law_number.nd rfl (Or.inl rfl) zd)
 (yb (zF (zw (yu hr) (dv 0) zd (zp _)) (zf (zA (i:=3) sc_law_number.nd rfl (Or.inl rfl) (zG (zc zd (zc zd zg))))
 (zh (zA (i:=4) sc_law_number.nd rfl (Or.inl rfl) (zG (zc zd (zc zd zg)))))) zr)
 (zf (zA (i:=5) sc_law_number.nd rfl (Or.inl rfl) zd)
 (zf (nW (j:=6) rfl sc_law_number.nd rfl (Or.inl rfl) PassesOwn.never rfl T.range (yr rfl T.len (dv 2)) (yb (zF (zw (yu hr) (dv 0) zd (zp _)) (zh (zA (i:=4) sc_law_number.nd rfl (Or.inl rfl) (zG (zc (zj z4 (zq (dv 4) zd (fun _ _=>rfl)) (zj z9 (zq (dv 2) (dv 6) (fun _ _=>rfl)) (zq (dv 3) zd (fun _ _=>rfl)))) (zc (zj z4 (zq (dv 4) zd (fun _ _=>rfl)) (zj z9 (zq (dv 2) (dv 6) (fun _ _=>rfl)) (zq (dv 3) zd (fun _ _=>rfl)))) zg))))) (zh (zA (i:=4) sc_law_number.nd rfl (Or.inl rfl) (zj z4 (dv 4) (zj z9 (zq (dv 2) (dv 6) (fun _ _=>rfl)) (dv 3))))))
 (zf (zA (i:=7) sc_law_number.nd rfl (Or.inl rfl) (dv 3))
 (zf (zA (i:=3) sc_law_number.nd rfl (Or.inl rfl) (zl G__law_next (hr.mono (by decide)) rfl (zc (dv 0) (zc (dv 1) (zc (dv 6) (zc (dv 3) (zc (dv 5) zg)))))))
 (zh (zA (i:=5) sc_law_number.nd rfl (Or.inl rfl) (dv 7)))))))
 (zh (zk (dv 4)))))))),?_⟩
 have ll:=zI r
 refine ⟨fun ρ=>ρ=[.some (.int k.num),.some (.int n),.some (zE r),.some (wt k n 0).dt,.some (zY k n r 0).dt,.none,.none,.none],?_,?_⟩
 ·by_cases hk:k=.pairs
  ·subst hk
   exact ⟨_,rfl,rfl,rfl,_,rfl,ifT rfl ⟨rfl,rfl,rfl⟩⟩
  ·refine ⟨_,rfl,rfl,rfl,_,rfl,ifF (by cases k <;> first | rfl | exact absurd rfl hk) ?_⟩
   cases k <;> first | rfl | exact absurd rfl hk
 rintro ρ rfl
 refine ⟨_,rfl,_,rfl,_,fun i ρ=>∃ lo v6 v7,ρ=[.some (.int k.num),.some (.int n),.some (zE r),.some (wt k n i).dt,.some (zY k n r i).dt,.some lo,v6,v7]∧(k=.falling→lo=.int (wtF n i).1),rfl,by rw [ll]; omega,by rw [ll]; omega,⟨_,_,_,rfl,fun _=>rfl⟩,?_,?_⟩
 ·rintro i ρ' hi ⟨lo,v6,v7,rfl,hlo⟩
  have hi':i<r.length:=by omega
  have wb:=VO hn (j:=i) (by omega)
  have m1:IntMulOk (r.getD i 0) (wt k n i).re:=tE (gk hb i) wb.1 (by omega)
  have m2:IntMulOk (r.getD i 0) (wt k n i).im:=tE (gk hb i) wb.2 (by omega)
  refine ⟨fun ρ=>ρ=[.some (.int k.num),.some (.int n),.some (zE r),.some (wt k n i).dt,.some (zY k n r (i+1)).dt,.some lo,.some (.int i),v7],?_,?_⟩
  ·by_cases hk:k=.pairs
   ·subst hk
    obtain ⟨x,y,ew⟩:=wt2 (n:=n) i
    obtain ⟨a,b,es⟩:=wsP (n:=n) (ns:=r) i
    have ew:wt .pairs n i=.p x y:=ew
    have est:zY .pairs n r (i+1)=.p (a+r.getD i 0*x) (b+r.getD i 0*y):=by
     unfold zY
     rw [es,ew]
     show Nm.p (a+(r.getD i 0*x - 0*y)) (b+(r.getD i 0*y+0*x))=_
     congr 1 <;> omega
    rw [ew] at m1 m2
    rw [ew,es,est]
    refine ⟨_,rfl,rfl,rfl,_,rfl,ifT rfl ?_⟩
    walk_at "rd"
    refine ⟨_,_,_,rfl,rfl,xP hi',?_⟩
    walk_at "rd"
    refine ⟨m1,?_⟩
    walk_at "rd"
    refine ⟨_,_,_,rfl,rfl,xP hi',?_⟩
    walk_at "rd"
    refine ⟨m2,?_⟩
    walk_at "rd"
    rfl
   ·obtain ⟨x,ew⟩:=wtI (n:=n) hk i
    obtain ⟨a,es⟩:=wsI (n:=n) (ns:=r) hk i
    have est:zY k n r (i+1)=.i (a+r.getD i 0*x):=by
     unfold zY
     rw [es,ew]
     rfl
    rw [ew] at m1
    rw [ew,es,est]
    refine ⟨_,rfl,rfl,rfl,_,rfl,ifF (by cases k <;> first | rfl | exact absurd rfl hk) ?_⟩
    exact ⟨_,rfl,_,rfl,_,rfl,_,_,_,rfl,rfl,xP hi',_,rfl,_,_,rfl,rfl,m1,_,_,rfl,rfl,rfl⟩
  ·rintro ρ rfl
   refine ⟨_,rfl,_,rfl,_,rfl,_,rfl,_,rfl,_,rfl,k,n,i,lo,rfl,hn,by omega,hlo,?_⟩
   refine ⟨_,rfl,_,_,_,rfl,fun hk=>?_⟩
   subst hk
   rfl
 ·rintro ρ' ⟨lo,v6,v7,rfl,_⟩
  rw [Int.toNat_natCast,ll]
  exact ⟨_,rfl,q⟩
abbrev zN:Stmt:=top 39
theorem sc_has_mosts_above_noughts_alone:zi ["way","row","place"] ["way","row"] (defScope zN):=by walk_at "sc"
theorem yK (T:Txt K mg A) (F:Fun K "has_mosts_above_noughts_alone" "has_mosts_above_noughts_alone" zN f fd):FnOk P w K mg base CX0 1 f fd ["way","row"] (zt K (gv A)):=by
 refine okD F sc_has_mosts_above_noughts_alone (fun ds Q h=>?_) (fun cdv A' outer s H E hr ds Q h=>?_)
 ·obtain ⟨n,r,rfl,hn,hl,q⟩:=h
  rfl
 obtain ⟨n,r,rfl,hn,hl,q⟩:=h
 refine ⟨_,(zf (bO (j:=2) rfl sc_has_mosts_above_noughts_alone.nd rfl (Or.inl rfl) PassesOwn.never rfl T.range (zc zd (zc (yr rfl T.len (dv 1)) zg)) (zh (zF (DW.dt (yO (zw (yu hr) (zq (dv 1) (dv 2) (fun _ _=>rfl)) (zP (dv 0)) (zp _)) (yN (zw (ng hr) (zq (dv 1) (zj zV (dv 2) zd) (fun _ _=>rfl)) zd (zp _))))) (zh (zk vc)) zr)))
 (zh (zk vc))),?_⟩
 walk_at "rd"
 have ll:=zI r
 refine ⟨_,_,fun i ρ=>∃ v,ρ=[.some (zZ A .falling n),.some (zE r),v]∧∀ p:Nat,p<i→r.getD (p+1) 0=n→r.getD p 0=0,rfl,by decide,by decide,by omega,by omega,⟨_,rfl,fun p hp=>absurd hp (Nat.not_lt_zero _)⟩,?_,?_⟩
 ·rintro i ρ' hi ⟨v,rfl,hp⟩
  rw [ll] at hi
  have e1:(1+(i:Int)).toNat=i+1:=by omega
  have e2:(1+(i:Int) - 1).toNat=i:=by omega
  refine ⟨_,rfl,_,rfl,_,_,_,rfl,rfl,vE (by omega) (by omega),_,rfl,_,_,_,rfl,rfl,T.cl_Falling,T.na_Falling,rfl,rfl,_,rfl,?_⟩
  rw [e1]
  refine ifB (fun h=>?_) (fun h=>ifF rfl ?_)
  ·refine ⟨_,rfl,_,rfl,_,_,rfl,rfl,_,_,_,rfl,rfl,vE (by omega) (by omega),rfl,rfl,_,rfl,?_⟩
   rw [e2]
   refine ifB (fun h'=>?_) (fun h'=>?_)
   ·refine q false ⟨fun z=>(Bool.false_ne_true z).elim,fun z=>?_⟩
    exact absurd (z i (by omega) (kL h)) (kK (Uk h'))
   ·refine ⟨.some (.int (1+i)),rfl,fun p hp'=>?_⟩
    rcases (by omega:p<i∨p=i) with z | z
    ·exact hp p z
    ·subst z
     exact fun _=>kL (Ul h')
  ·refine ⟨.some (.int (1+i)),rfl,fun p hp'=>?_⟩
   rcases (by omega:p<i∨p=i) with z | z
   ·exact hp p z
   ·subst z
    exact fun z=>absurd z (kK h)
 ·rintro ρ' ⟨v,rfl,hp⟩
  rw [ll] at hp
  exact q true ⟨fun _ p hp'=>hp p (by omega),fun _=>rfl⟩
abbrev uP:Stmt:=inClass (top 19) 1
theorem ku:zi ["self","place"] ["self","place"] (defScope uP):=by walk_at "sc"
theorem xv (T:Txt K mg A) (F:Fun K "low" "Way.low" uP f fd):FnOk P w K mg base CX0 1 f fd ["self","place"] (zt K (VJ)):=by
 refine okD F ku (fun ds Q h=>?_) (fun cdv A' outer s H E hr ds Q h=>?_)
 ·obtain ⟨o,p,rfl,q⟩:=h
  rfl
 obtain ⟨o,p,rfl,q⟩:=h
 refine ⟨_,(zh (zk zd)),?_⟩
 exact q
abbrev xq:Stmt:=inClass (top 22) 1
theorem su:zi ["self","place"] ["self","place"] (defScope xq):=by walk_at "sc"
theorem sG (T:Txt K mg A) (F:Fun K "low" "Balanced.low" xq f fd):FnOk P w K mg base CX0 1 f fd ["self","place"] (zt K (x8 A .balanced (Kd.low .balanced))):=by
 refine okD F su (fun ds Q h=>?_) (fun cdv A' outer s H E hr ds Q h=>?_)
 ·obtain ⟨n,p,rfl,hn,q⟩:=h
  rfl
 obtain ⟨n,p,rfl,hn,q⟩:=h
 refine ⟨_,(zh (zk (yh (zP (dv 0))))),?_⟩
 exact ⟨_,rfl,_,_,_,rfl,rfl,T.cl_Balanced,T.na_Balanced,_,rfl,q⟩
abbrev wj:Stmt:=inClass (top 20) 1
theorem qK:zi ["self","place"] ["self","place"] (defScope wj):=by walk_at "sc"
theorem qT (T:Txt K mg A) (F:Fun K "high" "Plain.high" wj f fd):FnOk P w K mg base CX0 1 f fd ["self","place"] (zt K (x8 A .plain (Kd.high .plain))):=by
 refine okD F qK (fun ds Q h=>?_) (fun cdv A' outer s H E hr ds Q h=>?_)
 ·obtain ⟨n,p,rfl,hn,q⟩:=h
  rfl
 obtain ⟨n,p,rfl,hn,q⟩:=h
 refine ⟨_,(zh (zk (zj zV (zP (dv 0)) zd))),?_⟩
 exact ⟨_,rfl,_,_,_,rfl,rfl,T.cl_Plain,T.na_Plain,_,_,rfl,rfl,q⟩
abbrev wl:Stmt:=inClass (top 21) 1
theorem qO:zi ["self","place"] ["self","place"] (defScope wl):=by walk_at "sc"
theorem qX (T:Txt K mg A) (F:Fun K "high" "Below.high" wl f fd):FnOk P w K mg base CX0 1 f fd ["self","place"] (zt K (x8 A .below (Kd.high .below))):=by
 refine okD F qO (fun ds Q h=>?_) (fun cdv A' outer s H E hr ds Q h=>?_)
 ·obtain ⟨n,p,rfl,hn,q⟩:=h
  rfl
 obtain ⟨n,p,rfl,hn,q⟩:=h
 refine ⟨_,(zh (zk (zj zV (zP (dv 0)) zd))),?_⟩
 exact ⟨_,rfl,_,_,_,rfl,rfl,T.cl_Below,T.na_Below,_,_,rfl,rfl,q⟩
abbrev y9:Stmt:=inClass (top 22) 2
theorem uG:zi ["self","place"] ["self","place"] (defScope y9):=by walk_at "sc"
theorem uV (T:Txt K mg A) (F:Fun K "high" "Balanced.high" y9 f fd):FnOk P w K mg base CX0 1 f fd ["self","place"] (zt K (x8 A .balanced (Kd.high .balanced))):=by
 refine okD F uG (fun ds Q h=>?_) (fun cdv A' outer s H E hr ds Q h=>?_)
 ·obtain ⟨n,p,rfl,hn,q⟩:=h
  rfl
 obtain ⟨n,p,rfl,hn,q⟩:=h
 refine ⟨_,(zh (zk (zP (dv 0)))),?_⟩
 exact ⟨_,rfl,_,_,_,rfl,rfl,T.cl_Balanced,T.na_Balanced,q⟩
abbrev xo:Stmt:=inClass (top 23) 1
theorem sj:zi ["self","place"] ["self","place"] (defScope xo):=by walk_at "sc"
theorem sA (T:Txt K mg A) (F:Fun K "high" "Growing.high" xo f fd):FnOk P w K mg base CX0 1 f fd ["self","place"] (zt K (x8 A .growing (Kd.high .growing))):=by
 refine okD F sj (fun ds Q h=>?_) (fun cdv A' outer s H E hr ds Q h=>?_)
 ·obtain ⟨n,p,rfl,hn,q⟩:=h
  rfl
 obtain ⟨n,p,rfl,hn,q⟩:=h
 refine ⟨_,(zh (zk (zj zV (zj z4 (zP (dv 0)) (dv 1)) zd))),?_⟩
 exact ⟨_,rfl,_,_,_,rfl,rfl,T.cl_Growing,T.na_Growing,_,rfl,_,_,rfl,rfl,_,_,rfl,rfl,q⟩
abbrev xp:Stmt:=inClass (top 24) 1
theorem sr:zi ["self","place"] ["self","place"] (defScope xp):=by walk_at "sc"
theorem sE (T:Txt K mg A) (F:Fun K "high" "Falling.high" xp f fd):FnOk P w K mg base CX0 1 f fd ["self","place"] (zt K (x8 A .falling (Kd.high .falling))):=by
 refine okD F sr (fun ds Q h=>?_) (fun cdv A' outer s H E hr ds Q h=>?_)
 ·obtain ⟨n,p,rfl,hn,q⟩:=h
  rfl
 obtain ⟨n,p,rfl,hn,q⟩:=h
 refine ⟨_,(zh (zk (zP (dv 0)))),?_⟩
 exact ⟨_,rfl,_,_,_,rfl,rfl,T.cl_Falling,T.na_Falling,q⟩
abbrev wk:Stmt:=inClass (top 25) 2
theorem qM:zi ["self","place"] ["self","place"] (defScope wk):=by walk_at "sc"
theorem qV (T:Txt K mg A) (F:Fun K "high" "Pairs.high" wk f fd):FnOk P w K mg base CX0 1 f fd ["self","place"] (zt K (x8 A .pairs (Kd.high .pairs))):=by
 refine okD F qM (fun ds Q h=>?_) (fun cdv A' outer s H E hr ds Q h=>?_)
 ·obtain ⟨n,p,rfl,hn,q⟩:=h
  rfl
 obtain ⟨n,p,rfl,hn,q⟩:=h
 refine ⟨_,(zh (zk (zj z9 (zP (dv 0)) (zP (dv 0))))),?_⟩
 obtain ⟨h1,h2⟩:=xu hn
 exact ⟨_,rfl,_,_,_,rfl,rfl,T.cl_Pairs,T.na_Pairs,_,rfl,_,_,_,rfl,rfl,T.cl_Pairs,T.na_Pairs,_,_,rfl,rfl,small (by omega) (by omega) _,q⟩
abbrev yn:Stmt:=top 38
theorem sc_has_figures_alone:zi ["way","row","place","thing"] ["way","row"] (defScope yn):=by walk_at "sc"
theorem wX (T:Txt K mg A) (HLo:∀ k:Kd,MOk P w K mg base 1 (A.at k) "low" (x8 A k (k.low))∧MOk P w K mg base 1 (A.at k) "high" (x8 A k (k.high))) (F:Fun K "has_figures_alone" "has_figures_alone" yn f fd):FnOk P w K mg base CX0 2 f fd ["way","row"] (zt K (ay A)):=by
 refine okD F sc_has_figures_alone (fun ds Q h=>?_) (fun cdv A' outer s H E hr ds Q h=>?_)
 ·obtain ⟨k,n,r,rfl,hn,hl,q⟩:=h
  rfl
 obtain ⟨k,n,r,rfl,hn,hl,q⟩:=h
 refine ⟨_,(zf (tQ (i:=2) (j:=3) rfl sc_has_figures_alone.nd rfl rfl (Or.inl rfl) (Or.inl rfl) PassesOwn.never rfl T.n_enumerate (zc (dv 1) zg) (zh (zF (DW.dt (vL (zw (mV) (dv 3) (xG hr (dv 0) (zc (dv 2) zg)) (zp _)) (tP (zw (nh) (dv 3) (xG hr (dv 0) (zc (dv 2) zg)) (zp _))))) (zh (zk vc)) zr)))
 (zh (zk vc))),?_⟩
 obtain ⟨M1,M2⟩:=HLo k
 walk_at "rd"
 refine ⟨_,_,fun i ρ=>∃ v u,ρ=[.some (zZ A k n),.some (zE r),v,u]∧∀ p:Nat,p<i→k.low n p≤r.getD p 0∧r.getD p 0≤k.high n p,rfl,rfl,⟨_,_,rfl,fun p hp=>absurd hp (Nat.not_lt_zero _)⟩,?_,?_⟩
 ·rintro i x ρ' hx ⟨v,u,rfl,hp⟩
  obtain ⟨rfl,hi⟩:=bz hx
  refine ⟨_,rfl,_,rfl,_,_,_,_,rfl,YT k,M1.mono (by decide),_,rfl,n,i,rfl,hn,_,_,rfl,rfl,_,rfl,?_⟩
  refine ifB (fun h=>ifT rfl ?_) (fun h=>?_)
  ·refine q false ⟨fun z=>(Bool.false_ne_true z).elim,fun z=>?_⟩
   have:=z i hi
   have h:=of_decide_eq_true h
   omega
  ·refine ⟨_,rfl,_,rfl,_,_,_,_,rfl,bJ k,M2.mono (by decide),_,rfl,n,i,rfl,hn,_,_,rfl,rfl,_,rfl,?_⟩
   have h:=of_decide_eq_false h
   refine ifB (fun h'=>?_) (fun h'=>?_)
   ·refine q false ⟨fun z=>(Bool.false_ne_true z).elim,fun z=>?_⟩
    have:=z i hi
    have h':=of_decide_eq_true h'
    omega
   ·have h':=of_decide_eq_false h'
    refine ⟨.some (.int i),.some (.int (r.getD i 0)),rfl,fun p hp'=>?_⟩
    rcases (by omega:p<i∨p=i) with z | z
    ·exact hp p z
    ·subst z
     omega
 ·rintro ρ' ⟨v,u,rfl,hp⟩
  rw [zI] at hp
  exact q true ⟨fun _=>hp,fun _=>rfl⟩
abbrev wd:Stmt:=top 40
theorem qH:zi ["way","row"] ["way","row"] (defScope wd):=by walk_at "sc"
theorem qR (T:Txt K mg A) (G_has_mosts_above_noughts_alone:DOk P w K mg base 1 "has_mosts_above_noughts_alone" (gv A)) (G_has_figures_alone:DOk P w K mg base 2 "has_figures_alone" (ay A)) (F:Fun K "is_writing" "is_writing" wd f fd):FnOk P w K mg base CX0 3 f fd ["way","row"] (zt K (Xd A)):=by
 refine okD F qH (fun ds Q h=>?_) (fun cdv A' outer s H E hr ds Q h=>?_)
 ·obtain ⟨k,n,r,rfl,hn,hl,q⟩:=h
  rfl
 obtain ⟨k,n,r,rfl,hn,hl,q⟩:=h
 refine ⟨_,(yb (zF (DW.dt (yO (Vj (dv 1)) (yN (zw (yu hr) (zq (dv 1) (yh zd) (fun _ _=>rfl)) zd (zp _))))) (zh (zk vc)) zr)
 (yb (zF (DW.dt (yO (yf (ux T.isinstance T.gc_Falling (dv 0))) (yN (wz (yf (zl G_has_mosts_above_noughts_alone (hr.mono (by decide)) rfl (zc (dv 0) (zc (dv 1) zg)))))))) (zh (zk vc)) zr)
 (zh (zk (zl G_has_figures_alone (hr.mono (by decide)) rfl (zc (dv 0) (zc (dv 1) zg))))))),?_⟩
 refine ⟨fun ρ=>ρ=[.some (zZ A k n),.some (zE r)]∧(r=[]∨r.getD (r.length - 1) 0≠0),?_,?_⟩
 ·walk_at "rd"
  rcases zO r with rfl | ⟨l,z,rfl⟩
  ·exact ifF rfl (ifF rfl ⟨rfl,.inl rfl⟩)
  ·have ez:(l++[z]).getD ((l++[z]).length - 1) 0=z:=by rw [List.length_append]; simp [List.getD_eq_getElem?_getD]
   refine ifT (by simp) ⟨_,rfl,_,rfl,_,_,_,rfl,rfl,vg,rfl,rfl,_,rfl,?_⟩
   by_cases hz:z=0
   ·refine ifT (eqI hz) ?_
    rw [nQ (fun L=>by
     rcases L.end_ with h | h
     ·simp at h
     ·rw [ez] at h; exact h hz)] at q
    exact q
   ·refine ifF (neI hz) ⟨rfl,.inr (by rw [ez]; exact hz)⟩
 ·rintro ρ' ⟨rfl,hend⟩
  refine ⟨fun ρ=>ρ=[.some (zZ A k n),.some (zE r)]∧(k.isF=true→∀ p,p+1<r.length→r.getD (p+1) 0=n→r.getD p 0=0),?_,?_⟩
  ·refine ⟨_,rfl,_,_,_,_,rfl,iZ T k,kiF T k,_,rfl,?_⟩
   cases hk:k.isF with
   | false=>exact ifF rfl (ifF rfl ⟨rfl,fun z=>(Bool.false_ne_true z).elim⟩)
   | true=>
    have ek:k=.falling:=by cases k <;> first | rfl | cases hk
    subst ek
    refine ifT rfl ⟨_,rfl,_,rfl,n,r,rfl,hn,hl,fun b hb=>⟨_,rfl,?_⟩⟩
    cases b with
    | true=>exact ifF rfl ⟨rfl,fun _=>hb.mp rfl⟩
    | false=>
     refine ifT rfl ?_
     rw [nQ (fun L=>Bool.false_ne_true (hb.mpr (L.fal rfl)))] at q
     exact q
  ·rintro ρ' ⟨rfl,hf⟩
   refine ⟨_,rfl,_,rfl,k,n,r,rfl,hn,hl,fun b hb=>?_⟩
   cases b with
   | true=>rw [iX ⟨hb.mp rfl,hf,hend⟩] at q; exact q
   | false=>rw [nQ (fun L=>Bool.false_ne_true (hb.mpr L.fig))] at q; exact q
abbrev yd:Stmt:=top 41
theorem sc_held_to_be_writings:zi ["way","rows","row"] ["way","rows"] (defScope yd):=by walk_at "sc"
theorem wn (T:Txt K mg A) (G_is_writing:DOk P w K mg base 3 "is_writing" (Xd A)) (F:Fun K "held_to_be_writings" "held_to_be_writings" yd f fd):FnOk P w K mg base CX0 4 f fd ["way","rows"] (zt K (ax A)):=by
 refine okD F sc_held_to_be_writings (fun ds Q h=>?_) (fun cdv A' outer s H E hr ds Q h=>?_)
 ·obtain ⟨k,n,rs,rfl,hn,hrs,q⟩:=h
  rfl
 obtain ⟨k,n,rs,rfl,hn,hrs,q⟩:=h
 refine ⟨_,(zh (bP (j:=2) rfl sc_held_to_be_writings.nd rfl (Or.inl rfl) PassesOwn.never (dv 1) (zh (zF (wz (yf (zl G_is_writing (hr.mono (by decide)) rfl (zc (dv 0) (zc (dv 2) zg))))) (zh va) zr)))),?_⟩
 refine ⟨_,rfl,_,fun i ρ=>∃ v,ρ=[.some (zZ A k n),.some (.lst (rs.map zE)),v],rfl,⟨_,rfl⟩,?_,?_⟩
 ·rintro i e ρ' he ⟨v,rfl⟩
  obtain ⟨r,hm,rfl⟩:=List.mem_map.mp (List.mem_of_getElem? he)
  obtain ⟨hL,hl⟩:=hrs r hm
  refine ⟨_,rfl,_,rfl,k,n,r,rfl,hn,hl,_,rfl,?_⟩
  rw [iX hL]
  exact ifF rfl ⟨_,rfl⟩
 ·rintro ρ' ⟨v,rfl⟩
  exact q
abbrev uO:Stmt:=top 11
theorem kr:zi ["number"] ["number"] (defScope uO):=by walk_at "sc"
theorem kJ (T:Txt K mg A) (G_is_whole:DOk P w K mg base 1 "is_whole" (xj)) (F:Fun K "as_pair" "as_pair" uO f fd):FnOk P w K mg base CX0 2 f fd ["number"] (zt K (vF)):=by
 refine okD F kr (fun ds Q h=>?_) (fun cdv A' outer s H E hr ds Q h=>?_)
 ·obtain ⟨d,m,rfl,hm,q⟩:=h
  rfl
 obtain ⟨d,m,rfl,hm,q⟩:=h
 refine ⟨_,(zf (zF (yf (zl G_is_whole (hr.mono (by decide)) rfl (zc (dv 0) zg))) (zh (zk (zG (zc (dv 0) (zc zd zg))))) zr)
 (zh (zk (dv 0)))),?_⟩
 obtain rfl:=yY hm
 cases m with
 | i n=>
  walk_at "rd"
  exact q
 | p a b=>
  walk_at "rd"
  exact q
abbrev oW:Stmt:=top 12
theorem sc_added:zi ["one","other","left","right"] ["one","other"] (defScope oW):=by walk_at "sc"
theorem cb (T:Txt K mg A) (G_is_whole:DOk P w K mg base 1 "is_whole" (xj)) (G_as_pair:DOk P w K mg base 2 "as_pair" (vF)) (F:Fun K "added" "added" oW f fd):FnOk P w K mg base CX0 3 f fd ["one","other"] (zt K (n8)):=by
 refine okD F sc_added (fun ds Q h=>?_) (fun cdv A' outer s H E hr ds Q h=>?_)
 ·obtain ⟨d,e,m,n,rfl,hm,hn,q⟩:=h
  rfl
 obtain ⟨d,e,m,n,rfl,hm,hn,q⟩:=h
 refine ⟨_,(zf (zF (DW.dt (yO (yf (zl G_is_whole (hr.mono (by decide)) rfl (zc (dv 0) zg))) (yN (yf (zl G_is_whole (hr.mono (by decide)) rfl (zc (dv 1) zg)))))) (zh (zk (zj z4 (dv 0) (dv 1)))) zr)
 (zf (zA (i:=2) sc_added.nd rfl (Or.inl rfl) (zl G_as_pair (hr.mono (by decide)) rfl (zc (dv 0) zg)))
 (zf (zA (i:=3) sc_added.nd rfl (Or.inl rfl) (zl G_as_pair (hr.mono (by decide)) rfl (zc (dv 1) zg)))
 (zh (zk (zG (zc (zj z4 (zq (dv 2) zd (fun _ _=>rfl)) (zq (dv 3) zd (fun _ _=>rfl))) (zc (zj z4 (zq (dv 2) zd (fun _ _=>rfl)) (zq (dv 3) zd (fun _ _=>rfl))) zg)))))))),?_⟩
 obtain rfl:=yY hm
 obtain rfl:=yY hn
 cases m <;> cases n
 all_goals
  walk_at "rd"
  exact q
abbrev vN:Stmt:=top 15
theorem mC:zi ["row","place"] ["row","place"] (defScope vN):=by walk_at "sc"
theorem mM (T:Txt K mg A) (F:Fun K "thing_at" "thing_at" vN f fd):FnOk P w K mg base CX0 1 f fd ["row","place"] (zt K (ub)):=by
 refine okD F mC (fun ds Q h=>?_) (fun cdv A' outer s H E hr ds Q h=>?_)
 ·obtain ⟨xs,p,rfl,hp,q⟩:=h
  rfl
 obtain ⟨xs,p,rfl,hp,q⟩:=h
 refine ⟨_,(zf (zF (zw (mV) (dv 1) (yr rfl T.len (dv 0)) (zp _)) (zh (zk (zq (dv 0) (dv 1) (fun _ _=>rfl)))) zr)
 (zh (zk zd))),?_⟩
 refine ⟨_,rfl,_,rfl,_,rfl,_,_,rfl,rfl,_,rfl,UM (fun h=>?_) (fun h=>?_)⟩
 ·have h:p<(xs.length:Int):=of_decide_eq_true h
  have hl:p.toNat<xs.length:=by omega
  have e:((p.toNat:Nat):Int)=p:=Int.toNat_of_nonneg hp
  have:=wE (List.getElem?_eq_getElem hl)
  rw [e] at this
  rw [List.getD_eq_getElem?_getD,List.getElem?_eq_getElem hl] at q
  exact ⟨_,rfl,_,rfl,_,_,_,rfl,rfl,this,q⟩
 ·have h:¬ p<(xs.length:Int):=fun z=>h (decide_eq_true z)
  rw [List.getD_eq_getElem?_getD,List.getElem?_eq_none (by omega)] at q
  exact q
abbrev x_:Stmt:=top 44
theorem sc_row_plus:zi ["one","other","many"] ["one","other"] (defScope x_):=by walk_at "sc"
theorem mO (T:Txt K mg A) (G_added:DOk P w K mg base 3 "added" (n8)) (G_thing_at:DOk P w K mg base 1 "thing_at" (ub)) (F:Fun K "row_plus" "row_plus" x_ f fd):FnOk P w K mg base CX0 4 f fd ["one","other"] (zt K (n5)):=by
 refine okD F sc_row_plus (fun ds Q h=>?_) (fun cdv A' outer s H E hr ds Q h=>?_)
 ·obtain ⟨a,b,rfl,ha,hb,q⟩:=h
  rfl
 obtain ⟨a,b,rfl,ha,hb,q⟩:=h
 refine ⟨_,(zf (zA (i:=2) sc_row_plus.nd rfl (Or.inl rfl) (Vu rfl rfl T.n_max (zc (yr rfl T.len (dv 0)) (zc (yr rfl T.len (dv 1)) zg))))
 (zh (zk (DF.de (bV (osc:=defScope x_) (N0:=["one","other","many"]) (caps:=["one","other"]) (js:=[0,1]) rfl (by decide +kernel) rfl rfl rfl rfl T.range (dv 2) (fun _ _ _ _ _=>(zl G_added (hr.mono (by decide)) rfl (zc (zl G_thing_at (hr.mono (by decide)) rfl (zc (dv 1) (zc (dv 0) zg))) (zc (zl G_thing_at (hr.mono (by decide)) rfl (zc (dv 2) (zc (dv 0) zg))) zg))))))))),?_⟩
 have l1:(a.map Nm.dt).length=a.length:=List.length_map _
 have l2:(b.map Nm.dt).length=b.length:=List.length_map _
 walk_at "rd"
 have em:(if ((b.map Nm.dt).length:Int)>((a.map Nm.dt).length:Int) then ((b.map Nm.dt).length:Int) else ((a.map Nm.dt).length:Int))=((max a.length b.length:Nat):Int):=by
  rw [l1,l2]; split <;> omega
 rw [em]
 refine ⟨_,fun i es=>es=((List.range i).map fun p=>(a.getD p (.i 0)).add (b.getD p (.i 0))).map Nm.dt,rfl,by omega,by omega,rfl,?_,?_⟩
 ·rintro i es hi rfl
  refine ⟨_,rfl,_,rfl,_,i,rfl,by omega,?_⟩
  refine ⟨_,rfl,_,rfl,_,i,rfl,by omega,?_⟩
  rw [Int.toNat_natCast,nS,nS]
  refine ⟨_,_,a.getD i (.i 0),b.getD i (.i 0),rfl,wr _,wr _,?_⟩
  show List.map Nm.dt (List.map (fun p=>(a.getD p (.i 0)).add (b.getD p (.i 0))) (List.range i))++[_]=List.map Nm.dt (List.map (fun p=>(a.getD p (.i 0)).add (b.getD p (.i 0))) (List.range (i+1)))
  rw [List.range_succ,List.map_append,List.map_append]
  rfl
 ·rintro es rfl
  rw [Int.toNat_natCast]
  exact q
abbrev wa:Stmt:=top 13
theorem sc_multiplied:zi ["one","other","left","right"] ["one","other"] (defScope wa):=by walk_at "sc"
theorem qP (T:Txt K mg A) (G_is_whole:DOk P w K mg base 1 "is_whole" (xj)) (G_as_pair:DOk P w K mg base 2 "as_pair" (vF)) (F:Fun K "multiplied" "multiplied" wa f fd):FnOk P w K mg base CX0 3 f fd ["one","other"] (zt K (iD)):=by
 refine okD F sc_multiplied (fun ds Q h=>?_) (fun cdv A' outer s H E hr ds Q h=>?_)
 ·obtain ⟨d,e,m,n,rfl,hm,hn,k1,q⟩:=h
  rfl
 obtain ⟨d,e,m,n,rfl,hm,hn,k1,q⟩:=h
 refine ⟨_,(zf (zF (DW.dt (yO (yf (zl G_is_whole (hr.mono (by decide)) rfl (zc (dv 0) zg))) (yN (yf (zl G_is_whole (hr.mono (by decide)) rfl (zc (dv 1) zg)))))) (zh (zk (zj z9 (dv 0) (dv 1)))) zr)
 (zf (zA (i:=2) sc_multiplied.nd rfl (Or.inl rfl) (zl G_as_pair (hr.mono (by decide)) rfl (zc (dv 0) zg)))
 (zf (zA (i:=3) sc_multiplied.nd rfl (Or.inl rfl) (zl G_as_pair (hr.mono (by decide)) rfl (zc (dv 1) zg)))
 (zh (zk (zG (zc (zj zV (zj z9 (zq (dv 2) zd (fun _ _=>rfl)) (zq (dv 3) zd (fun _ _=>rfl))) (zj z9 (zq (dv 2) zd (fun _ _=>rfl)) (zq (dv 3) zd (fun _ _=>rfl)))) (zc (zj z4 (zj z9 (zq (dv 2) zd (fun _ _=>rfl)) (zq (dv 3) zd (fun _ _=>rfl))) (zj z9 (zq (dv 2) zd (fun _ _=>rfl)) (zq (dv 3) zd (fun _ _=>rfl)))) zg)))))))),?_⟩
 obtain rfl:=yY hm
 obtain rfl:=yY hn
 obtain ⟨h1,h2,h3,h4⟩:=k1
 cases m <;> cases n
 all_goals
  walk_at "rd"
  first | refine ⟨h1,?_⟩ | skip
  walk_at "rd"
  first | exact q | skip
  try refine ⟨h2,?_⟩
  walk_at "rd"
  try refine ⟨h3,?_⟩
  walk_at "rd"
  try refine ⟨h4,?_⟩
  walk_at "rd"
  try exact q
abbrev xF:Stmt:=top 45
theorem oR:zi ["row","factor"] ["row","factor"] (defScope xF):=by walk_at "sc"
theorem o6 (T:Txt K mg A) (G_multiplied:DOk P w K mg base 3 "multiplied" (iD)) (F:Fun K "row_times" "row_times" xF f fd):FnOk P w K mg base CX0 4 f fd ["row","factor"] (zt K (qE)):=by
 refine okD F oR (fun ds Q h=>?_) (fun cdv A' outer s H E hr ds Q h=>?_)
 ·obtain ⟨a,f,rfl,ha,⟨f1,f2,f3,f4⟩,q⟩:=h
  rfl
 obtain ⟨a,f,rfl,ha,⟨f1,f2,f3,f4⟩,q⟩:=h
 refine ⟨_,(zh (zk (DF.de (eL (osc:=defScope xF) (N0:=["row","factor"]) (caps:=["factor"]) (js:=[1]) rfl (by decide +kernel) rfl rfl rfl (dv 0) (fun _ _ _ _ _=>(zl G_multiplied (hr.mono (by decide)) rfl (zc (dv 0) (zc (dv 1) zg)))))))),?_⟩
 have ll:=zI a
 refine ⟨_,rfl,a.map Dt.int,fun i es=>es=((a.take i).map fun z=>(Nm.i z).mul f).map Nm.dt,rfl,by rw [ll]; omega,rfl,?_,?_⟩
 ·rintro i e es hi rfl
  obtain ⟨rfl,hl⟩:=aI hi
  refine ⟨_,rfl,_,rfl,_,_,.i (a.getD i 0),f,rfl,rfl,wr f,⟨small f1 f2 _,small f3 f4 _,small f3 f4 _,small f1 f2 _⟩,?_⟩
  show List.map Nm.dt (List.map (fun z=>(Nm.i z).mul f) (a.take i))++[_]=List.map Nm.dt (List.map (fun z=>(Nm.i z).mul f) (a.take (i+1)))
  rw [gG hl,List.map_append,List.map_append]
  rfl
 ·rintro es rfl
  rw [ll,List.take_length]
  exact q
abbrev ym:Stmt:=top 27
theorem sc_held_to_be_a_heap:zi ["way","heap","things"] ["way","heap"] (defScope ym):=by walk_at "sc"
theorem wW (T:Txt K mg A) (F:Fun K "held_to_be_a_heap" "held_to_be_a_heap" ym f fd):FnOk P w K mg base (CX1 P w) 1 f fd ["way","heap"] (rd K (gx A)):=by
 refine Rv F sc_held_to_be_a_heap (fun ds Q R h=>?_) (fun cdv A' outer s H E hr ds Q R h rz=>?_)
 ·obtain ⟨k,n,h,rfl,hn,hw⟩:=h
  rfl
 obtain ⟨k,n,h,rfl,hn,hw⟩:=h
 refine ⟨_,(zf (zF (wz (yf (ux T.isinstance T.gc_Falling (dv 0)))) (zh va) zr)
 (zh (bP (j:=2) rfl sc_held_to_be_a_heap.nd rfl (Or.inl rfl) Uc (dv 1) (zh (zF (zw (mV) (dv 2) zd (zp _)) (zh (bM rfl rfl T.gc_TooLess T.ex_TooLess qy)) zr))))),?_⟩
 rcases hw with z | hw
 ·exact z.elim
 have hk:k=.falling:=by rcases hw with z | z <;> exact z.1
 subst hk
 refine ⟨_,rfl,_,_,_,_,rfl,T.isi_Falling,T.ki_Falling_Falling,_,rfl,ifF rfl ?_⟩
 rcases hw with ⟨_,⟨z,hz,hz0⟩,hR⟩ | ⟨_,hnn,q⟩
 ·refine ⟨_,rfl,_,fun i ρ=>∃ v,ρ=[.some (zZ A .falling n),.some (zE h),v]∧∀ (j:Nat) (y:Int),j<i→h[j]? = some y→0≤y,rfl,⟨_,rfl,fun j _ z=>absurd z (Nat.not_lt_zero _)⟩,?_,?_⟩
  ·rintro i e ρ' he ⟨v,rfl,hb⟩
   rw [List.getElem?_map] at he
   obtain ⟨y,hy,rfl⟩:=Option.map_eq_some_iff.mp he
   refine ⟨_,rfl,_,_,rfl,rfl,_,rfl,ifB (fun _=>rz _ hR) (fun h1=>⟨_,rfl,fun j y' hj hy'=>?_⟩)⟩
   have h1:=of_decide_eq_false h1
   rcases (by omega:j<i∨j=i) with w | w
   ·exact hb j y' w hy'
   ·subst w
    rw [hy] at hy'
    cases hy'
    omega
  ·rintro ρ' ⟨v,rfl,hb⟩
   obtain ⟨j,hj⟩:=List.mem_iff_getElem?.mp hz
   rw [List.length_map] at hb
   have hlt:j<h.length:=by
    rcases Nat.lt_or_ge j h.length with w | w
    ·exact w
    ·rw [List.getElem?_eq_none w] at hj; cases hj
   have:=hb j z hlt hj
   omega
 ·refine ⟨_,rfl,_,fun i ρ=>∃ v,ρ=[.some (zZ A .falling n),.some (zE h),v],rfl,⟨_,rfl⟩,?_,?_⟩
  ·rintro i e ρ' he ⟨v,rfl⟩
   obtain ⟨y,hy,rfl⟩:=List.mem_map.mp (List.mem_of_getElem? he)
   have:=hnn y hy
   exact ⟨_,rfl,_,_,rfl,rfl,_,rfl,ifF (decide_eq_false (by omega)) ⟨_,rfl⟩⟩
  ·rintro ρ' ⟨v,rfl⟩
   exact q
abbrev uI:Stmt:=top 30
theorem kl:zi ["way","heap","place"] ["way","heap","place"] (defScope uI):=by walk_at "sc"
theorem kC (T:Txt K mg A) (F:Fun K "step_at" "step_at" uI f fd):FnOk P w K mg base CX0 1 f fd ["way","heap","place"] (zt K (l6 A)):=by
 refine okD F kl (fun ds Q h=>?_) (fun cdv A' outer s H E hr ds Q h=>?_)
 ·obtain ⟨n,l,p,rfl,hn,hp,q⟩:=h
  rfl
 obtain ⟨n,l,p,rfl,hn,hp,q⟩:=h
 refine ⟨_,(yb (zF (DW.dt (yO (zw (nh) (dv 2) zd (zp _)) (yO (zw (Zd) (zq (dv 1) (dv 2) (fun _ _=>rfl)) (zP (dv 0)) (zp _)) (yN (zw (nh) (zq (dv 1) (zj zV (dv 2) zd) (fun _ _=>rfl)) zd (zp _)))))) (zh (zk (zG (zc qy (zc (dv 2) zg))))) zr)
 (zf (zF (zw (nh) (zq (dv 1) (dv 2) (fun _ _=>rfl)) (zP (dv 0)) (zp _)) (zh (zk (zG (zc qy (zc (dv 2) zg))))) zr)
 (zh (zk Vs)))),?_⟩
 have a1:atI (l.map Dt.int) (p:Int)=some (.int (hf l p)):=wE (qt hp)
 refine ⟨fun ρ=>ρ=[.some (zZ A .falling n),.some (zE l),.some (.int p)]∧¬ (0<p∧n≤hf l p∧0<hf l (p - 1)),?_,?_⟩
 ·refine ⟨_,rfl,_,_,rfl,rfl,_,rfl,ifB (fun h1=>?_) (fun h1=>ifF rfl ⟨rfl,fun z=>?_⟩)⟩
  ·have h1:=of_decide_eq_true h1
   refine ⟨_,rfl,_,rfl,_,_,_,rfl,rfl,a1,_,rfl,_,_,_,rfl,rfl,T.cl_Falling,T.na_Falling,_,_,rfl,rfl,_,rfl,ifB (fun h2=>?_) (fun h2=>ifF rfl ⟨rfl,fun z=>?_⟩)⟩
   ·have h2:=of_decide_eq_true h2
    have e1:((p:Int) - 1)=((p - 1:Nat):Int):=by omega
    refine ⟨_,rfl,_,rfl,_,_,rfl,rfl,_,_,_,rfl,rfl,(by rw [e1]; exact wE (qt (by omega))),_,_,rfl,rfl,_,rfl,ifB (fun h3=>?_) (fun h3=>⟨rfl,fun z=>?_⟩)⟩
    ·have h3:=of_decide_eq_true h3
     walk_at "rd"
     refine aM q ?_
     unfold yy
     rw [if_pos ⟨by omega,h2,h3⟩]
     rfl
    ·exact absurd z.2.2 (of_decide_eq_false h3)
   ·exact absurd z.2.1 (of_decide_eq_false h2)
  ·have:=of_decide_eq_false h1
   omega
 ·rintro ρ ⟨rfl,hno⟩
  refine ⟨_,rfl,_,rfl,_,_,_,rfl,rfl,a1,_,rfl,_,_,_,rfl,rfl,T.cl_Falling,T.na_Falling,_,_,rfl,rfl,_,rfl,ifB (fun h2=>?_) (fun h2=>?_)⟩
  ·walk_at "rd"
   refine aM q ?_
   unfold yy
   rw [if_neg hno,if_pos (of_decide_eq_true h2)]
   rfl
  ·refine aM q ?_
   unfold yy
   rw [if_neg hno,if_neg (of_decide_eq_false h2)]
   rfl
abbrev wP:Stmt:=top 31
theorem sc_how_often:zi ["way","heap","step","place"] ["way","heap","step"] (defScope wP):=by walk_at "sc"
theorem o9 (T:Txt K mg A) (F:Fun K "how_often" "how_often" wP f fd):FnOk P w K mg base CX0 1 f fd ["way","heap","step"] (zt K (gq A)):=by
 refine okD F sc_how_often (fun ds Q h=>?_) (fun cdv A' outer s H E hr ds Q h=>?_)
 ·obtain ⟨n,l,s,rfl,hn,hp,hc,q⟩:=h
  rfl
 obtain ⟨n,l,s,rfl,hn,hp,hc,q⟩:=h
 refine ⟨_,(zf (zA (i:=3) sc_how_often.nd rfl (Or.inl rfl) (zq (dv 2) zd (fun _ _=>rfl)))
 (zf (zF (zw (YF) (zq (dv 2) zd (fun _ _=>rfl)) qy (zp _)) (zh (zk (b_ rfl rfl T.n_min (zc (zj wq (zq (dv 1) (dv 3) (fun _ _=>rfl)) (zP (dv 0))) (zc (zq (dv 1) (zj zV (dv 3) zd) (fun _ _=>rfl)) zg))))) zr)
 (zh (zk (zj wq (zq (dv 1) (dv 3) (fun _ _=>rfl)) (zj z4 (zP (dv 0)) zd)))))),?_⟩
 obtain ⟨b1,b2⟩:=xu hn
 have a1:atI (l.map Dt.int) (s.2:Int)=some (.int (hf l s.2)):=wE (qt hp)
 match s,hp,hc,q,a1 with
 | (true,p),hp,⟨c1,c2,c3⟩,q,a1=>
  have e1:((p:Int) - 1)=((p - 1:Nat):Int):=by omega
  have hp:p<l.length:=hp
  refine ⟨_,rfl,_,1,_,rfl,rfl,rfl,_,rfl,_,0,_,rfl,rfl,rfl,_,_,rfl,rfl,_,rfl,ifT rfl ?_⟩
  refine ⟨_,rfl,_,rfl,_,_,_,rfl,rfl,a1,_,rfl,_,_,_,rfl,rfl,T.cl_Falling,T.na_Falling,_,_,rfl,rfl,ah (by rw [Bool.and_eq_true,bne_iff_ne,decide_eq_true_iff]; omega),?_⟩
  refine ⟨_,rfl,_,rfl,_,_,rfl,rfl,_,_,_,rfl,rfl,(by rw [e1]; exact wE (qt (by omega))),_,_,rfl,?_⟩
  have d1:=lK (show (0:Int)<n by omega) c2
  have d2:=hU (a:=hf l p) (show (0:Int)<n by omega)
  show Q (.int (if hf l (p - 1)<(hf l p).fdiv n then hf l (p - 1) else (hf l p).fdiv n))
  split
  ·rename_i hlt
   have:=Int.mul_le_mul_of_nonneg_right (show hf l (p - 1)≤(hf l p).fdiv n by omega) (show 0≤n by omega)
   exact q _ c3 ⟨c1,by omega,Int.le_refl _⟩
  ·exact q _ d1 ⟨c1,d2,by omega⟩
 | (false,p),hp,hc,q,a1=>
  have hc:n<hf l p:=hc
  refine ⟨_,rfl,_,1,_,rfl,rfl,rfl,_,rfl,_,0,_,rfl,rfl,rfl,_,_,rfl,rfl,_,rfl,ifF rfl ?_⟩
  refine ⟨_,rfl,_,rfl,_,_,_,rfl,rfl,a1,_,rfl,_,_,_,rfl,rfl,T.cl_Falling,T.na_Falling,_,_,rfl,rfl,_,_,rfl,rfl,ah (by rw [Bool.and_eq_true,bne_iff_ne,decide_eq_true_iff]; omega),?_⟩
  exact q _ (lK (show (0:Int)<n+1 by omega) (show n+1≤hf l p by omega)) (hU (show (0:Int)<n+1 by omega))
abbrev uM:Stmt:=top 28
theorem sc_changes:zi ["way","step","kind","place","parted"] ["way","step"] (defScope uM):=by walk_at "sc"
theorem kH (T:Txt K mg A) (F:Fun K "changes" "changes" uM f fd):FnOk P w K mg base CX0 1 f fd ["way","step"] (zt K (Xe A)):=by
 refine okD F sc_changes (fun ds Q h=>?_) (fun cdv A' outer s H E hr ds Q h=>?_)
 ·obtain ⟨n,s,rfl,hn,hs,q⟩:=h
  rfl
 obtain ⟨n,s,rfl,hn,hs,q⟩:=h
 refine ⟨_,(zf (zA (i:=2) sc_changes.nd rfl (Or.inl rfl) (zq (dv 1) zd (fun _ _=>rfl)))
 (zf (zA (i:=3) sc_changes.nd rfl (Or.inl rfl) (zq (dv 1) zd (fun _ _=>rfl)))
 (zf (zF (zw (YF) (dv 2) qy (zp _)) (zh (zk (yi (zc (zG (zc (zj z4 (dv 3) zd) (zc zd zg))) (zc (zG (zc (dv 3) (zc (yh (zP (dv 0))) zg))) (zc (zG (zc (zj zV (dv 3) zd) (zc (yh zd) zg))) zg)))))) zr)
 (zf (yk (i:=4) sc_changes.nd rfl (Or.inl rfl) (vZ (zc (zG (zc (zj z4 (dv 3) zd) (zc zd zg))) (zc (zG (zc (dv 3) (zc (zj zV (yh (zP (dv 0))) zd) zg))) zg))))
 (yb (zF (zw (yu hr) (dv 3) zd (zp _)) (zh (wB 4 (zG (zc zd (zc (zP (dv 0)) zg))))) zr)
 (yb (zF (zw (nh) (dv 3) zd (zp _)) (zf (wB 4 (zG (zc (zj zV (dv 3) zd) (zc (zj zV (zP (dv 0)) zd) zg))))
 (zh (wB 4 (zG (zc (zj zV (dv 3) zd) (zc zd zg)))))) zr)
 (zh (ra 4)))))))),?_⟩
 match s,hs,q with
 | (true,0),hs,_=>exact absurd (hs rfl) (Nat.lt_irrefl _)
 | (true,p+1),_,q=>
  repeat (first | (walk_at "rd1") | refine ⟨_,_,_,rfl,rfl,T.cl_Falling,T.na_Falling,?_⟩)
  refine aM q ?_
  show Dt.lst [.tup [.int (((p+1:Nat):Int)+1),.int 1],.tup [.int ((p+1:Nat):Int),.int (-n)],.tup [.int (((p+1:Nat):Int) - 1),.int (-1)]]=_
  rw [show ((p+1:Nat):Int) - 1=(p:Int) by omega]
  rfl
 | (false,0),_,q=>
  repeat (first | (walk_at "rd1") | refine ⟨_,_,_,rfl,rfl,T.cl_Falling,T.na_Falling,?_⟩)
  refine ⟨fun ρ=>ρ=[.some (zZ A .falling n),.some (y4 (false,0)),.some (.str (kg false)),.some (.int 0),.own [chD (1,1),chD (0,-n - 1)]],?_,?_⟩
  ·exact ⟨_,rfl,rfl,rfl,_,rfl,ifF (neI (by decide)) rfl⟩
  rintro ρ rfl
  refine ⟨fun ρ=>ρ=[.some (zZ A .falling n),.some (y4 (false,0)),.some (.str (kg false)),.some (.int 0),.own [chD (1,1),chD (0,-n - 1)]],?_,?_⟩
  ·exact ⟨_,rfl,_,_,rfl,rfl,_,rfl,ifF (by decide) rfl⟩
  rintro ρ rfl
  exact ⟨_,rfl,q⟩
 | (false,1),_,q=>
  repeat (first | (walk_at "rd1") | refine ⟨_,_,_,rfl,rfl,T.cl_Falling,T.na_Falling,?_⟩)
  refine ⟨fun ρ=>ρ=[.some (zZ A .falling n),.some (y4 (false,1)),.some (.str (kg false)),.some (.int 1),.own [chD (2,1),chD (1,-n - 1),chD (0,n)]],?_,?_⟩
  ·exact ⟨_,rfl,rfl,rfl,_,rfl,ifT (eqI rfl) ⟨_,rfl,_,rfl,_,_,_,rfl,rfl,T.cl_Falling,T.na_Falling,rfl,(by show (2:Nat)≤100000; decide),rfl⟩⟩
  rintro ρ rfl
  refine ⟨fun ρ=>ρ=[.some (zZ A .falling n),.some (y4 (false,1)),.some (.str (kg false)),.some (.int 1),.own [chD (2,1),chD (1,-n - 1),chD (0,n)]],?_,?_⟩
  ·exact ⟨_,rfl,_,_,rfl,rfl,_,rfl,ifF (by decide) rfl⟩
  rintro ρ rfl
  exact ⟨_,rfl,q⟩
 | (false,p+2),_,q=>
  repeat (first | (walk_at "rd1") | refine ⟨_,_,_,rfl,rfl,T.cl_Falling,T.na_Falling,?_⟩)
  refine ⟨fun ρ=>ρ=[.some (zZ A .falling n),.some (y4 (false,p+2)),.some (.str (kg false)),.some (.int ((p+2:Nat):Int)),.own [chD (p+3,1),chD (p+2,-n - 1)]],?_,?_⟩
  ·exact ⟨_,rfl,rfl,rfl,_,rfl,ifF (neI (by show ((p+2:Nat):Int)≠1; omega)) rfl⟩
  rintro ρ rfl
  refine ⟨fun ρ=>ρ=[.some (zZ A .falling n),.some (y4 (false,p+2)),.some (.str (kg false)),.some (.int ((p+2:Nat):Int)),.own [chD (p+3,1),chD (p+2,-n - 1),chD (p+1,n - 1),chD (p,1)]],?_,?_⟩
  ·refine ⟨_,rfl,_,_,rfl,rfl,_,rfl,ifT (decide_eq_true (by omega)) ?_⟩
   refine ⟨_,rfl,_,rfl,_,_,rfl,rfl,_,rfl,_,_,_,rfl,rfl,T.cl_Falling,T.na_Falling,_,_,rfl,rfl,rfl,(by show (2:Nat)≤100000; decide),?_⟩
   refine ⟨_,rfl,_,rfl,_,_,rfl,rfl,rfl,(by show (3:Nat)≤100000; decide),?_⟩
   show [_,_,_,_,Sl.own [_,_,Dt.tup [.int (((p+2:Nat):Int) - 1),.int (n - 1)],Dt.tup [.int (((p+2:Nat):Int) - 2),.int 1]]]=_
   rw [show ((p+2:Nat):Int) - 1=((p+1:Nat):Int) by omega,show ((p+2:Nat):Int) - 2=(p:Int) by omega]
   rfl
  rintro ρ rfl
  exact ⟨_,rfl,q⟩
abbrev vS:Stmt:=top 29
theorem sc_do_steps:zi ["way","heap","step","many","place","things"] ["way","heap","step","many"] (defScope vS):=by walk_at "sc"
theorem mT (T:Txt K mg A) (G_changes:DOk P w K mg base 1 "changes" (Xe A)) (F:Fun K "do_steps" "do_steps" vS f fd):FnOk P w K mg base CX0 2 f fd ["way","heap","step","many"] (l7 K (S7 A)):=by
 refine okA F sc_do_steps (fun d0 es0 ds Q h=>?_) (fun cdv A' outer s H E hr d0 es0 ds Q a h=>?_)
 ·obtain ⟨n,l,s,m,rfl,rfl,rfl,hn,hs,hp,q⟩:=h
  rfl
 obtain ⟨n,l,s,m,rfl,rfl,rfl,hn,hs,hp,q⟩:=h
 refine ⟨_,(zf (w_ PassesOwn.never (zw (mV) (Yj 1 rfl T.len) (zj z4 (zq (dv 2) zd (fun _ _=>rfl)) zd) (zp _)) (zh (Ye 1 zd)))
 (zh (Yb (i:=4) (j:=5) rfl sc_do_steps.nd rfl rfl (Or.inl rfl) (Or.inl rfl) PassesOwn.never (zl G_changes (hr.mono (by decide)) rfl (zc (dv 0) (zc (dv 2) zg))) (zh (Yd 1 Ve (dv 4) (zj z9 (dv 3) (dv 5))))))),?_⟩
 obtain ⟨b1,b2⟩:=xu hn
 refine ⟨fun m' ρ=>∃ k,ρ=[.some (zZ A .falling n),.arg a ((l++List.replicate k 0).map Dt.int),.some (y4 s),.some (.int m),.none,.none]∧m'=(s.2+2) - (l.length+k)∧(k=0∨l.length+k≤s.2+2)∧k≤s.2+2,⟨_,0,by rw [List.replicate_zero,List.append_nil]; rfl,rfl,.inl rfl,Nat.zero_le _⟩,?_⟩
 rintro m' ρ' ⟨k,rfl,rfl,hk,hk2⟩
 have hlen:((l++List.replicate k 0).map Dt.int).length=l.length+k:=by rw [zI,List.length_append,List.length_replicate]
 refine ⟨a,_,rfl,_,rfl,_,1,_,rfl,rfl,rfl,_,_,rfl,rfl,_,_,rfl,rfl,_,rfl,?_⟩
 rw [hlen]
 refine ifB (fun h=>?_) (fun h=>?_)
 ·have h:=of_decide_eq_true h
  have h':l.length+k<s.2+2:=by omega
  refine ⟨a,_,rfl,by rw [hlen]; omega,_,?_,k+1,?_,rfl,.inr (by omega),by omega⟩
  ·omega
  ·show [_,_,_,_,_,_]=_
   rw [List.replicate_succ',← List.append_assoc,← qB]
 ·have h:=of_decide_eq_false h
  have h':s.2+2≤l.length+k:=by omega
  obtain ⟨l2,hl2⟩:∃ l2,l2=l++List.replicate k 0:=⟨_,rfl⟩
  have el:l2.length=max l.length (s.2+2):=by rw [hl2,List.length_append,List.length_replicate]; omega
  have ef:∀ i,hf l2 i=hf l i:=fun i=>by rw [hl2]; exact Vg l k i
  rw [← hl2]
  refine ⟨_,rfl,_,rfl,n,s,rfl,hn,hs,_,fun i ρ=>∃ g v4 v5,ρ=[.some (zZ A .falling n),.arg a (g.map Dt.int),.some (y4 s),.some (.int m),v4,v5]∧g.length=l2.length∧∀ j,hf g j=hf l j+m*vd ((chg n s).take i) j,rfl,⟨l2,_,_,rfl,rfl,fun j=>by rw [ef]; show _=hf l j+m*0; omega⟩,?_,?_⟩
  ·rintro i e ρ' he ⟨g,v4,v5,rfl,hg,hj⟩
   rw [List.getElem?_map] at he
   obtain ⟨x,hx,rfl⟩:=Option.map_eq_some_iff.mp he
   have hm:=List.mem_of_getElem? hx
   have hlt:=iy (m:=g.length) (by omega) x hm
   obtain ⟨c1,c2⟩:=VG b1 b2 x hm
   refine ⟨_,_,rfl,a,_,rfl,_,rfl,(x.1:Int),hf g x.1,rfl,by omega,?_,_,rfl,_,rfl,_,_,rfl,rfl,small (by omega) (by omega) _,_,rfl,?_⟩
   ·rw [Int.toNat_natCast]; exact qt hlt
   ·rw [Int.toNat_natCast]
    refine ⟨g.set x.1 (hf g x.1+m*x.2),.some (.int x.1),.some (.int x.2),?_,by rw [List.length_set]; exact hg,fun j=>?_⟩
    ·show [_,_,_,_,_,_]=_
     rw [← mw]
    ·rw [Vf hlt,hj j,eN hx,Int.mul_add]
     have:pt x.1 (m*x.2) j=m*pt x.1 x.2 j:=by
      unfold pt
      split
      ·rfl
      ·rw [Int.mul_zero]
     omega
  ·rintro ρ' ⟨g,v4,v5,rfl,hg,hj⟩
   rw [List.length_map,List.take_length] at hj
   exact ⟨_,rfl,q g (by omega) hj⟩
abbrev uH:Stmt:=top 16
theorem sc_trimmed:zi ["row","things"] ["row"] (defScope uH):=by walk_at "sc"
theorem kB (T:Txt K mg A) (F:Fun K "trimmed" "trimmed" uH f fd):FnOk P w K mg base CX0 1 f fd ["row"] (yZ K (iB)):=by
 refine okF F sc_trimmed (fun ds Q h=>?_) (fun cdv A' outer s H E hr ds Q h=>?_)
 ·obtain ⟨r,rfl,q⟩:=h
  rfl
 obtain ⟨r,rfl,q⟩:=h
 refine ⟨_,(zf (yk (i:=1) sc_trimmed.nd rfl (Or.inl rfl) (rb rfl T.n_list (dv 0)))
 (zf (w_ PassesOwn.never (DW.dt (yO (Z9 1) (yN (zw (yu hr) (ii 1 (yh zd) (fun _ _=>rfl)) zd (zp _))))) (zh (bN 1)))
 (zh (ra 1)))),?_⟩
 refine ⟨_,rfl,_,rfl,_,rfl,?_⟩
 exact mj rfl ⟨_,rfl,q⟩
abbrev yl:Stmt:=top 32
theorem sc_steps_and_writing:zi ["way","heap","done","left","place","step","many"] ["way","heap"] (defScope yl):=by walk_at "sc"
theorem wV (T:Txt K mg A) (G_held_to_be_a_heap:DOkX P w K mg base 1 "held_to_be_a_heap" (gx A)) (G_step_at:DOk P w K mg base 1 "step_at" (l6 A)) (G_how_often:DOk P w K mg base 1 "how_often" (gq A)) (G_do_steps:AOk P w K mg base 2 "do_steps" (S7 A)) (G_trimmed:FOk P w K mg base 1 "trimmed" (iB)) (F:Fun K "steps_and_writing" "steps_and_writing" yl f fd):FnOk P w K mg base (CX1 P w) 3 f fd ["way","heap"] (n4 K (.t true true) (Xc A)):=by
 refine Rt F sc_steps_and_writing (fun ds Q R h=>?_) (fun cdv A' outer s H E hr ds Q R h rz=>?_)
 ·obtain ⟨k,n,h,rfl,hn,hl,hw⟩:=h
  rfl
 obtain ⟨k,n,h,rfl,hn,hl,hw⟩:=h
 refine ⟨_,(zf (h_ (aa G_held_to_be_a_heap (hr.mono (by decide)) rfl (zc (dv 0) (zc (dv 1) zg))))
 (zf (yk (i:=2) sc_steps_and_writing.nd rfl (Or.inl rfl) (vZ zg))
 (zf (yk (i:=3) sc_steps_and_writing.nd rfl (Or.inl rfl) (rb rfl T.n_list (dv 1)))
 (zf (zA (i:=4) sc_steps_and_writing.nd rfl (Or.inl rfl) (zj zV (vB 3 rfl T.len) zd))
 (zf (w_ Uc (zw (Zd) (dv 4) zd (zp _)) (zf (zA (i:=5) sc_steps_and_writing.nd rfl (Or.inl rfl) (gd (zl G_step_at (hr.mono (by decide)) rfl (zc (dv 0) (zc (dv 3) (zc (dv 4) zg))))))
 (zh (zF (Vk (dv 5)) (zh (Yc (i:=4) Vd sc_steps_and_writing.nd rfl (Or.inl rfl) zd)) (zf (zA (i:=6) sc_steps_and_writing.nd rfl (Or.inl rfl) (gd (zl G_how_often (hr.mono (by decide)) rfl (zc (dv 0) (zc (dv 3) (zc (dv 5) zg))))))
 (zf (Vn 2 (DF.de (Vp (yi (zc (dv 5) zg)) (dv 6))))
 (zf (bQ 3 G_do_steps (hr.mono (by decide)) rfl (dv 0) (zc (dv 5) (zc (dv 6) zg)))
 (zh (zA (i:=4) sc_steps_and_writing.nd rfl (Or.inl rfl) (b_ rfl rfl T.n_min (zc (zj z4 (dv 4) zd) (zc (zj zV (vB 3 rfl T.len) zd) zg))))))))))))
 (vz 3 (zh (bL 2 (ya G_trimmed (hr.mono (by decide)) rfl (zc (dv 3) zg)))))))))),?_⟩
 refine ⟨_,rfl,_,rfl,k,n,h,rfl,hn,?_⟩
 rcases hw with hw | ⟨h1,h2,h3⟩ | ⟨rfl,hnn,hpot,q⟩
 ·exact .inl (ba rz hw)
 ·exact .inr (.inl ⟨h1,h2,rz _ h3⟩)
 refine .inr (.inr ⟨rfl,hnn,?_⟩)
 obtain ⟨b1,b2⟩:=xu hn
 have h0:=US hnn
 refine ⟨rfl,_,rfl,_,rfl,_,rfl,_,rfl,_,rfl,_,_,rfl,rfl,?_⟩
 refine ⟨fun m ρ=>∃ (ss:List Stp) (l:List Int) (p:Int) (v5 v6:Sl),ρ=[.some (zZ A .falling n),.some (zE h),.own (ss.map y4),.own (l.map Dt.int),.some (.int p),v5,v6]∧-1≤p∧p<l.length∧(∀ i,0≤hf l i)∧l.length≤h.length+60∧My.hw n l=My.hw n h∧Walk n (hf h) ss (hf l)∧(ss.length:Int)+pot n l≤pot n h∧(∀ q:Nat,p<q→q<l.length→yy n (hf l) q=none)∧m=(3*pot n l+p+1).toNat,?_,?_⟩
 ·refine ⟨_,[],h,_,_,_,rfl,by omega,?_,h0,by omega,rfl,rfl,?_,fun q h1 h2=>?_,rfl⟩
  ·rw [zI]; omega
  ·show (0:Int)+_≤_; omega
  ·rw [zI] at h1; omega
 rintro m ρ' ⟨ss,l,p,v5,v6,rfl,p0,p1,l0,hlen,hwe,hwk,hss,hno,rfl⟩
 have pn:=mt (w:=cst n) (fun i=>by have:=(vC n i).1; omega) l0 l.length
 have pn:0≤pot n l:=pn
 refine ⟨_,rfl,_,_,rfl,rfl,_,rfl,ifB (fun hp=>?_) (fun hp=>?_)⟩
 ·have hp:=of_decide_eq_true hp
  obtain ⟨pp,rfl⟩:∃ pp:Nat,p=pp:=⟨p.toNat,by omega⟩
  have hpl:pp<l.length:=by omega
  refine ⟨_,rfl,_,rfl,_,rfl,n,l,pp,rfl,hn,hpl,?_⟩
  cases hs:yy n (hf l) pp with
  | none=>
   refine ⟨rfl,_,rfl,_,rfl,ifT rfl ?_⟩
   refine ⟨_,rfl,_,_,rfl,rfl,_,?_,ss,l,(pp:Int) - 1,_,_,rfl,by omega,by omega,l0,hlen,hwe,hwk,hss,fun q h1 h2=>?_,rfl⟩
   ·omega
   ·by_cases e:q=pp
    ·subst e; exact hs
    ·exact hno q (by omega) h2
  | some s=>
   obtain ⟨e2,hcan⟩:=mr hs
   have hsp:s.2<l.length:=by omega
   refine ⟨rfl,_,rfl,_,rfl,ifF rfl ?_⟩
   refine ⟨_,rfl,_,rfl,_,rfl,n,l,s,rfl,hn,hsp,hcan,fun m hm hof=>⟨rfl,?_⟩⟩
   have hmc:=hof.le_pot b1 l0 (by omega) hsp
   refine ⟨_,rfl,_,rfl,rfl,_,rfl,_,_,rfl,rfl,by omega,by omega,by show 1*_≤_; omega,_,rfl,?_,?_⟩
   ·rw [oj,List.length_map,List.length_map,List.length_replicate]; omega
   have pb:pp<h.length+48:=by
    refine dU b1 h0 l0 hpot hwe ?_
    rw [← e2]
    exact hcan.pos b1
   refine ⟨_,rfl,_,rfl,_,rfl,_,rfl,n,l,s,m,rfl,rfl,rfl,hn,hof.up,by omega,fun l' hl' he'=>?_⟩
   obtain ⟨k1,k2,k3,k4⟩:=eB b1 hm l0 hof hl' he'
   have pn':=mt (w:=cst n) (fun i=>by have:=(vC n i).1; omega) k1 l'.length
   have pn':0≤pot n l':=pn'
   refine ⟨_,rfl,_,_,rfl,rfl,_,rfl,_,_,rfl,rfl,_,_,rfl,?_⟩
   dsimp only
   rw [zI,oj,← List.map_append]
   obtain ⟨p',hp'⟩:∃ p':Int,p'=if (l'.length:Int) - 1<(pp:Int)+2 then (l'.length:Int) - 1 else (pp:Int)+2:=⟨_,rfl⟩
   rw [← hp']
   have hp2:p'≤pp+2∧-1≤p'∧p'<l'.length∧(p'=(l'.length:Int) - 1∨p'=pp+2):=by
    rw [hp']
    split <;> omega
   refine ⟨(3*pot n l'+p'+1).toNat,by omega,ss++List.replicate m.toNat s,l',p',_,_,rfl,by omega,by omega,k1,by omega,k2.trans hwe,k4.append hwk,?_,fun q h1 h2=>?_,rfl⟩
   ·rw [List.length_append,List.length_replicate]; omega
   ·rcases hp2.2.2.2 with z | z
    ·omega
    ·have f1:hf l' q=hf l q:=by rw [he',gc (by omega),Int.mul_zero,Int.add_zero]
     have f2:hf l' (q - 1)=hf l (q - 1):=by rw [he',gc (by omega),Int.mul_zero,Int.add_zero]
     have e:yy n (hf l') q=yy n (hf l) q:=by unfold yy; rw [f1,f2]
     rw [e]
     by_cases hq:q<l.length
     ·exact hno q (by omega) hq
     ·unfold yy
      rw [yM (by omega),if_neg (by omega),if_neg (by omega)]
 ·have hp:=of_decide_eq_false hp
  have hlg:Lg .falling n l:=ZX l0 (fun q hq=>hno q (by omega) hq)
  refine ⟨_,rfl,_,rfl,_,rfl,l,rfl,?_⟩
  have:=wL l
  refine q ss (trim l) ⟨hlg.trim,(Z0 n l).trans hwe,?_,by omega,by omega⟩
  rw [show hf (trim l)=hf l from funext (i7 l)]
  exact hwk
abbrev rP:Stmt:=top 33
theorem gO:zi ["way","heap"] ["way","heap"] (defScope rP):=by walk_at "sc"
theorem gW (T:Txt K mg A) (G_steps_and_writing:TOkX P w K mg base 3 "steps_and_writing" (.t true true) (Xc A)) (F:Fun K "fallen" "fallen" rP f fd):FnOk P w K mg base (CX1 P w) 4 f fd ["way","heap"] (uA K (oK A)):=by
 refine Ru F gO (fun ds Q R h=>?_) (fun cdv A' outer s H E hr ds Q R h rz=>?_)
 ·obtain ⟨k,n,h,rfl,hn,hl,hw⟩:=h
  rfl
 obtain ⟨k,n,h,rfl,hn,hl,hw⟩:=h
 refine ⟨_,(zh (wA (Vo (bR G_steps_and_writing (hr.mono (by decide)) rfl (zc (dv 0) (zc (dv 1) zg))) (fun _ _=>rfl)))),?_⟩
 refine ⟨_,rfl,_,rfl,k,n,h,rfl,hn,hl,?_⟩
 rcases hw with hw | ⟨h1,h2,h3⟩ | ⟨h1,h2,h3,h4⟩
 ·exact .inl (ba rz hw)
 ·exact .inr (.inl ⟨h1,h2,rz _ h3⟩)
 ·exact .inr (.inr ⟨h1,h2,h3,fun ss r hF=>⟨_,_,rfl,h4 ss r hF⟩⟩)
abbrev wg:Stmt:=inClass (top 19) 0
theorem qI:zi ["self"] ["self"] (defScope wg):=by walk_at "sc"
theorem yt (T:Txt K mg A) (F:Fun K "nought" "Way.nought" wg f fd):FnOk P w K mg base CX0 1 f fd ["self"] (zt K (S4)):=by
 refine okD F qI (fun ds Q h=>?_) (fun cdv A' outer s H E hr ds Q h=>?_)
 ·obtain ⟨o,rfl,q⟩:=h
  rfl
 obtain ⟨o,rfl,q⟩:=h
 refine ⟨_,(zh (zk zd)),?_⟩
 exact q
abbrev xn:Stmt:=inClass (top 25) 1
theorem sf:zi ["self"] ["self"] (defScope xn):=by walk_at "sc"
theorem sx (T:Txt K mg A) (F:Fun K "nought" "Pairs.nought" xn f fd):FnOk P w K mg base CX0 1 f fd ["self"] (zt K (S3)):=by
 refine okD F sf (fun ds Q h=>?_) (fun cdv A' outer s H E hr ds Q h=>?_)
 ·obtain ⟨o,rfl,q⟩:=h
  rfl
 obtain ⟨o,rfl,q⟩:=h
 refine ⟨_,(zh (zk (zG (zc zd (zc zd zg))))),?_⟩
 exact ⟨rfl,q⟩
abbrev uQ:Stmt:=inClass (top 19) 5
theorem kv:zi ["self","number"] ["self","number"] (defScope uQ):=by walk_at "sc"
theorem vT (T:Txt K mg A) (G_is_whole:DOk P w K mg base 1 "is_whole" (xj)) (F:Fun K "has" "Way.has" uQ f fd):FnOk P w K mg base CX0 2 f fd ["self","number"] (zt K (tU .plain)):=by
 refine okD F kv (fun ds Q h=>?_) (fun cdv A' outer s H E hr ds Q h=>?_)
 ·obtain ⟨o,d,m,rfl,hm,q⟩:=h
  rfl
 obtain ⟨o,d,m,rfl,hm,q⟩:=h
 refine ⟨_,(zh (zk (v9 (zl G_is_whole (hr.mono (by decide)) rfl (zc (dv 1) zg)) (qz (vb (Zd) (dv 1) zd (zp _)))))),?_⟩
 obtain rfl:=yY hm
 cases m
 all_goals
  walk_at "rd"
  exact q
abbrev wS:Stmt:=inClass (top 21) 3
theorem oU:zi ["self","number"] ["self","number"] (defScope wS):=by walk_at "sc"
theorem nc (T:Txt K mg A) (G_is_whole:DOk P w K mg base 1 "is_whole" (xj)) (F:Fun K "has" "Below.has" wS f fd):FnOk P w K mg base CX0 2 f fd ["self","number"] (zt K (tU .below)):=by
 refine okD F oU (fun ds Q h=>?_) (fun cdv A' outer s H E hr ds Q h=>?_)
 ·obtain ⟨o,d,m,rfl,hm,q⟩:=h
  rfl
 obtain ⟨o,d,m,rfl,hm,q⟩:=h
 refine ⟨_,(zh (zk (zl G_is_whole (hr.mono (by decide)) rfl (zc (dv 1) zg)))),?_⟩
 obtain rfl:=yY hm
 cases m
 all_goals
  walk_at "rd"
  exact q
abbrev xr:Stmt:=inClass (top 22) 4
theorem sv:zi ["self","number"] ["self","number"] (defScope xr):=by walk_at "sc"
theorem sH (T:Txt K mg A) (G_is_whole:DOk P w K mg base 1 "is_whole" (xj)) (F:Fun K "has" "Balanced.has" xr f fd):FnOk P w K mg base CX0 2 f fd ["self","number"] (zt K (tU .balanced)):=by
 refine okD F sv (fun ds Q h=>?_) (fun cdv A' outer s H E hr ds Q h=>?_)
 ·obtain ⟨o,d,m,rfl,hm,q⟩:=h
  rfl
 obtain ⟨o,d,m,rfl,hm,q⟩:=h
 refine ⟨_,(zh (zk (zl G_is_whole (hr.mono (by decide)) rfl (zc (dv 1) zg)))),?_⟩
 obtain rfl:=yY hm
 cases m
 all_goals
  walk_at "rd"
  exact q
abbrev uL:Stmt:=top 10
theorem ko:zi ["value"] ["value"] (defScope uL):=by walk_at "sc"
theorem kG (T:Txt K mg A) (G_is_whole:DOk P w K mg base 1 "is_whole" (xj)) (F:Fun K "is_pair" "is_pair" uL f fd):FnOk P w K mg base CX0 2 f fd ["value"] (zt K (oJ)):=by
 refine okD F ko (fun ds Q h=>?_) (fun cdv A' outer s H E hr ds Q h=>?_)
 ·obtain ⟨d,m,rfl,hm,q⟩:=h
  rfl
 obtain ⟨d,m,rfl,hm,q⟩:=h
 refine ⟨_,(zh (zk (v9 (tS (T:=.tuple) T.kt T.isinstance T.n_tuple PyProof.Rows.boot_tuple (dv 0)) (v9 (vb (yu hr) (yr rfl T.len (dv 0)) zd (zp _)) (v9 (zl G_is_whole (hr.mono (by decide)) rfl (zc (zq (dv 0) zd (fun _ _=>rfl)) zg)) (qz (zl G_is_whole (hr.mono (by decide)) rfl (zc (zq (dv 0) zd (fun _ _=>rfl)) zg)))))))),?_⟩
 obtain rfl:=yY hm
 cases m
 all_goals
  walk_at "rd"
  exact q
abbrev wR:Stmt:=inClass (top 25) 5
theorem oT:zi ["self","number"] ["self","number"] (defScope wR):=by walk_at "sc"
theorem o_ (T:Txt K mg A) (G_is_pair:DOk P w K mg base 2 "is_pair" (oJ)) (F:Fun K "has" "Pairs.has" wR f fd):FnOk P w K mg base CX0 3 f fd ["self","number"] (zt K (tU .pairs)):=by
 refine okD F oT (fun ds Q h=>?_) (fun cdv A' outer s H E hr ds Q h=>?_)
 ·obtain ⟨o,d,m,rfl,hm,q⟩:=h
  rfl
 obtain ⟨o,d,m,rfl,hm,q⟩:=h
 refine ⟨_,(zh (zk (zl G_is_pair (hr.mono (by decide)) rfl (zc (dv 1) zg)))),?_⟩
 obtain rfl:=yY hm
 refine ⟨_,rfl,_,m,rfl,hm,?_⟩
 cases m <;> exact q
abbrev xL:Stmt:=inClass (top 20) 2
theorem rL:zi ["self","place"] ["self","place"] (defScope xL):=by walk_at "sc"
theorem rX (T:Txt K mg A) (F:Fun K "ratio" "Plain.ratio" xL f fd):FnOk P w K mg base CX0 1 f fd ["self","place"] (zt K (vh A .plain (Kd.ratN .plain))):=by
 refine okD F rL (fun ds Q h=>?_) (fun cdv A' outer s H E hr ds Q h=>?_)
 ·obtain ⟨n,p,rfl,hn,q⟩:=h
  rfl
 obtain ⟨n,p,rfl,hn,q⟩:=h
 refine ⟨_,(zh (zk (zP (dv 0)))),?_⟩
 exact ⟨_,rfl,_,_,_,rfl,rfl,T.cl_Plain,T.na_Plain,q⟩
abbrev xO:Stmt:=inClass (top 21) 2
theorem rN:zi ["self","place"] ["self","place"] (defScope xO):=by walk_at "sc"
theorem qa (T:Txt K mg A) (F:Fun K "ratio" "Below.ratio" xO f fd):FnOk P w K mg base CX0 1 f fd ["self","place"] (zt K (vh A .below (Kd.ratN .below))):=by
 refine okD F rN (fun ds Q h=>?_) (fun cdv A' outer s H E hr ds Q h=>?_)
 ·obtain ⟨n,p,rfl,hn,q⟩:=h
  rfl
 obtain ⟨n,p,rfl,hn,q⟩:=h
 refine ⟨_,(zh (zk (yh (zP (dv 0))))),?_⟩
 exact ⟨_,rfl,_,_,_,rfl,rfl,T.cl_Below,T.na_Below,_,rfl,q⟩
abbrev yU:Stmt:=inClass (top 22) 3
theorem uf:zi ["self","place"] ["self","place"] (defScope yU):=by walk_at "sc"
theorem uh (T:Txt K mg A) (F:Fun K "ratio" "Balanced.ratio" yU f fd):FnOk P w K mg base CX0 1 f fd ["self","place"] (zt K (vh A .balanced (Kd.ratN .balanced))):=by
 refine okD F uf (fun ds Q h=>?_) (fun cdv A' outer s H E hr ds Q h=>?_)
 ·obtain ⟨n,p,rfl,hn,q⟩:=h
  rfl
 obtain ⟨n,p,rfl,hn,q⟩:=h
 refine ⟨_,(zh (zk (zj z4 (zj z9 zd (zP (dv 0))) zd))),?_⟩
 exact ⟨_,rfl,_,_,_,rfl,rfl,T.cl_Balanced,T.na_Balanced,_,_,rfl,rfl,ZV (by decide),_,_,rfl,rfl,q⟩
abbrev y8:Stmt:=inClass (top 23) 2
theorem uE:zi ["self","place"] ["self","place"] (defScope y8):=by walk_at "sc"
theorem uT (T:Txt K mg A) (F:Fun K "ratio" "Growing.ratio" y8 f fd):FnOk P w K mg base CX0 1 f fd ["self","place"] (zt K (vh A .growing (Kd.ratN .growing))):=by
 refine okD F uE (fun ds Q h=>?_) (fun cdv A' outer s H E hr ds Q h=>?_)
 ·obtain ⟨n,p,rfl,hn,q⟩:=h
  rfl
 obtain ⟨n,p,rfl,hn,q⟩:=h
 refine ⟨_,(zh (zk (zj z4 (zP (dv 0)) (dv 1)))),?_⟩
 exact ⟨_,rfl,_,_,_,rfl,rfl,T.cl_Growing,T.na_Growing,_,rfl,_,_,rfl,rfl,q⟩
abbrev xN:Stmt:=inClass (top 25) 3
theorem rM:zi ["self","place"] ["self","place"] (defScope xN):=by walk_at "sc"
theorem rZ (T:Txt K mg A) (F:Fun K "ratio" "Pairs.ratio" xN f fd):FnOk P w K mg base CX0 1 f fd ["self","place"] (zt K (vh A .pairs (Kd.ratN .pairs))):=by
 refine okD F rM (fun ds Q h=>?_) (fun cdv A' outer s H E hr ds Q h=>?_)
 ·obtain ⟨n,p,rfl,hn,q⟩:=h
  rfl
 obtain ⟨n,p,rfl,hn,q⟩:=h
 refine ⟨_,(zh (zk (zG (zc (yh (zP (dv 0))) (zc zd zg))))),?_⟩
 exact ⟨_,rfl,_,_,_,rfl,rfl,T.cl_Pairs,T.na_Pairs,_,rfl,rfl,q⟩
abbrev wQ:Stmt:=inClass (top 19) 4
theorem sc_Way_split:zi ["self","total","place","low","figures","figure"] ["self","total","place"] (defScope wQ):=by walk_at "sc"
theorem xg (T:Txt K mg A) (HLo:∀ k:Kd,MOk P w K mg base 1 (A.at k) "low" (x8 A k (k.low))∧MOk P w K mg base 1 (A.at k) "high" (x8 A k (k.high))) (HR:∀ k:Kd,k.five=true→MOk P w K mg base 1 (A.at k) "ratio" (vh A k (k.ratN))) (F:Fun K "split" "Way.split" wQ f fd):FnOk P w K mg base CX0 2 f fd ["self","total","place"] (zt K (ao A)):=by
 refine okD F sc_Way_split (fun ds Q h=>?_) (fun cdv A' outer s H E hr ds Q h=>?_)
 ·obtain ⟨k,n,t,j,rfl,h4,hn,hj,q⟩:=h
  rfl
 obtain ⟨k,n,t,j,rfl,h4,hn,hj,q⟩:=h
 refine ⟨_,(zf (zA (i:=3) sc_Way_split.nd rfl (Or.inl rfl) (xG hr (dv 0) (zc (dv 2) zg)))
 (zf (zA (i:=4) sc_Way_split.nd rfl (Or.inl rfl) (zj z4 (zj zV (xG hr (dv 0) (zc (dv 2) zg)) (dv 3)) zd))
 (zf (zA (i:=5) sc_Way_split.nd rfl (Or.inl rfl) (zj z4 (dv 3) (zj wH (zj zV (dv 1) (dv 3)) (dv 4))))
 (zh (zk (zG (zc (dv 5) (zc (zj wq (zj zV (dv 1) (dv 5)) (xG hr (dv 0) (zc (dv 2) zg))) zg)))))))),?_⟩
 obtain ⟨M1,M2⟩:=HLo k
 have h5:k.five=true:=by cases k <;> first | rfl | cases h4
 have M3:=HR k h5
 obtain ⟨e1,e2⟩:=oQ h4 n j
 have hp:=rE h4 hn j
 have hr:k.ratN n j=.i (k.rat n j):=by cases k <;> first | rfl | cases h4
 have hb:(k.rat n j).natAbs<1073741824:=by
  obtain ⟨b1,b2⟩:=xu hn
  cases k <;> cases h4 <;> simp only [Kd.rat] <;> omega
 refine ⟨_,rfl,_,_,_,_,rfl,YT k,M1.mono (by decide),_,rfl,n,j,rfl,hn,?_⟩
 refine ⟨_,rfl,_,_,_,_,rfl,bJ k,M2.mono (by decide),_,rfl,n,j,rfl,hn,_,rfl,_,_,rfl,rfl,_,_,rfl,rfl,?_⟩
 refine ⟨_,rfl,_,rfl,_,rfl,_,_,rfl,rfl,_,rfl,_,_,rfl,rfl,(show k.high n j - k.low n j+1≠0 by omega),_,_,rfl,rfl,?_⟩
 refine ⟨_,rfl,_,rfl,_,rfl,_,_,rfl,rfl,_,rfl,_,_,_,_,rfl,h8 k,M3.mono (by decide),_,rfl,n,j,rfl,hn,?_⟩
 rw [hr]
 refine ⟨_,_,rfl,rfl,⟨by omega,hb⟩,rfl,?_⟩
 cases k <;> cases h4 <;> exact q
abbrev xM:Stmt:=inClass (top 25) 4
theorem sc_Pairs_split:zi ["self","total","place","pair","figures","figure","turned"] ["self","total","place"] (defScope xM):=by walk_at "sc"
theorem rY (T:Txt K mg A) (G_as_pair:DOk P w K mg base 2 "as_pair" (vF)) (G_multiplied:DOk P w K mg base 3 "multiplied" (iD)) (F:Fun K "split" "Pairs.split" xM f fd):FnOk P w K mg base CX0 4 f fd ["self","total","place"] (zt K (ap A)):=by
 refine okD F sc_Pairs_split (fun ds Q h=>?_) (fun cdv A' outer s H E hr ds Q h=>?_)
 ·obtain ⟨n,d,m,j,rfl,hm,hn,q⟩:=h
  rfl
 obtain ⟨n,d,m,j,rfl,hm,hn,q⟩:=h
 refine ⟨_,(zf (zA (i:=3) sc_Pairs_split.nd rfl (Or.inl rfl) (zl G_as_pair (hr.mono (by decide)) rfl (zc (dv 1) zg)))
 (zf (zA (i:=4) sc_Pairs_split.nd rfl (Or.inl rfl) (zj z4 (zj z9 (zP (dv 0)) (zP (dv 0))) zd))
 (zf (zA (i:=5) sc_Pairs_split.nd rfl (Or.inl rfl) (zj wH (zj z4 (zq (dv 3) zd (fun _ _=>rfl)) (zj z9 (zP (dv 0)) (zq (dv 3) zd (fun _ _=>rfl)))) (dv 4)))
 (zf (zA (i:=6) sc_Pairs_split.nd rfl (Or.inl rfl) (zl G_multiplied (hr.mono (by decide)) rfl (zc (zG (zc (zj zV (zq (dv 3) zd (fun _ _=>rfl)) (dv 5)) (zc (zq (dv 3) zd (fun _ _=>rfl)) zg))) (zc (zG (zc (yh (zP (dv 0))) (zc (yh zd) zg))) zg))))
 (zh (zk (zG (zc (dv 5) (zc (zG (zc (zj wq (zq (dv 6) zd (fun _ _=>rfl)) (dv 4)) (zc (zj wq (zq (dv 6) zd (fun _ _=>rfl)) (dv 4)) zg))) zg))))))))),?_⟩
 have hn1:1≤n:=hn.1
 have hn2:n≤9:=hn.2
 have sq:n*n≤81:=by
  have:=Int.mul_le_mul hn2 hn2 (by omega) (by omega)
  omega
 have sq0:0≤n*n:=Int.mul_nonneg (by omega) (by omega)
 have hN:gA 0 (n*n+1):=⟨by omega,by omega⟩
 refine ⟨_,rfl,_,m,rfl,hm,?_⟩
 refine ⟨_,rfl,_,_,_,rfl,rfl,T.cl_Pairs,T.na_Pairs,_,rfl,_,_,_,rfl,rfl,T.cl_Pairs,T.na_Pairs,_,_,rfl,rfl,small (by omega) (by omega) _,_,_,rfl,rfl,?_⟩
 refine ⟨_,rfl,_,_,_,rfl,rfl,rfl,_,rfl,_,_,_,rfl,rfl,T.cl_Pairs,T.na_Pairs,_,rfl,_,_,_,rfl,rfl,rfl,_,_,rfl,rfl,vM (by omega) (by omega) _,_,_,rfl,rfl,_,rfl,_,_,rfl,rfl,(show n*n+1≠0 by omega),?_⟩
 repeat (first | (walk_at "rd1") | refine ⟨_,_,_,rfl,rfl,T.cl_Pairs,T.na_Pairs,?_⟩)
 refine ⟨⟨small (show -1000000≤-n by omega) (show -n≤1000000 by omega) _,small (show (-1000000:Int)≤-1 by decide) (show (-1:Int)≤1000000 by decide) _,small (show (-1000000:Int)≤-1 by decide) (show (-1:Int)≤1000000 by decide) _,small (show -1000000≤-n by omega) (show -n≤1000000 by omega) _⟩,?_⟩
 repeat (first | (walk_at "rd1") | refine ⟨hN,?_⟩)
 exact q
abbrev ye:Stmt:=top 35
theorem sc_figures_and_carries:zi ["way","totals","figures","carry","found","place","parts"] ["way","totals"] (defScope ye):=by walk_at "sc"
theorem wo (T:Txt K mg A) (G_added:DOk P w K mg base 3 "added" (n8)) (G_thing_at:DOk P w K mg base 1 "thing_at" (ub)) (HNo:∀ k:Kd,MOk P w K mg base 1 (A.at k) "nought" (S5 k)) (HHas:∀ k:Kd,MOk P w K mg base 3 (A.at k) "has" (tU k)) (HSp:∀ k:Kd,k.five=true→MOk P w K mg base 4 (A.at k) "split" (gp A k)) (F:Fun K "figures_and_carries" "figures_and_carries" ye f fd):FnOk P w K mg base CX0 5 f fd ["way","totals"] (zt K (S6 A)):=by
 refine okD F sc_figures_and_carries (fun ds Q h=>?_) (fun cdv A' outer s H E hr ds Q h=>?_)
 ·obtain ⟨k,n,ts,J,rfl,h5,hn,ht,F,hJ,q⟩:=h
  rfl
 obtain ⟨k,n,ts,J,rfl,h5,hn,ht,F,hJ,q⟩:=h
 refine ⟨_,(zf (zF (yf (ux T.isinstance T.gc_Falling (dv 0))) (zh va) zr)
 (zf (yk (i:=2) sc_figures_and_carries.nd rfl (Or.inl rfl) (vZ zg))
 (zf (zA (i:=3) sc_figures_and_carries.nd rfl (Or.inl rfl) (lR hr (dv 0)))
 (zf (yk (i:=4) sc_figures_and_carries.nd rfl (Or.inl rfl) (vZ (zc (dv 3) zg)))
 (zf (w_ PassesOwn.never (DW.dt (vL (zw (mV) (vB 2 rfl T.len) (yr rfl T.len (dv 1)) (zp _)) (tP (zw (ng hr) (dv 3) (lR hr (dv 0)) (zp _))))) (zf (zA (i:=5) sc_figures_and_carries.nd rfl (Or.inl rfl) (vB 2 rfl T.len))
 (yb (zF (DW.dt (yO (zw (Zd) (dv 5) (yr rfl T.len (dv 1)) (zp _)) (yN (wz (yf (xG hr (dv 0) (zc (dv 3) zg))))))) (zh va) zr)
 (zf (zA (i:=6) sc_figures_and_carries.nd rfl (Or.inl rfl) (xG hr (dv 0) (zc (zl G_added (hr.mono (by decide)) rfl (zc (dv 3) (zc (zl G_thing_at (hr.mono (by decide)) rfl (zc (dv 1) (zc (dv 5) zg))) zg))) (zc (dv 5) zg))))
 (zf (wB 2 (zq (dv 6) zd (fun _ _=>rfl)))
 (zf (zA (i:=3) sc_figures_and_carries.nd rfl (Or.inl rfl) (zq (dv 6) zd (fun _ _=>rfl)))
 (zh (wB 4 (dv 3)))))))))
 (vz 2 (vz 4 (zh (zk (zG (zc (dv 2) (zc (dv 4) zg)))))))))))),?_⟩
 have ll:(ts.map Nm.dt).length=ts.length:=List.length_map _
 refine ⟨_,rfl,_,_,_,_,rfl,iZ T k,kiF T k,_,rfl,?_⟩
 refine ifF (ut h5) ?_
 refine ⟨rfl,_,rfl,_,rfl,_,_,_,_,rfl,qx k,(HNo k).mono (by decide),_,rfl,_,rfl,rfl,_,rfl,?_⟩
 refine ⟨fun m ρ=>∃ j v5 v6,ρ=[.some (zZ A k n),.some (se ts),.own ((wx k n ts j).map Dt.int),.some (cAt k n ts j).dt,.own (lU k n ts (j+1)),v5,v6]∧m=J - j∧j≤J,⟨J,0,_,_,rfl,rfl,Nat.zero_le _⟩,?_⟩
 rintro m ρ' ⟨j,v5,v6,rfl,rfl,hj⟩
 have fl:=w8 k n ts j
 have fl':((wx k n ts j).map Dt.int).length=j:=by rw [List.length_map,fl]
 have cl:(lU k n ts (j+1)).length=j+1:=by unfold lU; rw [List.length_map,Ym]
 have hcz:cAt k n ts j=k.zero↔eqD (cAt k n ts j).dt k.zero.dt=true:=(Vi (xz k n ts j) (yw k)).symm
 refine ⟨_,rfl,_,rfl,_,rfl,_,_,rfl,rfl,_,rfl,?_⟩
 by_cases hjJ:j<J
 ·refine ifB (fun _=>ifT rfl ?_) (fun hlt=>⟨_,rfl,_,rfl,_,_,_,_,rfl,qx k,(HNo k).mono (by decide),_,rfl,vU _,vU _,_,rfl,ifT (nF ?_) ?_⟩)
  rotate_left
  ·have hle:ts.length≤j:=by have:=of_decide_eq_false hlt; omega
   cases e:eqD (cAt k n ts j).dt k.zero.dt with
   | false=>rfl
   | true=>exact absurd (hcz.mpr e) (F.nz j hle hjJ).1
  all_goals
   refine ⟨_,rfl,?_⟩
   rw [fl']
   refine ⟨fun ρ=>ρ=[.some (zZ A k n),.some (se ts),.own ((wx k n ts j).map Dt.int),.some (cAt k n ts j).dt,.own (lU k n ts (j+1)),.some (.int j),v6],?_,?_⟩
   ·refine ⟨_,rfl,_,rfl,_,rfl,_,_,rfl,rfl,_,rfl,?_⟩
    refine ifB (fun hge=>?_) (fun _=>ifF rfl rfl)
    have hge:ts.length≤j:=by have:=of_decide_eq_true hge; omega
    refine ⟨_,rfl,_,_,_,_,rfl,UW k,(HHas k).mono (by decide),_,rfl,_,_,_,rfl,wr _,_,rfl,?_⟩
    rw [(F.nz j hge hjJ).2]
    exact ifF rfl rfl
   ·rintro ρ' rfl
    refine ⟨_,rfl,_,_,_,_,rfl,Z8 k,(HSp k h5).mono (by decide),_,rfl,_,rfl,_,rfl,_,_,rfl,by omega,?_⟩
    rw [Int.toNat_natCast,nS]
    refine ⟨_,_,_,_,rfl,wr _,wr _,_,rfl,n,_,j,rfl,wG (xz k n ts j) (y3 ht j),hn,by omega,?_⟩
    refine ⟨_,rfl,_,rfl,_,_,_,rfl,rfl,rfl,by omega,?_⟩
    refine ⟨_,rfl,_,_,_,rfl,rfl,rfl,?_⟩
    refine ⟨_,rfl,_,rfl,by omega,J - (j+1),by omega,j+1,.some (.int j),.some (.tup [.int (fAt k n ts j),(cAt k n ts (j+1)).dt]),?_,rfl,hjJ⟩
    have ef:(wx k n ts j).map Dt.int++[Dt.int (fAt k n ts j)]=(wx k n ts (j+1)).map Dt.int:=by rw [eK,qB]
    have ec:lU k n ts (j+1)++[(cAt k n ts (j+1)).dt]=lU k n ts (j+1+1):=by unfold lU; rw [ag k n ts (j+1),List.map_append]; rfl
    rw [← ec,← ef]
    rfl
 ·have ej:j=J:=by omega
  subst ej
  refine ifF (decide_eq_false (by rw [fl',ll]; have:=F.le; omega)) ?_
  refine ⟨_,rfl,_,rfl,_,_,_,_,rfl,qx k,(HNo k).mono (by decide),_,rfl,vU _,vU _,_,rfl,ifF (nT (hcz.mp F.z)) ?_⟩
  exact ⟨_,rfl,_,rfl,_,rfl,_,rfl,rfl,q⟩
abbrev uJ:Stmt:=top 36
theorem km:zi ["way","totals"] ["way","totals"] (defScope uJ):=by walk_at "sc"
theorem kD (T:Txt K mg A) (G_trimmed:FOk P w K mg base 1 "trimmed" (iB)) (G_figures_and_carries:DOk P w K mg base 5 "figures_and_carries" (S6 A)) (F:Fun K "settled" "settled" uJ f fd):FnOk P w K mg base CX0 6 f fd ["way","totals"] (yZ K (oI A)):=by
 refine okF F km (fun ds Q h=>?_) (fun cdv A' outer s H E hr ds Q h=>?_)
 ·obtain ⟨k,n,ts,J,rfl,h5,hn,ht,F,hJ,q⟩:=h
  rfl
 obtain ⟨k,n,ts,J,rfl,h5,hn,ht,F,hJ,q⟩:=h
 refine ⟨_,(zh (wA (ya G_trimmed (hr.mono (by decide)) rfl (zc (zq (zl G_figures_and_carries (hr.mono (by decide)) rfl (zc (dv 0) (zc (dv 1) zg))) zd (fun _ _=>rfl)) zg)))),?_⟩
 refine ⟨_,rfl,_,rfl,k,n,ts,J,rfl,h5,hn,ht,F,hJ,_,_,_,rfl,rfl,rfl,?_⟩
 exact ⟨_,rfl,q⟩
abbrev xH:Stmt:=top 42
theorem rH:zi ["way","row"] ["way","row"] (defScope xH):=by walk_at "sc"
theorem rS (T:Txt K mg A) (G_fallen:FOkX P w K mg base 4 "fallen" (oK A)) (G_settled:FOk P w K mg base 6 "settled" (oI A)) (F:Fun K "written_row" "written_row" xH f fd):FnOk P w K mg base CX0 7 f fd ["way","row"] (yZ K (iA A)):=by
 refine okF F rH (fun ds Q h=>?_) (fun cdv A' outer s H E hr ds Q h=>?_)
 ·obtain ⟨k,n,ts,b,rfl,hn,hl,ht,hb,b7,b8,hp,hf,q⟩:=h
  rfl
 obtain ⟨k,n,ts,b,rfl,hn,hl,ht,hb,b7,b8,hp,hf,q⟩:=h
 refine ⟨_,(zf (zF (yf (ux T.isinstance T.gc_Falling (dv 0))) (zh (wA (bW G_fallen (hr.mono (by decide)) rfl (zc (dv 0) (zc (dv 1) zg))))) zr)
 (zh (wA (ya G_settled (hr.mono (by decide)) rfl (zc (dv 0) (zc (dv 1) zg)))))),?_⟩
 refine ⟨_,rfl,_,_,_,_,rfl,iZ T k,kiF T k,_,rfl,?_⟩
 by_cases hk:k=.falling
 ·subst hk
  obtain ⟨h,rfl,h0,hpot⟩:=hf rfl
  refine ifT rfl ?_
  rw [List.length_map] at hl
  refine ⟨_,rfl,_,rfl,.falling,n,h,by unfold zE se; rw [db],hn,by omega,.inr (.inr ⟨rfl,h0,hpot,fun ss r F=>?_⟩)⟩
  refine q r F.leg ?_ ?_
  ·rw [wK,y7,y7,F.eqw]
  ·rw [List.length_map]; have:=F.len; omega
 ·have h5:k.five=true:=by cases k <;> first | rfl | exact absurd rfl hk
  refine ifF (ut h5) ?_
  obtain ⟨J,F,hJ⟩:=dr h5 hn ht hb b7 hp
  refine ⟨_,rfl,_,rfl,k,n,ts,J,rfl,h5,hn,ht,F,by omega,?_⟩
  refine q _ (rG h5 hn ht) (rF F h5 hn ht) ?_
  have:=wL (wx k n ts J)
  rw [w8] at this
  show (trim (wx k n ts J)).length≤_
  omega
abbrev yz:Stmt:=top 47
theorem sc_times_in_falling:zi ["way","one","other","product","ahead","place","above"] ["way","one","other"] (defScope yz):=by walk_at "sc"
theorem vH (T:Txt K mg A) (G_row_plus:DOk P w K mg base 4 "row_plus" (n5)) (G_row_times:DOk P w K mg base 4 "row_times" (qE)) (G_written_row:FOk P w K mg base 7 "written_row" (iA A)) (F:Fun K "times_in_falling" "times_in_falling" yz f fd):FnOk P w K mg base CX0 8 f fd ["way","one","other"] (yZ K (l5 A)):=by
 refine okF F sc_times_in_falling (fun ds Q h=>?_) (fun cdv A' outer s H E hr ds Q h=>?_)
 ·obtain ⟨n,a,b,rfl,hn,hLa,hLb,hw,q⟩:=h
  rfl
 obtain ⟨n,a,b,rfl,hn,hLa,hLb,hw,q⟩:=h
 refine ⟨_,(zf (yk (i:=3) sc_times_in_falling.nd rfl (Or.inl rfl) (vZ zg))
 (zf (zA (i:=4) sc_times_in_falling.nd rfl (Or.inl rfl) (yi zg))
 (zf (nX (j:=5) rfl sc_times_in_falling.nd rfl (Or.inl rfl) PassesOwn.never rfl T.range (zc (zj zV (yr rfl T.len (dv 2)) zd) (zc (yh zd) (zc (yh zd) zg))) (vz 3 (zf (zA (i:=6) sc_times_in_falling.nd rfl (Or.inl rfl) (zl G_row_plus (hr.mono (by decide)) rfl (zc (zl G_row_times (hr.mono (by decide)) rfl (zc (dv 3) (zc (zP (dv 0)) zg))) (zc (dv 4) zg))))
 (zf (zA (i:=4) sc_times_in_falling.nd rfl (Or.inl rfl) (dv 3))
 (zh (yk (i:=3) sc_times_in_falling.nd rfl (Or.inl rfl) (ya G_written_row (hr.mono (by decide)) rfl (zc (dv 0) (zc (zl G_row_plus (hr.mono (by decide)) rfl (zc (dv 6) (zc (zl G_row_times (hr.mono (by decide)) rfl (zc (dv 1) (zc (zq (dv 2) (dv 5) (fun _ _=>rfl)) zg))) zg))) zg)))))))))
 (vz 3 (zh (wA (ya G_written_row (hr.mono (by decide)) rfl (zc (dv 0) (zc (zl G_row_plus (hr.mono (by decide)) rfl (zc (dv 3) (zc (dv 4) zg))) zg))))))))),?_⟩
 have l1:=zI a
 have l2:=zI b
 have n1:1≤n:=hn.1
 have n9:n≤9:=hn.2
 have fa:=xx hn hLa
 have fo:=xx hn hLb
 have la:=(bF a.length n1 fa a.length).2.2
 rw [← j7] at la
 walk_at "rd"
 refine ⟨_,_,fun i ρ=>∃ (r s:List Int) (v5 v6:Sl),ρ=[.some (zZ A .falling n),.some (zE a),.some (zE b),.own (r.map Dt.int),.some (zE s),v5,v6]∧Legal .falling n r∧Legal .falling n s∧My.hw n r=My.hw n a*(fb n b b.length i).2∧My.hw n s=My.hw n a*(fb n b b.length i).1∧r.length≤104∧s.length≤104,rfl,by omega,by omega,by decide,by decide,⟨[],[],_,_,rfl,yV _ n,yV _ n,(Int.mul_zero _).symm,(Int.mul_zero _).symm,by decide,by decide⟩,?_,?_⟩
 ·rintro i ρ' hi ⟨r,s,v5,v6,rfl,hr,hs,hwr,hws,hlr,hls⟩
  obtain ⟨p,hp⟩:∃ p:Nat,p+i+1=b.length:=⟨b.length - 1 - i,by omega⟩
  have ep:((List.map Dt.int b).length:Int) - 1 - i=p:=by omega
  rw [ep]
  have eb:b.length - (i+1)=p:=by omega
  have f1:=fo p
  have o1:0≤b.getD p 0:=f1.1
  have o2:b.getD p 0≤n:=f1.2
  have lr:=xT r (.i n)
  have la2:=xT a (.i (b.getD p 0))
  have ls:(s.map Nm.i).length=s.length:=List.length_map _
  have hl1:=wY (yP r (.i n)) (s.map Nm.i)
  have hl2:=wY (xV (yP r (.i n)) (s.map Nm.i)) (yP a (.i (b.getD p 0)))
  have t1:=wT (a:=r) (vJ .falling n)
  have t2:=wT (a:=a) (vJ .falling (b.getD p 0))
  have t3:=uk t1 (rq (k:=.falling) (r:=s))
  have hww:yc .falling n (xV (xV (yP r (.i n)) (s.map Nm.i)) (yP a (.i (b.getD p 0))))=.i (My.hw n a*(fb n b b.length (i+1)).2):=by
   rw [wJ t3 t2,wJ t1 rq,xD r (vJ _ _),xD a (vJ _ _),wK,y7,y7,y7,hwr,hws]
   show Nm.i (_*n+_+_*b.getD p 0)=Nm.i (My.hw n a*(hf b (b.length - (i+1))+n*(fb n b b.length i).2+(fb n b b.length i).1))
   rw [eb]
   show Nm.i (_*n+_+_*hf b p)=_
   congr 1
   grind
  have ets:xV (xV (yP r (.i n)) (s.map Nm.i)) (yP a (.i (b.getD p 0)))=(xA (xA (lC r n) s) (lC a (b.getD p 0))).map Nm.i:=by rw [dE,dE,tD,tD]
  have zb:∀ z∈xA (xA (lC r n) s) (lC a (b.getD p 0)),0≤z∧z≤171:=fun z hz=>by
   obtain ⟨u,rfl⟩:=mG hz
   rw [i8,i9,i9]
   obtain ⟨x1,x2⟩:=xx hn hr u
   obtain ⟨y1,y2⟩:=xx hn hs u
   obtain ⟨c1,c2⟩:=fa u
   have m1:=Int.mul_nonneg x1 (show 0≤n by omega)
   have m2:=Int.mul_le_mul (show hf r u≤9 by omega) n9 (by omega) (by omega)
   have m3:=Int.mul_nonneg c1 o1
   have m4:=Int.mul_le_mul (show hf a u≤9 by omega) (show b.getD p 0≤9 by omega) o1 (by omega)
   omega
  refine ⟨_,rfl,_,rfl,_,rfl,_,_,_,rfl,rfl,T.cl_Falling,T.na_Falling,r,.i n,rfl,by omega,⟨by show -1000000≤n; omega,by show n≤1000000; omega,by show (-1000000:Int)≤0; decide,by show (0:Int)≤1000000; decide⟩,_,rfl,yP r (.i n),s.map Nm.i,by rw [oO s],by omega,by omega,?_⟩
  refine ⟨_,rfl,?_⟩
  refine ⟨_,rfl,_,rfl,_,rfl,_,rfl,_,rfl,_,_,_,rfl,rfl,xP (show p<b.length by omega),a,.i (b.getD p 0),rfl,by omega,⟨by show -1000000≤b.getD p 0; omega,by show b.getD p 0≤1000000; omega,by show (-1000000:Int)≤0; decide,by show (0:Int)≤1000000; decide⟩,_,_,rfl,by omega,by omega,?_⟩
  refine ⟨.falling,n,_,14,rfl,hn,by omega,uk t3 t2,fun t ht=>?_,by decide,by decide,fun hk=>absurd hk (by rintro (h | h) <;> cases h),fun _=>⟨_,ets,fun z hz=>(zb z hz).1,iT zb (by decide) (by decide) ?_⟩,fun r' hr' hw' _=>?_⟩
  ·rw [ets] at ht
   obtain ⟨z,hz,rfl⟩:=List.mem_map.mp ht
   have:=zb z hz
   exact ⟨by show z.natAbs≤16384; omega,by show (0:Int).natAbs≤_; decide⟩
  ·have e:=congrArg List.length ets
   rw [List.length_map] at e
   omega
  ·rw [hww,y7] at hw'
   have hw':My.hw n r'=_:=Nm.i.inj hw'
   obtain ⟨c1,c2,_⟩:=bF b.length n1 fo (i+1)
   have bd:=bc n1 la.1 la.2 c1 c2
   rw [← hw'] at bd
   have:=lM hn hr' bd.2
   exact ⟨_,rfl,r',r,_,_,rfl,hr',hr,hw',hwr,by omega,hlr⟩
 ·rintro ρ' ⟨r,s,v5,v6,rfl,hr,hs,hwr,hws,hlr,hls⟩
  have e:(((List.map Dt.int b).length:Int) - 1 - (-1)).toNat=b.length:=by omega
  rw [e] at hwr hws
  have lr:(r.map Nm.i).length=r.length:=List.length_map _
  have ls:(s.map Nm.i).length=s.length:=List.length_map _
  have hl:=rQ r s
  have zb:∀ z∈xA r s,0≤z∧z≤18:=fun z hz=>by
   obtain ⟨u,rfl⟩:=mG hz
   obtain ⟨x1,x2⟩:=xx hn hr u
   obtain ⟨y1,y2⟩:=xx hn hs u
   omega
  refine ⟨_,rfl,_,rfl,_,rfl,_,rfl,r.map Nm.i,s.map Nm.i,by rw [← oO,← oO]; rfl,by omega,by omega,?_⟩
  refine ⟨.falling,n,(xA r s).map Nm.i,14,by rw [tD],hn,by rw [List.length_map]; omega,rq,fun t ht=>?_,by decide,by decide,fun hk=>absurd hk (by rintro (h | h) <;> cases h),fun _=>⟨_,rfl,fun z hz=>(zb z hz).1,iT zb (by decide) (by decide) (by omega)⟩,fun r' hr' hw' _=>?_⟩
  ·obtain ⟨z,hz,rfl⟩:=List.mem_map.mp ht
   have:=zb z hz
   exact ⟨by show z.natAbs≤16384; omega,by show (0:Int).natAbs≤_; decide⟩
  ·rw [wK,l8,y7,y7,y7,hwr,hws] at hw'
   have hw':My.hw n r'=My.hw n a*(fb n b b.length b.length).2+My.hw n a*(fb n b b.length b.length).1:=Nm.i.inj hw'
   rw [← Int.mul_add,← j7] at hw'
   have lb:=(bF b.length n1 fo b.length).2.2
   rw [← j7] at lb
   have bd:=bc n1 la.1 la.2 lb.1 lb.2
   rw [← hw'] at bd
   have:=lM hn hr' bd.2
   exact q r' hr' hw' (by omega)
abbrev yT:Stmt:=top 46
theorem sc_times_by_ratio:zi ["way","one","other","product","place","above"] ["way","one","other"] (defScope yT):=by walk_at "sc"
theorem ug (T:Txt K mg A) (G_row_times:DOk P w K mg base 4 "row_times" (qE)) (G_written_row:FOk P w K mg base 7 "written_row" (iA A)) (G_row_plus:DOk P w K mg base 4 "row_plus" (n5)) (HR:∀ k:Kd,k.five=true→MOk P w K mg base 1 (A.at k) "ratio" (vh A k (k.ratN))) (F:Fun K "times_by_ratio" "times_by_ratio" yT f fd):FnOk P w K mg base CX0 8 f fd ["way","one","other"] (yZ K (l4 A)):=by
 refine okF F sc_times_by_ratio (fun ds Q h=>?_) (fun cdv A' outer s H E hr ds Q h=>?_)
 ·obtain ⟨k,n,a,b,rfl,h5,hn,hLa,hLb,hw,q⟩:=h
  rfl
 obtain ⟨k,n,a,b,rfl,h5,hn,hLa,hLb,hw,q⟩:=h
 refine ⟨_,(zf (yk (i:=3) sc_times_by_ratio.nd rfl (Or.inl rfl) (vZ zg))
 (zf (nX (j:=4) rfl sc_times_by_ratio.nd rfl (Or.inl rfl) PassesOwn.never rfl T.range (zc (zj zV (yr rfl T.len (dv 2)) zd) (zc (yh zd) (zc (yh zd) zg))) (vz 3 (zf (zA (i:=5) sc_times_by_ratio.nd rfl (Or.inl rfl) (zl G_row_times (hr.mono (by decide)) rfl (zc (dv 3) (zc (xG hr (dv 0) (zc (dv 4) zg)) zg))))
 (zh (yk (i:=3) sc_times_by_ratio.nd rfl (Or.inl rfl) (ya G_written_row (hr.mono (by decide)) rfl (zc (dv 0) (zc (zl G_row_plus (hr.mono (by decide)) rfl (zc (dv 5) (zc (zl G_row_times (hr.mono (by decide)) rfl (zc (dv 1) (zc (zq (dv 2) (dv 4) (fun _ _=>rfl)) zg))) zg))) zg))))))))
 (zh (ra 3)))),?_⟩
 have l1:=zI a
 have l2:=zI b
 obtain ⟨w1,w2,w3,w4⟩:=id hw
 walk_at "rd"
 refine ⟨_,_,fun i ρ=>∃ (r:List Int) (v4 v5:Sl),ρ=[.some (zZ A k n),.some (zE a),.some (zE b),.own (r.map Dt.int),v4,v5]∧Legal k n r∧zm k n r=(zm k n a).mul (hv k n b i (b.length - i))∧r.length≤870,rfl,by omega,by omega,by decide,by decide,⟨[],_,_,rfl,yV k n,(bb (zH k n a)).symm,by decide⟩,?_,?_⟩
 ·rintro i ρ' hi ⟨r,v4,v5,rfl,hr,hwr,hlr⟩
  obtain ⟨p,hp⟩:∃ p:Nat,p+i+1=b.length:=⟨b.length - 1 - i,by omega⟩
  have ep:((List.map Dt.int b).length:Int) - 1 - i=p:=by omega
  rw [ep]
  have eb:b.length - i=p+1:=by omega
  have eb':b.length - (i+1)=p:=by omega
  rw [eb] at hwr
  have lr:=xT r (k.ratN n p)
  have la:=xT a (.i (b.getD p 0))
  have hl:=wY (yP r (k.ratN n p)) (yP a (.i (b.getD p 0)))
  have t1:=wT (a:=r) (sY k n p)
  have t2:=wT (a:=a) (vJ k (b.getD p 0))
  have hww:yc k n (xV (yP r (k.ratN n p)) (yP a (.i (b.getD p 0))))=(zm k n a).mul (hv k n b (i+1) p):=by
   rw [wJ t1 t2,xD r (sY k n p),xD a (vJ k _),hwr]
   exact Z1 (zH k n a) (i6 k n b i (p+1)) (sY k n p) (i6 k n b (i+1) p)
  have fo:(b.getD p 0).natAbs≤122:=(Z6 hn hLb w2 p).1
  refine ⟨_,rfl,_,rfl,_,rfl,_,_,_,_,rfl,h8 k,(HR k h5).mono (by decide),_,rfl,n,p,rfl,hn,r,k.ratN n p,rfl,by omega,dJ hn (by omega) (by omega),?_⟩
  refine ⟨_,rfl,_,rfl,_,rfl,_,rfl,_,rfl,_,_,_,rfl,rfl,xP (show p<b.length by omega),a,.i (b.getD p 0),rfl,by omega,⟨by show -1000000≤b.getD p 0; omega,by show b.getD p 0≤1000000; omega,by show (-1000000:Int)≤0; decide,by show (0:Int)≤1000000; decide⟩,yP r (k.ratN n p),_,rfl,by omega,by omega,?_⟩
  refine ⟨k,n,_,25,rfl,hn,by omega,uk t1 t2,fun t ht=>?_,by decide,by decide,fun hk=>?_,fun hk=>absurd h5 (by rw [hk]; decide),fun r' hr' hw' _=>?_⟩
  ·obtain ⟨u,rfl⟩:=lw ht
   obtain ⟨x1,x2⟩:=oX r (k.ratN n p) u
   obtain ⟨y1,y2⟩:=oX a (.i (b.getD p 0)) u
   rw [zM,zQ,x1,x2,y1,y2]
   have g1:=Z5 hn hr (by omega) u
   have g2:=(Z6 hn hLa w1 u).1
   obtain ⟨z1,z2⟩:=Xs (p:=p) hn (by omega)
   have m1:=yW g1 z1
   have m2:=yW g1 z2
   have m3:(hf a u*(b.getD p 0)).natAbs≤122*122:=yW g2 fo
   show (hf r u*(k.ratN n p).re+hf a u*(b.getD p 0)).natAbs≤33554432∧(hf r u*(k.ratN n p).im+hf a u*0).natAbs≤33554432
   rw [Int.mul_zero]
   generalize hf r u * (k.ratN n p).re=Y1 at *
   generalize hf r u * (k.ratN n p).im=Y2 at *
   generalize hf a u * b.getD p 0=Y3 at *
   exact ⟨by omega,by omega⟩
  ·rw [hww,zB]
   obtain ⟨h0,h1⟩:=YM hk hn (fun u=>by
    by_cases hu:u<b.length
    ·have f1:=(hLb.fig u hu).1
     have:k.low n u=0:=by rcases hk with rfl | rfl <;> rfl
     rw [this] at f1
     exact f1
    ·rw [yM (by omega)]; exact Int.le_refl _) (i+1) p
   rw [h1,Int.mul_zero,Int.sub_zero]
   exact Int.mul_nonneg (fX hn hLa hk) h0
  ·exact ⟨_,rfl,r',_,_,rfl,hr',by rw [hw',hww,eb'],dS h5 hn hLa hLb (by omega:p+(i+1)=b.length) hw hr' (by rw [hw',hww])⟩
 ·rintro ρ' ⟨r,v4,v5,rfl,hr,hwr,hlr⟩
  have e:(((List.map Dt.int b).length:Int) - 1 - (-1)).toNat=b.length:=by omega
  rw [e,Nat.sub_self,← jK h5] at hwr
  exact ⟨_,rfl,q r hr hwr hlr⟩
abbrev oV:Stmt:=top 48
theorem dw:zi ["way","one","other"] ["way","one","other"] (defScope oV):=by walk_at "sc"
theorem ca (T:Txt K mg A) (G_held_to_be_writings:DOk P w K mg base 4 "held_to_be_writings" (ax A)) (G_times_in_falling:FOk P w K mg base 8 "times_in_falling" (l5 A)) (G_times_by_ratio:FOk P w K mg base 8 "times_by_ratio" (l4 A)) (F:Fun K "times" "times" oV f fd):FnOk P w K mg base CX0 9 f fd ["way","one","other"] (yZ K (gm A)):=by
 refine okF F dw (fun ds Q h=>?_) (fun cdv A' outer s H E hr ds Q h=>?_)
 ·obtain ⟨k,n,a,b,rfl,hn,hLa,hLb,hw,q⟩:=h
  rfl
 obtain ⟨k,n,a,b,rfl,hn,hLa,hLb,hw,q⟩:=h
 refine ⟨_,(zf (h_ (zl G_held_to_be_writings (hr.mono (by decide)) rfl (zc (dv 0) (zc (yi (zc (dv 1) (zc (dv 2) zg))) zg))))
 (zf (zF (yf (ux T.isinstance T.gc_Falling (dv 0))) (zh (wA (ya G_times_in_falling (hr.mono (by decide)) rfl (zc (dv 0) (zc (dv 1) (zc (dv 2) zg)))))) zr)
 (zh (wA (ya G_times_by_ratio (hr.mono (by decide)) rfl (zc (dv 0) (zc (dv 1) (zc (dv 2) zg)))))))),?_⟩
 obtain ⟨w1,w2,w3,w4⟩:=id hw
 refine ⟨_,rfl,_,rfl,_,rfl,rfl,k,n,[a,b],rfl,hn,fun r' h'=>?_,?_⟩
 ·rcases List.mem_cons.mp h' with rfl | h'
  ·exact ⟨hLa,by omega⟩
  ·rw [List.mem_singleton.mp h']; exact ⟨hLb,by omega⟩
 refine ⟨_,rfl,_,_,_,_,rfl,iZ T k,kiF T k,_,rfl,?_⟩
 by_cases hk:k=.falling
 ·subst hk
  refine ifT rfl ?_
  exact ⟨_,rfl,_,rfl,_,rfl,n,a,b,rfl,hn,hLa,hLb,w3,fun r hr hwr hl=>q r hr (by rw [y7,y7,y7,hwr]; rfl) (by omega)⟩
 ·have h5:k.five=true:=by cases k <;> first | rfl | exact absurd rfl hk
  refine ifF (ut h5) ?_
  exact ⟨_,rfl,_,rfl,_,rfl,k,n,a,b,rfl,h5,hn,hLa,hLb,hw,q⟩
abbrev wO:Stmt:=top 56
theorem sc_law_legal:zi ["_law_kind","_law_by","_law_row","_law_place","_law_low","_law_high"] ["_law_kind","_law_by","_law_row"] (defScope wO):=by walk_at "sc"
theorem o8 (T:Txt K mg A) (G__law_span:DOk P w K mg base 1 "_law_span" (iC)) (F:Fun K "_law_legal" "_law_legal" wO f fd):FnOk P w K mg base CX0 2 f fd ["_law_kind","_law_by","_law_row"] (zt K (aw)):=by
 refine okD F sc_law_legal (fun ds Q h=>?_) (fun cdv A' outer s H E hr ds Q h=>?_)
 ·obtain ⟨k,n,r,rfl,hn,hL,hl,q⟩:=h
  rfl
 obtain ⟨k,n,r,rfl,hn,hL,hl,q⟩:=h
 refine ⟨_,(zf (zF (wz (yf (tS (T:=.list) T.kt T.isinstance T.n_list PyProof.Rows.boot_list (dv 2)))) (zh (zk vc)) zr)
 (zf (nW (j:=3) rfl sc_law_legal.nd rfl (Or.inl rfl) PassesOwn.never rfl T.range (yr rfl T.len (dv 2)) (zf (nV (i:=4) (j:=5) rfl sc_law_legal.nd rfl rfl (Or.inl rfl) (Or.inl rfl) (zl G__law_span (hr.mono (by decide)) rfl (zc (dv 0) (zc (dv 1) (zc (dv 3) zg)))))
 (yb (zF (DW.dt (vL (wz (yf (tS (T:=.int) T.kt T.isinstance T.n_int PyProof.Rows.boot_int (zq (dv 2) (dv 3) (fun _ _=>rfl))))) (vL (yf (tS (T:=.bool) T.kt T.isinstance T.n_bool PyProof.Rows.boot_bool (zq (dv 2) (dv 3) (fun _ _=>rfl)))) (tP (wz (bK (Um) (Um) (dv 4) (zq (dv 2) (dv 3) (fun _ _=>rfl)) (dv 5))))))) (zh (zk vc)) zr)
 (zh (zF (DW.dt (yO (zw (yu hr) (dv 0) zd (zp _)) (yO (zw (nh) (dv 3) zd (zp _)) (yO (zw (yu hr) (zq (dv 2) (dv 3) (fun _ _=>rfl)) (dv 1) (zp _)) (yN (zw (ng hr) (zq (dv 2) (zj zV (dv 3) zd) (fun _ _=>rfl)) zd (zp _))))))) (zh (zk vc)) zr)))))
 (zh (zk (UX (vb (yu hr) (yr rfl T.len (dv 2)) zd (zp _)) (qz (vb (ng hr) (zq (dv 2) (yh zd) (fun _ _=>rfl)) zd (zp _)))))))),?_⟩
 have ll:=zI r
 walk_at "rd"
 refine ⟨_,fun i ρ=>∃ v3 v4 v5,ρ=[.some (.int k.num),.some (.int n),.some (zE r),v3,v4,v5],rfl,by omega,by omega,⟨_,_,_,rfl⟩,?_,?_⟩
 ·rintro i ρ' hi ⟨v3,v4,v5,rfl⟩
  have hi':i<r.length:=by omega
  obtain ⟨f1,f2⟩:=hL.fig i hi'
  refine ⟨_,rfl,_,rfl,_,rfl,k,n,i,rfl,hn,_,_,rfl,?_⟩
  refine ⟨fun ρ=>ρ=[.some (.int k.num),.some (.int n),.some (zE r),.some (.int i),.some (.int (k.low n i)),.some (.int (k.high n i))],?_,?_⟩
  ·refine ⟨_,rfl,_,rfl,_,_,_,rfl,rfl,xP hi',?_⟩
   walk_at "rd"
   refine ⟨_,_,_,rfl,rfl,xP hi',?_⟩
   walk_at "rd"
   refine ⟨_,_,_,rfl,rfl,xP hi',?_⟩
   refine ⟨_,_,rfl,rfl,_,rfl,ifT (decide_eq_true f1) ?_⟩
   refine ⟨_,rfl,_,_,rfl,rfl,_,rfl,?_⟩
   rw [decide_eq_true f2]
   exact ifF rfl rfl
  ·rintro ρ' rfl
   by_cases hk:k=.falling
   ·subst hk
    refine ⟨_,rfl,rfl,rfl,_,rfl,ifT rfl ?_⟩
    refine ⟨_,rfl,_,_,rfl,rfl,_,rfl,?_⟩
    refine ifB (fun h3=>?_) (fun h3=>ifF rfl ⟨_,_,_,rfl⟩)
    have h3:(0:Int)<i:=of_decide_eq_true h3
    refine ⟨_,rfl,_,rfl,_,_,_,rfl,rfl,xP hi',_,rfl,rfl,rfl,_,rfl,?_⟩
    refine ifB (fun h4=>?_) (fun h4=>ifF rfl ⟨_,_,_,rfl⟩)
    refine ⟨_,rfl,_,rfl,_,_,rfl,rfl,_,_,_,rfl,rfl,vE (by omega) (by omega),rfl,rfl,_,rfl,ifF (nT (eqI ?_)) ⟨_,_,_,rfl⟩⟩
    have e1:((i:Int) - 1).toNat=i - 1:=by omega
    rw [e1]
    have hi1:i - 1+1=i:=by omega
    exact hL.fal rfl (i - 1) (by omega) (by rw [hi1]; exact kL h4)
   ·have en:eqD (.int k.num) (.int 4)=false:=by cases k <;> first | rfl | exact absurd rfl hk
    exact ⟨_,rfl,rfl,rfl,_,rfl,ifF en (ifF rfl ⟨_,_,_,rfl⟩)⟩
 ·rintro ρ' ⟨v3,v4,v5,rfl⟩
  walk_at "rd"
  rcases zO r with rfl | ⟨l,y,rfl⟩
  ·exact ifT rfl q
  ·have ez:(l++[y]).getD ((l++[y]).length - 1) 0=y:=by rw [List.length_append]; exact getD_snoc_eq
   have hy:y≠0:=by
    rcases hL.end_ with h | h
    ·simp at h
    ·rw [ez] at h; exact h
   refine ifF (neI (by rw [ll,List.length_append]; simp; omega)) ?_
   refine ⟨_,rfl,_,rfl,_,_,_,rfl,rfl,vg,rfl,rfl,?_⟩
   rw [neI hy]
   exact q
abbrev rO:Stmt:=top 61
theorem sc_law:zi ["_law_script","_law_kind","_law_by","_law_one","_law_other","_law_way_here","_law_due","_law_handed","_law_found","_law_kept"] ["_law_script"] (defScope rO):=by walk_at "sc"
theorem XU (T:Txt K mg A) (G__law_pick:DOk P w K mg base 2 "_law_pick" (au)) (G__law_cell_at:DOk P w K mg base 1 "_law_cell_at" (az)) (G__law_two:DOk P w K mg base 3 "_law_two" (Xb)) (G__law_way:DOk P w K mg base 5 "_law_way" (al A)) (G__law_product:DOk P w K mg base 1 "_law_product" (aq)) (G__law_number:DOk P w K mg base 2 "_law_number" (av)) (G_times:FOk P w K mg base 9 "times" (gm A)) (G__law_legal:DOk P w K mg base 2 "_law_legal" (aw)) (F:Fun K "law" "law" rO f fd):FnOk P w K mg base CX0 10 f fd ["_law_script"] (zt K (gw)):=by
 refine okD F sc_law (fun ds Q h=>?_) (fun cdv A' outer s H E hr ds Q h=>?_)
 ·obtain ⟨ns,rfl,hns,q⟩:=h
  rfl
 obtain ⟨ns,rfl,hns,q⟩:=h
 refine ⟨_,(zf (nV (i:=1) (j:=2) rfl sc_law.nd rfl rfl (Or.inl rfl) (Or.inl rfl) (zl G__law_pick (hr.mono (by decide)) rfl (zc (zl G__law_cell_at (hr.mono (by decide)) rfl (zc (dv 0) (zc zd zg))) zg)))
 (zf (nV (i:=3) (j:=4) rfl sc_law.nd rfl rfl (Or.inl rfl) (Or.inl rfl) (zl G__law_two (hr.mono (by decide)) rfl (zc (dv 0) (zc (dv 1) (zc (dv 2) (zc (zq (yi (zc zd (zc zd zg))) (Yk rfl T.n_int (vb (yu hr) (dv 1) zd (zp _))) (fun _ _=>rfl)) zg))))))
 (zf (zA (i:=5) sc_law.nd rfl (Or.inl rfl) (zl G__law_way (hr.mono (by decide)) rfl (zc (dv 1) (zc (dv 2) zg))))
 (zf (zA (i:=6) sc_law.nd rfl (Or.inl rfl) (zl G__law_product (hr.mono (by decide)) rfl (zc (dv 1) (zc (zl G__law_number (hr.mono (by decide)) rfl (zc (dv 1) (zc (dv 2) (zc (dv 3) zg)))) (zc (zl G__law_number (hr.mono (by decide)) rfl (zc (dv 1) (zc (dv 2) (zc (dv 4) zg)))) zg)))))
 (zf (zA (i:=7) sc_law.nd rfl (Or.inl rfl) (yi (zc (DF.de (rb rfl T.n_list (dv 3))) (zc (DF.de (rb rfl T.n_list (dv 4))) zg))))
 (zf (yk (i:=8) sc_law.nd rfl (Or.inl rfl) (ya G_times (hr.mono (by decide)) rfl (zc (dv 5) (zc (zq (dv 7) zd (fun _ _=>rfl)) (zc (zq (dv 7) zd (fun _ _=>rfl)) zg)))))
 (yb (zF (Vl (DW.dt (vL (wz (yf (zl G__law_legal (hr.mono (by decide)) rfl (zc (dv 1) (zc (dv 2) (zc (dv 8) zg)))))) (vL (zw (ng hr) (zl G__law_number (hr.mono (by decide)) rfl (zc (dv 1) (zc (dv 2) (zc (dv 8) zg)))) (dv 6) (zp _)) (tP (zw (ng hr) (dv 7) (yi (zc (dv 3) (zc (dv 4) zg))) (zp _))))))) (zh (zk vc)) zr)
 (zf (zA (i:=9) sc_law.nd rfl (Or.inl rfl) (DF.de (bU 8 rfl T.n_list)))
 (zf (wB 8 zd)
 (yb (zF (DW.dt (vL (zw (ng hr) (DF.de (ya G_times (hr.mono (by decide)) rfl (zc (dv 5) (zc (zq (dv 7) zd (fun _ _=>rfl)) (zc (zq (dv 7) zd (fun _ _=>rfl)) zg))))) (dv 9) (zp _)) (vL (zw (ng hr) (DF.de (ya G_times (hr.mono (by decide)) rfl (zc (dv 5) (zc (zq (dv 7) zd (fun _ _=>rfl)) (zc (yi zg) zg))))) (yi zg) (zp _)) (tP (zw (ng hr) (DF.de (ya G_times (hr.mono (by decide)) rfl (zc (dv 5) (zc (yi zg) (zc (zq (dv 7) zd (fun _ _=>rfl)) zg))))) (yi zg) (zp _)))))) (zh (zk vc)) zr)
 (zf (yk (i:=8) sc_law.nd rfl (Or.inl rfl) (ya G_times (hr.mono (by decide)) rfl (zc (dv 5) (zc (zq (dv 7) zd (fun _ _=>rfl)) (zc (yi (zc zd zg)) zg)))))
 (zf (wB 8 zd)
 (zh (zk (v9 (vb (yu hr) (dv 7) (yi (zc (dv 3) (zc (dv 4) zg))) (zp _)) (v9 (vb (yu hr) (DF.de (ya G_times (hr.mono (by decide)) rfl (zc (dv 5) (zc (yi (zc zd zg)) (zc (zq (dv 7) zd (fun _ _=>rfl)) zg))))) (dv 4) (zp _)) (qz (vb (yu hr) (DF.de (ya G_times (hr.mono (by decide)) rfl (zc (dv 5) (zc (zq (dv 7) zd (fun _ _=>rfl)) (zc (yi (zc zd zg)) zg))))) (dv 3) (zp _))))))))))))))))))),?_⟩
 refine ⟨_,rfl,ns,_,rfl,by decide,fun z0=>⟨_,rfl,fun k n hn=>⟨_,_,rfl,?_⟩⟩⟩
 have hm:∃ m:Int,atI [Dt.int 24,.int 12] (if eqD (.int k.num) (.int 4)=true then 1 else 0)=some (.int m)∧0≤m∧m≤24:=by
  cases k <;> exact ⟨_,rfl,by decide,by decide⟩
 obtain ⟨m,em,m0,m1⟩:=hm
 walk_at "rd"
 refine ⟨_,_,_,rfl,rfl,em,ns,k,n,m,rfl,hn,hns,m0,by omega,fun a b hLa hLb la lb la' lb'=>⟨_,_,rfl,?_⟩⟩
 have bda:=j6 hn hLa (by omega)
 have bdb:=j6 hn hLb (by omega)
 have hw1:few k a.length b.length:=⟨by omega,by omega,by omega,fun _=>by omega⟩
 have hw2:few k b.length a.length:=⟨by omega,by omega,by omega,fun _=>by omega⟩
 refine ⟨_,rfl,_,rfl,k,n,rfl,hn,?_⟩
 refine ⟨_,rfl,_,rfl,_,rfl,_,rfl,k,n,a,rfl,hn,by omega,bda,_,rfl,_,rfl,_,rfl,k,n,b,rfl,hn,by omega,bdb,k,_,_,rfl,zH k n a,zH k n b,ma hn hLa hLb (by omega) (by omega),?_⟩
 refine ⟨_,rfl,_,rfl,_,rfl,_,rfl,rfl,?_⟩
 have oks:okE 40 (.lst [zE a,zE b])=true:=by
  show (okE 39 (zE a) && (okE 39 (zE b) && true))=true
  rw [mU,mU]
  rfl
 have eqs:=qw 40 oks
 refine ⟨_,rfl,_,rfl,_,_,_,rfl,rfl,rfl,_,rfl,_,_,_,rfl,rfl,rfl,k,n,a,b,rfl,hn,hLa,hLb,hw1,fun r hr hwr hlr=>⟨_,rfl,?_⟩⟩
 have bdr:=j6 hn hr (by omega)
 refine ⟨fun ρ=>ρ=[.some (.scr ns),.some (.int k.num),.some (.int n),.some (zE a),.some (zE b),.some (zZ A k n),.some ((zm k n a).mul (zm k n b)).dt,.some (.lst [zE a,zE b]),.own (r.map Dt.int),.none],?_,?_⟩
 ·refine ⟨_,rfl,_,rfl,_,rfl,k,n,r,rfl,hn,hr,by omega,_,rfl,ifF rfl ?_⟩
  refine ⟨_,rfl,_,rfl,_,rfl,k,n,r,rfl,hn,by omega,bdr,_,rfl,vU _,vU _,_,rfl,?_⟩
  rw [hwr,qw 40 (vU _)]
  refine ifF rfl ?_
  refine ⟨_,rfl,_,rfl,_,rfl,rfl,oks,oks,_,rfl,?_⟩
  refine ifF (nT eqs) rfl
 rintro ρ rfl
 refine ⟨_,rfl,_,rfl,by rw [zI]; omega,?_⟩
 have ty:∀ r,(zm k n r).ty k:=zH k n
 refine ⟨fun ρ=>ρ=[.some (.scr ns),.some (.int k.num),.some (.int n),.some (zE a),.some (zE b),.some (zZ A k n),.some ((zm k n a).mul (zm k n b)).dt,.some (.lst [zE a,zE b]),.own (r.map Dt.int++[.int 1]),.some (zE r)],?_,?_⟩
 ·refine ⟨_,rfl,_,rfl,_,_,_,rfl,rfl,rfl,_,rfl,_,_,_,rfl,rfl,rfl,k,n,b,a,rfl,hn,hLb,hLa,hw2,fun r2 hr2 hwr2 _=>?_⟩
  obtain rfl:r2=r:=kb hn hr2 hr (by rw [hwr2,hwr,bf])
  refine ⟨_,rfl,yL _,yL _,_,rfl,ifF (nT (qv _)) ?_⟩
  refine ⟨_,rfl,_,rfl,_,_,_,rfl,rfl,rfl,rfl,k,n,a,[],rfl,hn,hLa,yV k n,⟨by omega,by decide,by show a.length+0≤_; omega,fun _=>by show a.length+0≤_; omega⟩,fun r3 hr3 hwr3 _=>?_⟩
  obtain rfl:r3=[]:=kb hn hr3 (yV k n) (by rw [hwr3,p8]; exact bb (ty a))
  refine ⟨rfl,yL [],yL [],_,rfl,ifF (nT (qv [])) ?_⟩
  refine ⟨_,rfl,rfl,_,rfl,_,_,_,rfl,rfl,rfl,k,n,[],b,rfl,hn,yV k n,hLb,⟨by decide,by omega,by show 0+b.length≤_; omega,fun _=>by show 0+b.length≤_; omega⟩,fun r4 hr4 hwr4 _=>?_⟩
  obtain rfl:r4=[]:=kb hn hr4 (yV k n) (by rw [hwr4,p8,bf]; exact bb (ty b))
  exact ⟨rfl,yL [],yL [],_,rfl,ifF (nT (qv [])) rfl⟩
 rintro ρ rfl
 have few1:∀ {x:Nat},x≤24→few k x [(1:Int)].length∧few k [(1:Int)].length x:=fun h=>⟨⟨by omega,by decide,by show _+1≤_; omega,fun _=>by show _+1≤_; omega⟩,by decide,by omega,by show 1+_≤_; omega,fun _=>by show 1+_≤_; omega⟩
 refine ⟨_,rfl,_,rfl,_,_,_,rfl,rfl,rfl,rfl,k,n,a,[1],rfl,hn,hLa,tG hn,(few1 (by omega)).1,fun r5 hr5 hwr5 _=>⟨_,rfl,?_⟩⟩
 obtain rfl:r5=a:=kb hn hr5 hLa (by rw [hwr5,qm (ty a)])
 refine ⟨_,rfl,by rw [zI]; omega,?_⟩
 refine ⟨_,rfl,_,rfl,_,rfl,rfl,oks,oks,_,rfl,?_⟩
 rw [eqs]
 refine ifT rfl ?_
 refine ⟨_,rfl,rfl,_,rfl,_,_,_,rfl,rfl,rfl,k,n,[1],b,rfl,hn,tG hn,hLb,(few1 (by omega)).2,fun r6 hr6 hwr6 _=>?_⟩
 obtain rfl:r6=b:=kb hn hr6 hLb (by rw [hwr6,bf,qm (ty b)])
 refine ⟨_,rfl,yL _,yL _,_,rfl,?_⟩
 rw [qv]
 refine ifT rfl ?_
 refine ⟨_,rfl,_,rfl,_,_,_,rfl,rfl,rfl,rfl,k,n,r5,[1],rfl,hn,hr5,tG hn,(few1 (by omega)).1,fun r7 hr7 hwr7 _=>?_⟩
 obtain rfl:r7=r5:=kb hn hr7 hr5 (by rw [hwr7,qm (ty r5)])
 refine ⟨_,rfl,yL _,yL _,?_⟩
 exact (qv r7).symm ▸ q
end
section
variable (K:PySem.W.Frag)
def FX (n q:Str) (st:Stmt) (f:Addr):Prop:=∃ oc od kV dc pm an cd ct sl,K.lookup f=some ⟨oc,od,.func (PySem.W.fnOf n q (defArgs st) (defBody st) (defScope st) .none kV dc pm an cd ct),sl⟩∧PySem.W.codeIn K cd q=true∧PySem.W.keepIn K (.ref f)=true
def FD (n:Str) (st:Stmt) (f:Addr):Prop:=PySem.W.nsIn K mainGlobals n=some (some (.ref f))∧FX K n n st f
def FM (n q:Str) (st:Stmt) (f:Addr):Prop:=PySem.W.isFn K (.ref f)=true∧FX K n q st f
def Fi (C:Addr) (n:Str) (f:Addr):Prop:=PySem.W.findIn K (.ref C) n=some (some (.ref f))
def Ki (C D:Addr) (b:Bool):Prop:=PySem.W.kitOne K (.ref C) (.ref D)=some b
def Zn (n:Str):Prop:=PySem.W.nsIn K mainGlobals n=some none
structure ClR (C:Addr) (x:Str):Prop where
 cls:Cls K C
 mks:PySem.W.makesIn K C=true
 kc:PySem.W.keepIn K (.ref C)=true
 na:PySem.W.findIn K (.ref C) x=some none
structure IR (C:Addr):Prop where
 ia:PySem.W.findIn K (.ref C) "__class__"=some (some (.builtin "object.__class__"))
 im:PySem.W.mroIn K C (.type "object")=some true
variable {K} {n q:Str} {st:Stmt} {f:Addr}
theorem FX.mk {oc od kV dc pm an cd ct sl} (l:K.lookup f=some ⟨oc,od,.func (PySem.W.fnOf n q (defArgs st) (defBody st) (defScope st) .none kV dc pm an cd ct),sl⟩) (c:PySem.W.codeIn K cd q=true) (k:PySem.W.keepIn K (.ref f)=true):FX K n q st f:=⟨_,_,_,_,_,_,_,_,_,l,c,k⟩
theorem FX.get (r:FX K n q st f) (ps:List Str) (h:∀ (kV doc pm:Value) (an:Option Addr) (cdv ct:Value) (us:List Value),us.length=ps.length→bindArgs (PySem.W.fnOf n q (defArgs st) (defBody st) (defScope st) .none kV doc pm an cdv ct) ⟨us,[]⟩=pure (ps.zip us)):∃ fd,Fun K n q st f fd∧Binds K fd ps []:=
 let ⟨_,_,_,_,_,_,_,_,_,l,c,k⟩:=r; ⟨_,j5 l c k,(j5 l c k).binds h⟩
theorem FD.get (r:FD K n st f) {h:Heap} {mg:Str→Option Value} (X:K.In h) (G:h.Ns mainGlobals mg) (ps:List Str) (h:∀ (kV doc pm:Value) (an:Option Addr) (cdv ct:Value) (us:List Value),us.length=ps.length→bindArgs (PySem.W.fnOf n n (defArgs st) (defBody st) (defScope st) .none kV doc pm an cdv ct) ⟨us,[]⟩=pure (ps.zip us)):∃ fd,mg n=some (.ref f)∧Fun K n n st f fd∧Binds K fd ps []:=
 let ⟨fd,F,b⟩:=r.2.get ps h; ⟨fd,PySem.W.mg_of X G r.1,F,b⟩
theorem FM.get (r:FM K n q st f) (ps:List Str) (h:∀ (kV doc pm:Value) (an:Option Addr) (cdv ct:Value) (us:List Value),us.length=ps.length→bindArgs (PySem.W.fnOf n q (defArgs st) (defBody st) (defScope st) .none kV doc pm an cdv ct) ⟨us,[]⟩=pure (ps.zip us)):∃ fd,Fun K n q st f fd∧Binds K fd ps []:=r.2.get ps h
end
theorem all_mk {l:PySem.W.OpenLaw} {w:World} {K:PySem.W.Frag} {h:Heap} {mg:Str→Option Value} {fa:Addr} (X:K.In h) (G:h.Ns mainGlobals mg) (hfa:mg "law"=some (.ref fa))
 {C_Plain C_Below C_Balanced C_Growing C_Falling C_Pairs C_TooLess f1 f2 f3 f4 f5 f6 f7 f8 f9 f10 f11 f12 f13 f14 f15 f16 f17 f18 f19 f20 f21 f22 f23 f24 f25 f26 f27 f28 f29 f30 f31 f32 f33 f34 f35 f36 f37 f38 f39 f40 f41 f42 f43 f44 f45 f46 f47 f48 f49 f50 f51 f52 f53 f54 f55 f56 f57 f58 f59 f60 f61 f62 f63 f64 f65 f66:Addr}
 (aC_Plain:PySem.W.nsIn K mainGlobals "Plain"=some (some (.ref C_Plain)))
 (aC_Below:PySem.W.nsIn K mainGlobals "Below"=some (some (.ref C_Below)))
 (aC_Balanced:PySem.W.nsIn K mainGlobals "Balanced"=some (some (.ref C_Balanced)))
 (aC_Growing:PySem.W.nsIn K mainGlobals "Growing"=some (some (.ref C_Growing)))
 (aC_Falling:PySem.W.nsIn K mainGlobals "Falling"=some (some (.ref C_Falling)))
 (aC_Pairs:PySem.W.nsIn K mainGlobals "Pairs"=some (some (.ref C_Pairs)))
 (aC_TooLess:PySem.W.nsIn K mainGlobals "TooLess"=some (some (.ref C_TooLess)))
 (r1:FD K "_law_mixed" wM f1)
 (r2:FD K "_law_pick" vP f2)
 (r3:FD K "_law_cell_at" xK f3)
 (r4:FD K "_law_span" vO f4)
 (r5:FD K "_law_figures" xJ f5)
 (r6:FD K "_law_two" xS f6)
 (r7:FD K "is_whole" vR f7)
 (r8:FD K "bounded" uN f8)
 (a9_Plain:Fi K C_Plain "__init__" f9)
 (r9:FM K "__init__" "Plain.__init__" xb f9)
 (a10_Below:Fi K C_Below "__init__" f10)
 (r10:FM K "__init__" "Below.__init__" xf f10)
 (a11_Balanced:Fi K C_Balanced "__init__" f11)
 (r11:FM K "__init__" "Balanced.__init__" yx f11)
 (a12_Growing:Fi K C_Growing "__init__" f12)
 (r12:FM K "__init__" "Growing.__init__" yG f12)
 (a13_Falling:Fi K C_Falling "__init__" f13)
 (r13:FM K "__init__" "Falling.__init__" yH f13)
 (a14_Pairs:Fi K C_Pairs "__init__" f14)
 (r14:FM K "__init__" "Pairs.__init__" xc f14)
 (r15:FD K "_law_way" uK f15)
 (r16:FD K "_law_product" xI f16)
 (r17:FD K "_law_next" vQ f17)
 (r18:FD K "_law_number" wc f18)
 (r19:FD K "has_mosts_above_noughts_alone" zN f19)
 (a20_Plain:Fi K C_Plain "low" f20)
 (a20_Below:Fi K C_Below "low" f20)
 (a20_Growing:Fi K C_Growing "low" f20)
 (a20_Falling:Fi K C_Falling "low" f20)
 (a20_Pairs:Fi K C_Pairs "low" f20)
 (r20:FM K "low" "Way.low" uP f20)
 (a21_Balanced:Fi K C_Balanced "low" f21)
 (r21:FM K "low" "Balanced.low" xq f21)
 (a22_Plain:Fi K C_Plain "high" f22)
 (r22:FM K "high" "Plain.high" wj f22)
 (a23_Below:Fi K C_Below "high" f23)
 (r23:FM K "high" "Below.high" wl f23)
 (a24_Balanced:Fi K C_Balanced "high" f24)
 (r24:FM K "high" "Balanced.high" y9 f24)
 (a25_Growing:Fi K C_Growing "high" f25)
 (r25:FM K "high" "Growing.high" xo f25)
 (a26_Falling:Fi K C_Falling "high" f26)
 (r26:FM K "high" "Falling.high" xp f26)
 (a27_Pairs:Fi K C_Pairs "high" f27)
 (r27:FM K "high" "Pairs.high" wk f27)
 (r28:FD K "has_figures_alone" yn f28)
 (r29:FD K "is_writing" wd f29)
 (r30:FD K "held_to_be_writings" yd f30)
 (r31:FD K "as_pair" uO f31)
 (r32:FD K "added" oW f32)
 (r33:FD K "thing_at" vN f33)
 (r34:FD K "row_plus" x_ f34)
 (r35:FD K "multiplied" wa f35)
 (r36:FD K "row_times" xF f36)
 (r37:FD K "held_to_be_a_heap" ym f37)
 (r38:FD K "step_at" uI f38)
 (r39:FD K "how_often" wP f39)
 (r40:FD K "changes" uM f40)
 (r41:FD K "do_steps" vS f41)
 (r42:FD K "trimmed" uH f42)
 (r43:FD K "steps_and_writing" yl f43)
 (r44:FD K "fallen" rP f44)
 (a45_Plain:Fi K C_Plain "nought" f45)
 (a45_Below:Fi K C_Below "nought" f45)
 (a45_Balanced:Fi K C_Balanced "nought" f45)
 (a45_Growing:Fi K C_Growing "nought" f45)
 (a45_Falling:Fi K C_Falling "nought" f45)
 (r45:FM K "nought" "Way.nought" wg f45)
 (a46_Pairs:Fi K C_Pairs "nought" f46)
 (r46:FM K "nought" "Pairs.nought" xn f46)
 (a47_Plain:Fi K C_Plain "has" f47)
 (a47_Growing:Fi K C_Growing "has" f47)
 (a47_Falling:Fi K C_Falling "has" f47)
 (r47:FM K "has" "Way.has" uQ f47)
 (a48_Below:Fi K C_Below "has" f48)
 (r48:FM K "has" "Below.has" wS f48)
 (a49_Balanced:Fi K C_Balanced "has" f49)
 (r49:FM K "has" "Balanced.has" xr f49)
 (r50:FD K "is_pair" uL f50)
 (a51_Pairs:Fi K C_Pairs "has" f51)
 (r51:FM K "has" "Pairs.has" wR f51)
 (a52_Plain:Fi K C_Plain "ratio" f52)
 (r52:FM K "ratio" "Plain.ratio" xL f52)
 (a53_Below:Fi K C_Below "ratio" f53)
 (r53:FM K "ratio" "Below.ratio" xO f53)
 (a54_Balanced:Fi K C_Balanced "ratio" f54)
 (r54:FM K "ratio" "Balanced.ratio" yU f54)
 (a55_Growing:Fi K C_Growing "ratio" f55)
 (r55:FM K "ratio" "Growing.ratio" y8 f55)
 (a56_Pairs:Fi K C_Pairs "ratio" f56)
 (r56:FM K "ratio" "Pairs.ratio" xN f56)
 (a57_Plain:Fi K C_Plain "split" f57)
 (a57_Below:Fi K C_Below "split" f57)
 (a57_Balanced:Fi K C_Balanced "split" f57)
 (a57_Growing:Fi K C_Growing "split" f57)
 (r57:FM K "split" "Way.split" wQ f57)
 (a58_Pairs:Fi K C_Pairs "split" f58)
 (r58:FM K "split" "Pairs.split" xM f58)
 (r59:FD K "figures_and_carries" ye f59)
 (r60:FD K "settled" uJ f60)
 (r61:FD K "written_row" xH f61)
 (r62:FD K "times_in_falling" yz f62)
 (r63:FD K "times_by_ratio" yT f63)
 (r64:FD K "times" oV f64)
 (r65:FD K "_law_legal" wO f65)
 (r66:FD K "law" rO f66)
 (c_Plain:ClR K C_Plain "base")
 (c_Below:ClR K C_Below "base")
 (c_Balanced:ClR K C_Balanced "half")
 (c_Growing:ClR K C_Growing "first")
 (c_Falling:ClR K C_Falling "most")
 (c_Pairs:ClR K C_Pairs "most")
 (i_Plain:IR K C_Plain)
 (ki_Plain_Falling:Ki K C_Plain C_Falling false)
 (i_Below:IR K C_Below)
 (ki_Below_Falling:Ki K C_Below C_Falling false)
 (i_Balanced:IR K C_Balanced)
 (ki_Balanced_Falling:Ki K C_Balanced C_Falling false)
 (i_Growing:IR K C_Growing)
 (ki_Growing_Falling:Ki K C_Growing C_Falling false)
 (i_Falling:IR K C_Falling)
 (ki_Falling_Falling:Ki K C_Falling C_Falling true)
 (i_Pairs:IR K C_Pairs)
 (ki_Pairs_Falling:Ki K C_Pairs C_Falling false)
 (in_:PySem.W.specialIn K (.builtin "object.__class__") "__get__"=some (some (.builtin "getset_descriptor.__get__")))
 (it_:PySem.W.takesIn K (.builtin "object.__class__")=some true)
 (ex_TooLess:ExcK K C_TooLess)
 (ix_TooLess:Xf K C_TooLess)
 (kx_TooLess_TooLess:Ki K C_TooLess C_TooLess true)
 (z_isinstance:Zn K "isinstance")
 (z_int:Zn K "int")
 (z_bool:Zn K "bool")
 (z_tuple:Zn K "tuple")
 (z_list:Zn K "list")
 (z_len:Zn K "len")
 (z_range:Zn K "range")
 (z_enumerate:Zn K "enumerate")
 (z_min:Zn K "min")
 (z_max:Zn K "max"):
 ∃ fd:FuncData,(∀ (s:Shared) (v:Value),BindsTo s fd ⟨[v],[]⟩ [("_law_script",v)])∧∀ base:Heap,K.In base→base.Ns mainGlobals mg→FnOk l.prog w K mg base CX0 10 fa fd ["_law_script"] (zt K (gw)):=by
 let A:Adr:=⟨C_Plain,C_Below,C_Balanced,C_Growing,C_Falling,C_Pairs,C_TooLess⟩
 have T:Txt K mg A:=⟨R8 K,PySem.W.mg_none_of X G z_isinstance,PySem.W.mg_none_of X G z_int,PySem.W.mg_none_of X G z_bool,PySem.W.mg_none_of X G z_tuple,PySem.W.mg_none_of X G z_list,PySem.W.mg_none_of X G z_len,PySem.W.mg_none_of X G z_range,PySem.W.mg_none_of X G z_enumerate,PySem.W.mg_none_of X G z_min,PySem.W.mg_none_of X G z_max,c_Plain.cls,c_Plain.na,c_Below.cls,c_Below.na,c_Balanced.cls,c_Balanced.na,c_Growing.cls,c_Growing.na,c_Falling.cls,c_Falling.na,c_Pairs.cls,c_Pairs.na,PySem.W.mg_of X G aC_Falling,⟨c_Plain.cls,i_Plain.1,in_,it_,i_Plain.2⟩,ki_Plain_Falling,⟨c_Below.cls,i_Below.1,in_,it_,i_Below.2⟩,ki_Below_Falling,⟨c_Balanced.cls,i_Balanced.1,in_,it_,i_Balanced.2⟩,ki_Balanced_Falling,⟨c_Growing.cls,i_Growing.1,in_,it_,i_Growing.2⟩,ki_Growing_Falling,⟨c_Falling.cls,i_Falling.1,in_,it_,i_Falling.2⟩,ki_Falling_Falling,⟨c_Pairs.cls,i_Pairs.1,in_,it_,i_Pairs.2⟩,ki_Pairs_Falling,PySem.W.mg_of X G aC_TooLess,ex_TooLess,ix_TooLess,kx_TooLess_TooLess⟩
 obtain ⟨_,m1,F1,b1⟩:=r1.get X G ["_law_cell"] fun _ _ _ _ _ _ us hl=>match us,hl with | [_],_=>rfl
 obtain ⟨_,m2,F2,b2⟩:=r2.get X G ["_law_cell"] fun _ _ _ _ _ _ us hl=>match us,hl with | [_],_=>rfl
 obtain ⟨_,m3,F3,b3⟩:=r3.get X G ["_law_script","_law_k"] fun _ _ _ _ _ _ us hl=>match us,hl with | [_,_],_=>rfl
 obtain ⟨_,m4,F4,b4⟩:=r4.get X G ["_law_kind","_law_by","_law_place"] fun _ _ _ _ _ _ us hl=>match us,hl with | [_,_,_],_=>rfl
 obtain ⟨_,m5,F5,b5⟩:=r5.get X G ["_law_kind","_law_by","_law_cells"] fun _ _ _ _ _ _ us hl=>match us,hl with | [_,_,_],_=>rfl
 obtain ⟨_,m6,F6,b6⟩:=r6.get X G ["_law_script","_law_kind","_law_by","_law_most"] fun _ _ _ _ _ _ us hl=>match us,hl with | [_,_,_,_],_=>rfl
 obtain ⟨_,m7,F7,b7⟩:=r7.get X G ["value"] fun _ _ _ _ _ _ us hl=>match us,hl with | [_],_=>rfl
 obtain ⟨_,m8,F8,b8⟩:=r8.get X G ["number","least","most"] fun _ _ _ _ _ _ us hl=>match us,hl with | [_,_,_],_=>rfl
 obtain ⟨_,F9,b9⟩:=r9.get ["self","base"] fun _ _ _ _ _ _ us hl=>match us,hl with | [_,_],_=>rfl
 obtain ⟨_,F10,b10⟩:=r10.get ["self","base"] fun _ _ _ _ _ _ us hl=>match us,hl with | [_,_],_=>rfl
 obtain ⟨_,F11,b11⟩:=r11.get ["self","half"] fun _ _ _ _ _ _ us hl=>match us,hl with | [_,_],_=>rfl
 obtain ⟨_,F12,b12⟩:=r12.get ["self","first"] fun _ _ _ _ _ _ us hl=>match us,hl with | [_,_],_=>rfl
 obtain ⟨_,F13,b13⟩:=r13.get ["self","most"] fun _ _ _ _ _ _ us hl=>match us,hl with | [_,_],_=>rfl
 obtain ⟨_,F14,b14⟩:=r14.get ["self","most"] fun _ _ _ _ _ _ us hl=>match us,hl with | [_,_],_=>rfl
 obtain ⟨_,m15,F15,b15⟩:=r15.get X G ["_law_kind","_law_by"] fun _ _ _ _ _ _ us hl=>match us,hl with | [_,_],_=>rfl
 obtain ⟨_,m16,F16,b16⟩:=r16.get X G ["_law_kind","_law_one","_law_other"] fun _ _ _ _ _ _ us hl=>match us,hl with | [_,_,_],_=>rfl
 obtain ⟨_,m17,F17,b17⟩:=r17.get X G ["_law_kind","_law_by","_law_place","_law_here","_law_lower"] fun _ _ _ _ _ _ us hl=>match us,hl with | [_,_,_,_,_],_=>rfl
 obtain ⟨_,m18,F18,b18⟩:=r18.get X G ["_law_kind","_law_by","_law_row"] fun _ _ _ _ _ _ us hl=>match us,hl with | [_,_,_],_=>rfl
 obtain ⟨_,m19,F19,b19⟩:=r19.get X G ["way","row"] fun _ _ _ _ _ _ us hl=>match us,hl with | [_,_],_=>rfl
 obtain ⟨_,F20,b20⟩:=r20.get ["self","place"] fun _ _ _ _ _ _ us hl=>match us,hl with | [_,_],_=>rfl
 obtain ⟨_,F21,b21⟩:=r21.get ["self","place"] fun _ _ _ _ _ _ us hl=>match us,hl with | [_,_],_=>rfl
 obtain ⟨_,F22,b22⟩:=r22.get ["self","place"] fun _ _ _ _ _ _ us hl=>match us,hl with | [_,_],_=>rfl
 obtain ⟨_,F23,b23⟩:=r23.get ["self","place"] fun _ _ _ _ _ _ us hl=>match us,hl with | [_,_],_=>rfl
 obtain ⟨_,F24,b24⟩:=r24.get ["self","place"] fun _ _ _ _ _ _ us hl=>match us,hl with | [_,_],_=>rfl
 obtain ⟨_,F25,b25⟩:=r25.get ["self","place"] fun _ _ _ _ _ _ us hl=>match us,hl with | [_,_],_=>rfl
 obtain ⟨_,F26,b26⟩:=r26.get ["self","place"] fun _ _ _ _ _ _ us hl=>match us,hl with | [_,_],_=>rfl
 obtain ⟨_,F27,b27⟩:=r27.get ["self","place"] fun _ _ _ _ _ _ us hl=>match us,hl with | [_,_],_=>rfl
 obtain ⟨_,m28,F28,b28⟩:=r28.get X G ["way","row"] fun _ _ _ _ _ _ us hl=>match us,hl with | [_,_],_=>rfl
 obtain ⟨_,m29,F29,b29⟩:=r29.get X G ["way","row"] fun _ _ _ _ _ _ us hl=>match us,hl with | [_,_],_=>rfl
 obtain ⟨_,m30,F30,b30⟩:=r30.get X G ["way","rows"] fun _ _ _ _ _ _ us hl=>match us,hl with | [_,_],_=>rfl
 obtain ⟨_,m31,F31,b31⟩:=r31.get X G ["number"] fun _ _ _ _ _ _ us hl=>match us,hl with | [_],_=>rfl
 obtain ⟨_,m32,F32,b32⟩:=r32.get X G ["one","other"] fun _ _ _ _ _ _ us hl=>match us,hl with | [_,_],_=>rfl
 obtain ⟨_,m33,F33,b33⟩:=r33.get X G ["row","place"] fun _ _ _ _ _ _ us hl=>match us,hl with | [_,_],_=>rfl
 obtain ⟨_,m34,F34,b34⟩:=r34.get X G ["one","other"] fun _ _ _ _ _ _ us hl=>match us,hl with | [_,_],_=>rfl
 obtain ⟨_,m35,F35,b35⟩:=r35.get X G ["one","other"] fun _ _ _ _ _ _ us hl=>match us,hl with | [_,_],_=>rfl
 obtain ⟨_,m36,F36,b36⟩:=r36.get X G ["row","factor"] fun _ _ _ _ _ _ us hl=>match us,hl with | [_,_],_=>rfl
 obtain ⟨_,m37,F37,b37⟩:=r37.get X G ["way","heap"] fun _ _ _ _ _ _ us hl=>match us,hl with | [_,_],_=>rfl
 obtain ⟨_,m38,F38,b38⟩:=r38.get X G ["way","heap","place"] fun _ _ _ _ _ _ us hl=>match us,hl with | [_,_,_],_=>rfl
 obtain ⟨_,m39,F39,b39⟩:=r39.get X G ["way","heap","step"] fun _ _ _ _ _ _ us hl=>match us,hl with | [_,_,_],_=>rfl
 obtain ⟨_,m40,F40,b40⟩:=r40.get X G ["way","step"] fun _ _ _ _ _ _ us hl=>match us,hl with | [_,_],_=>rfl
 obtain ⟨_,m41,F41,b41⟩:=r41.get X G ["way","heap","step","many"] fun _ _ _ _ _ _ us hl=>match us,hl with | [_,_,_,_],_=>rfl
 obtain ⟨_,m42,F42,b42⟩:=r42.get X G ["row"] fun _ _ _ _ _ _ us hl=>match us,hl with | [_],_=>rfl
 obtain ⟨_,m43,F43,b43⟩:=r43.get X G ["way","heap"] fun _ _ _ _ _ _ us hl=>match us,hl with | [_,_],_=>rfl
 obtain ⟨_,m44,F44,b44⟩:=r44.get X G ["way","heap"] fun _ _ _ _ _ _ us hl=>match us,hl with | [_,_],_=>rfl
 obtain ⟨_,F45,b45⟩:=r45.get ["self"] fun _ _ _ _ _ _ us hl=>match us,hl with | [_],_=>rfl
 obtain ⟨_,F46,b46⟩:=r46.get ["self"] fun _ _ _ _ _ _ us hl=>match us,hl with | [_],_=>rfl
 obtain ⟨_,F47,b47⟩:=r47.get ["self","number"] fun _ _ _ _ _ _ us hl=>match us,hl with | [_,_],_=>rfl
 obtain ⟨_,F48,b48⟩:=r48.get ["self","number"] fun _ _ _ _ _ _ us hl=>match us,hl with | [_,_],_=>rfl
 obtain ⟨_,F49,b49⟩:=r49.get ["self","number"] fun _ _ _ _ _ _ us hl=>match us,hl with | [_,_],_=>rfl
 obtain ⟨_,m50,F50,b50⟩:=r50.get X G ["value"] fun _ _ _ _ _ _ us hl=>match us,hl with | [_],_=>rfl
 obtain ⟨_,F51,b51⟩:=r51.get ["self","number"] fun _ _ _ _ _ _ us hl=>match us,hl with | [_,_],_=>rfl
 obtain ⟨_,F52,b52⟩:=r52.get ["self","place"] fun _ _ _ _ _ _ us hl=>match us,hl with | [_,_],_=>rfl
 obtain ⟨_,F53,b53⟩:=r53.get ["self","place"] fun _ _ _ _ _ _ us hl=>match us,hl with | [_,_],_=>rfl
 obtain ⟨_,F54,b54⟩:=r54.get ["self","place"] fun _ _ _ _ _ _ us hl=>match us,hl with | [_,_],_=>rfl
 obtain ⟨_,F55,b55⟩:=r55.get ["self","place"] fun _ _ _ _ _ _ us hl=>match us,hl with | [_,_],_=>rfl
 obtain ⟨_,F56,b56⟩:=r56.get ["self","place"] fun _ _ _ _ _ _ us hl=>match us,hl with | [_,_],_=>rfl
 obtain ⟨_,F57,b57⟩:=r57.get ["self","total","place"] fun _ _ _ _ _ _ us hl=>match us,hl with | [_,_,_],_=>rfl
 obtain ⟨_,F58,b58⟩:=r58.get ["self","total","place"] fun _ _ _ _ _ _ us hl=>match us,hl with | [_,_,_],_=>rfl
 obtain ⟨_,m59,F59,b59⟩:=r59.get X G ["way","totals"] fun _ _ _ _ _ _ us hl=>match us,hl with | [_,_],_=>rfl
 obtain ⟨_,m60,F60,b60⟩:=r60.get X G ["way","totals"] fun _ _ _ _ _ _ us hl=>match us,hl with | [_,_],_=>rfl
 obtain ⟨_,m61,F61,b61⟩:=r61.get X G ["way","row"] fun _ _ _ _ _ _ us hl=>match us,hl with | [_,_],_=>rfl
 obtain ⟨_,m62,F62,b62⟩:=r62.get X G ["way","one","other"] fun _ _ _ _ _ _ us hl=>match us,hl with | [_,_,_],_=>rfl
 obtain ⟨_,m63,F63,b63⟩:=r63.get X G ["way","one","other"] fun _ _ _ _ _ _ us hl=>match us,hl with | [_,_,_],_=>rfl
 obtain ⟨_,m64,F64,b64⟩:=r64.get X G ["way","one","other"] fun _ _ _ _ _ _ us hl=>match us,hl with | [_,_,_],_=>rfl
 obtain ⟨_,m65,F65,b65⟩:=r65.get X G ["_law_kind","_law_by","_law_row"] fun _ _ _ _ _ _ us hl=>match us,hl with | [_,_,_],_=>rfl
 obtain ⟨a66,_,_,kV,dc,pm,an,cd,ct,_,l66,c66,k66⟩:=r66
 cases hfa.symm.trans (PySem.W.mg_of X G a66)
 have F66:=j5 (st:=rO) l66 c66 k66
 refine ⟨PySem.W.fnOf "law" "law" (defArgs rO) (defBody rO) (defScope rO) .none kV dc pm an cd ct,fun s v=>.of_eq rfl,fun base _ _=>?_⟩
 have G__law_mixed:=DOk.mk' F1 m1 b1 (o7 (P:=l.prog) (w:=w) (base:=base) T F1)
 have G__law_pick:=DOk.mk' F2 m2 b2 (mQ T G__law_mixed F2)
 have G__law_cell_at:=DOk.mk' F3 m3 b3 (rW (P:=l.prog) (w:=w) (base:=base) T F3)
 have G__law_span:=DOk.mk' F4 m4 b4 (mP (P:=l.prog) (w:=w) (base:=base) T F4)
 have G__law_figures:=DOk.mk' F5 m5 b5 (rV T G__law_mixed G__law_span F5)
 have G__law_two:=DOk.mk' F6 m6 b6 (kF T G__law_figures F6)
 have G_is_whole:=DOk.mk' F7 m7 b7 (mS (P:=l.prog) (w:=w) (base:=base) T F7)
 have G_bounded:=DOk.mk' F8 m8 b8 (kI T G_is_whole F8)
 have M_Plain:KOk l.prog w K mg base 3 "Plain" A.Plain "base" (Kd.ok .plain):=⟨_,_,_,PySem.W.mg_of X G aC_Plain,⟨c_Plain.mks,a9_Plain,r9.1,c_Plain.kc⟩,b9,qS T G_bounded F9⟩
 have M_Below:KOk l.prog w K mg base 3 "Below" A.Below "base" (Kd.ok .below):=⟨_,_,_,PySem.W.mg_of X G aC_Below,⟨c_Below.mks,a10_Below,r10.1,c_Below.kc⟩,b10,qW T G_bounded F10⟩
 have M_Balanced:KOk l.prog w K mg base 3 "Balanced" A.Balanced "half" (Kd.ok .balanced):=⟨_,_,_,PySem.W.mg_of X G aC_Balanced,⟨c_Balanced.mks,a11_Balanced,r11.1,c_Balanced.kc⟩,b11,uU T G_bounded F11⟩
 have M_Growing:KOk l.prog w K mg base 3 "Growing" A.Growing "first" (Kd.ok .growing):=⟨_,_,_,PySem.W.mg_of X G aC_Growing,⟨c_Growing.mks,a12_Growing,r12.1,c_Growing.kc⟩,b12,sy T G_bounded F12⟩
 have M_Falling:KOk l.prog w K mg base 3 "Falling" A.Falling "most" (Kd.ok .falling):=⟨_,_,_,PySem.W.mg_of X G aC_Falling,⟨c_Falling.mks,a13_Falling,r13.1,c_Falling.kc⟩,b13,sD T G_bounded F13⟩
 have M_Pairs:KOk l.prog w K mg base 3 "Pairs" A.Pairs "most" (Kd.ok .pairs):=⟨_,_,_,PySem.W.mg_of X G aC_Pairs,⟨c_Pairs.mks,a14_Pairs,r14.1,c_Pairs.kc⟩,b14,qU T G_bounded F14⟩
 have G__law_way:=DOk.mk' F15 m15 b15 (kE T M_Plain M_Below M_Balanced M_Growing M_Falling M_Pairs F15)
 have G__law_product:=DOk.mk' F16 m16 b16 (rT (P:=l.prog) (w:=w) (base:=base) T F16)
 have G__law_next:=DOk.mk' F17 m17 b17 (mR (P:=l.prog) (w:=w) (base:=base) T F17)
 have G__law_number:=DOk.mk' F18 m18 b18 (qQ T G__law_next F18)
 have G_has_mosts_above_noughts_alone:=DOk.mk' F19 m19 b19 (yK (P:=l.prog) (w:=w) (base:=base) T F19)
 have N_Plain_low:=MOk.mk (C:=A.Plain) T.cl_Plain ⟨_,_,_,⟨a20_Plain,r20.1,F20.kp⟩,b20,xv (P:=l.prog) (w:=w) (base:=base) T F20⟩
 have N_Below_low:=MOk.mk (C:=A.Below) T.cl_Below ⟨_,_,_,⟨a20_Below,r20.1,F20.kp⟩,b20,xv (P:=l.prog) (w:=w) (base:=base) T F20⟩
 have N_Growing_low:=MOk.mk (C:=A.Growing) T.cl_Growing ⟨_,_,_,⟨a20_Growing,r20.1,F20.kp⟩,b20,xv (P:=l.prog) (w:=w) (base:=base) T F20⟩
 have N_Falling_low:=MOk.mk (C:=A.Falling) T.cl_Falling ⟨_,_,_,⟨a20_Falling,r20.1,F20.kp⟩,b20,xv (P:=l.prog) (w:=w) (base:=base) T F20⟩
 have N_Pairs_low:=MOk.mk (C:=A.Pairs) T.cl_Pairs ⟨_,_,_,⟨a20_Pairs,r20.1,F20.kp⟩,b20,xv (P:=l.prog) (w:=w) (base:=base) T F20⟩
 have N_Balanced_low:=MOk.mk (C:=A.Balanced) T.cl_Balanced ⟨_,_,_,⟨a21_Balanced,r21.1,F21.kp⟩,b21,sG (P:=l.prog) (w:=w) (base:=base) T F21⟩
 have N_Plain_high:=MOk.mk (C:=A.Plain) T.cl_Plain ⟨_,_,_,⟨a22_Plain,r22.1,F22.kp⟩,b22,qT (P:=l.prog) (w:=w) (base:=base) T F22⟩
 have N_Below_high:=MOk.mk (C:=A.Below) T.cl_Below ⟨_,_,_,⟨a23_Below,r23.1,F23.kp⟩,b23,qX (P:=l.prog) (w:=w) (base:=base) T F23⟩
 have N_Balanced_high:=MOk.mk (C:=A.Balanced) T.cl_Balanced ⟨_,_,_,⟨a24_Balanced,r24.1,F24.kp⟩,b24,uV (P:=l.prog) (w:=w) (base:=base) T F24⟩
 have N_Growing_high:=MOk.mk (C:=A.Growing) T.cl_Growing ⟨_,_,_,⟨a25_Growing,r25.1,F25.kp⟩,b25,sA (P:=l.prog) (w:=w) (base:=base) T F25⟩
 have N_Falling_high:=MOk.mk (C:=A.Falling) T.cl_Falling ⟨_,_,_,⟨a26_Falling,r26.1,F26.kp⟩,b26,sE (P:=l.prog) (w:=w) (base:=base) T F26⟩
 have N_Pairs_high:=MOk.mk (C:=A.Pairs) T.cl_Pairs ⟨_,_,_,⟨a27_Pairs,r27.1,F27.kp⟩,b27,qV (P:=l.prog) (w:=w) (base:=base) T F27⟩
 have HLo:∀ k:Kd,MOk l.prog w K mg base 1 (A.at k) "low" (x8 A k (k.low))∧MOk l.prog w K mg base 1 (A.at k) "high" (x8 A k (k.high)):=fun k=>match k with
  | .plain=>⟨N_Plain_low.imp fun ds Q ⟨n,p,e,_,q⟩=>⟨_,_,e,q⟩,N_Plain_high⟩
  | .below=>⟨N_Below_low.imp fun ds Q ⟨n,p,e,_,q⟩=>⟨_,_,e,q⟩,N_Below_high⟩
  | .balanced=>⟨N_Balanced_low,N_Balanced_high⟩
  | .growing=>⟨N_Growing_low.imp fun ds Q ⟨n,p,e,_,q⟩=>⟨_,_,e,q⟩,N_Growing_high⟩
  | .falling=>⟨N_Falling_low.imp fun ds Q ⟨n,p,e,_,q⟩=>⟨_,_,e,q⟩,N_Falling_high⟩
  | .pairs=>⟨N_Pairs_low.imp fun ds Q ⟨n,p,e,_,q⟩=>⟨_,_,e,q⟩,N_Pairs_high⟩
 have G_has_figures_alone:=DOk.mk' F28 m28 b28 (wX (P:=l.prog) (w:=w) (base:=base) T HLo F28)
 have G_is_writing:=DOk.mk' F29 m29 b29 (qR T G_has_mosts_above_noughts_alone G_has_figures_alone F29)
 have G_held_to_be_writings:=DOk.mk' F30 m30 b30 (wn T G_is_writing F30)
 have G_as_pair:=DOk.mk' F31 m31 b31 (kJ T G_is_whole F31)
 have G_added:=DOk.mk' F32 m32 b32 (cb T G_is_whole G_as_pair F32)
 have G_thing_at:=DOk.mk' F33 m33 b33 (mM (P:=l.prog) (w:=w) (base:=base) T F33)
 have G_row_plus:=DOk.mk' F34 m34 b34 (mO T G_added G_thing_at F34)
 have G_multiplied:=DOk.mk' F35 m35 b35 (qP T G_is_whole G_as_pair F35)
 have G_row_times:=DOk.mk' F36 m36 b36 (o6 T G_multiplied F36)
 have G_held_to_be_a_heap:=DOkX.mk' F37 m37 b37 (wW (P:=l.prog) (w:=w) (base:=base) T F37)
 have G_step_at:=DOk.mk' F38 m38 b38 (kC (P:=l.prog) (w:=w) (base:=base) T F38)
 have G_how_often:=DOk.mk' F39 m39 b39 (o9 (P:=l.prog) (w:=w) (base:=base) T F39)
 have G_changes:=DOk.mk' F40 m40 b40 (kH (P:=l.prog) (w:=w) (base:=base) T F40)
 have G_do_steps:=AOk.mk' F41 m41 b41 (mT T G_changes F41)
 have G_trimmed:=FOk.mk' F42 m42 b42 (kB (P:=l.prog) (w:=w) (base:=base) T F42)
 have G_steps_and_writing:=TOkX.mk' F43 m43 b43 (wV T G_held_to_be_a_heap G_step_at G_how_often G_do_steps G_trimmed F43)
 have G_fallen:=FOkX.mk' F44 m44 b44 (gW T G_steps_and_writing F44)
 have N_Plain_nought:=MOk.mk (C:=A.Plain) T.cl_Plain ⟨_,_,_,⟨a45_Plain,r45.1,F45.kp⟩,b45,yt (P:=l.prog) (w:=w) (base:=base) T F45⟩
 have N_Below_nought:=MOk.mk (C:=A.Below) T.cl_Below ⟨_,_,_,⟨a45_Below,r45.1,F45.kp⟩,b45,yt (P:=l.prog) (w:=w) (base:=base) T F45⟩
 have N_Balanced_nought:=MOk.mk (C:=A.Balanced) T.cl_Balanced ⟨_,_,_,⟨a45_Balanced,r45.1,F45.kp⟩,b45,yt (P:=l.prog) (w:=w) (base:=base) T F45⟩
 have N_Growing_nought:=MOk.mk (C:=A.Growing) T.cl_Growing ⟨_,_,_,⟨a45_Growing,r45.1,F45.kp⟩,b45,yt (P:=l.prog) (w:=w) (base:=base) T F45⟩
 have N_Falling_nought:=MOk.mk (C:=A.Falling) T.cl_Falling ⟨_,_,_,⟨a45_Falling,r45.1,F45.kp⟩,b45,yt (P:=l.prog) (w:=w) (base:=base) T F45⟩
 have N_Pairs_nought:=MOk.mk (C:=A.Pairs) T.cl_Pairs ⟨_,_,_,⟨a46_Pairs,r46.1,F46.kp⟩,b46,sx (P:=l.prog) (w:=w) (base:=base) T F46⟩
 have HNo:∀ k:Kd,MOk l.prog w K mg base 1 (A.at k) "nought" (S5 k):=fun k=>match k with
  | .plain=>N_Plain_nought | .below=>N_Below_nought | .balanced=>N_Balanced_nought | .growing=>N_Growing_nought | .falling=>N_Falling_nought | .pairs=>N_Pairs_nought
 have N_Plain_has:=MOk.mk (C:=A.Plain) T.cl_Plain ⟨_,_,_,⟨a47_Plain,r47.1,F47.kp⟩,b47,vT T G_is_whole F47⟩
 have N_Growing_has:=MOk.mk (C:=A.Growing) T.cl_Growing ⟨_,_,_,⟨a47_Growing,r47.1,F47.kp⟩,b47,vT T G_is_whole F47⟩
 have N_Falling_has:=MOk.mk (C:=A.Falling) T.cl_Falling ⟨_,_,_,⟨a47_Falling,r47.1,F47.kp⟩,b47,vT T G_is_whole F47⟩
 have N_Below_has:=MOk.mk (C:=A.Below) T.cl_Below ⟨_,_,_,⟨a48_Below,r48.1,F48.kp⟩,b48,nc T G_is_whole F48⟩
 have N_Balanced_has:=MOk.mk (C:=A.Balanced) T.cl_Balanced ⟨_,_,_,⟨a49_Balanced,r49.1,F49.kp⟩,b49,sH T G_is_whole F49⟩
 have G_is_pair:=DOk.mk' F50 m50 b50 (kG T G_is_whole F50)
 have N_Pairs_has:=MOk.mk (C:=A.Pairs) T.cl_Pairs ⟨_,_,_,⟨a51_Pairs,r51.1,F51.kp⟩,b51,o_ T G_is_pair F51⟩
 have HHas:∀ k:Kd,MOk l.prog w K mg base 3 (A.at k) "has" (tU k):=fun k=>match k with
  | .plain=>N_Plain_has.mono (by decide)
  | .below=>N_Below_has.mono (by decide)
  | .balanced=>N_Balanced_has.mono (by decide)
  | .growing=>(N_Growing_has.imp fun ds Q ⟨o,d,m,e,a,q⟩=>⟨o,d,m,e,a,by cases m <;> exact q⟩).mono (by decide)
  | .falling=>(N_Falling_has.imp fun ds Q ⟨o,d,m,e,a,q⟩=>⟨o,d,m,e,a,by cases m <;> exact q⟩).mono (by decide)
  | .pairs=>N_Pairs_has.mono (by decide)
 have N_Plain_ratio:=MOk.mk (C:=A.Plain) T.cl_Plain ⟨_,_,_,⟨a52_Plain,r52.1,F52.kp⟩,b52,rX (P:=l.prog) (w:=w) (base:=base) T F52⟩
 have N_Below_ratio:=MOk.mk (C:=A.Below) T.cl_Below ⟨_,_,_,⟨a53_Below,r53.1,F53.kp⟩,b53,qa (P:=l.prog) (w:=w) (base:=base) T F53⟩
 have N_Balanced_ratio:=MOk.mk (C:=A.Balanced) T.cl_Balanced ⟨_,_,_,⟨a54_Balanced,r54.1,F54.kp⟩,b54,uh (P:=l.prog) (w:=w) (base:=base) T F54⟩
 have N_Growing_ratio:=MOk.mk (C:=A.Growing) T.cl_Growing ⟨_,_,_,⟨a55_Growing,r55.1,F55.kp⟩,b55,uT (P:=l.prog) (w:=w) (base:=base) T F55⟩
 have N_Pairs_ratio:=MOk.mk (C:=A.Pairs) T.cl_Pairs ⟨_,_,_,⟨a56_Pairs,r56.1,F56.kp⟩,b56,rZ (P:=l.prog) (w:=w) (base:=base) T F56⟩
 have HR:∀ k:Kd,k.five=true→MOk l.prog w K mg base 1 (A.at k) "ratio" (vh A k (k.ratN)):=fun k hk=>match k,hk with
  | .plain,_=>N_Plain_ratio
  | .below,_=>N_Below_ratio
  | .balanced,_=>N_Balanced_ratio
  | .growing,_=>N_Growing_ratio
  | .pairs,_=>N_Pairs_ratio
 have N_Plain_split:=MOk.mk (C:=A.Plain) T.cl_Plain ⟨_,_,_,⟨a57_Plain,r57.1,F57.kp⟩,b57,xg (P:=l.prog) (w:=w) (base:=base) T HLo HR F57⟩
 have N_Below_split:=MOk.mk (C:=A.Below) T.cl_Below ⟨_,_,_,⟨a57_Below,r57.1,F57.kp⟩,b57,xg (P:=l.prog) (w:=w) (base:=base) T HLo HR F57⟩
 have N_Balanced_split:=MOk.mk (C:=A.Balanced) T.cl_Balanced ⟨_,_,_,⟨a57_Balanced,r57.1,F57.kp⟩,b57,xg (P:=l.prog) (w:=w) (base:=base) T HLo HR F57⟩
 have N_Growing_split:=MOk.mk (C:=A.Growing) T.cl_Growing ⟨_,_,_,⟨a57_Growing,r57.1,F57.kp⟩,b57,xg (P:=l.prog) (w:=w) (base:=base) T HLo HR F57⟩
 have N_Pairs_split:=MOk.mk (C:=A.Pairs) T.cl_Pairs ⟨_,_,_,⟨a58_Pairs,r58.1,F58.kp⟩,b58,rY T G_as_pair G_multiplied F58⟩
 have HSp:∀ k:Kd,k.five=true→MOk l.prog w K mg base 4 (A.at k) "split" (gp A k):=fun k hk=>match k,hk with
  | .plain,_=>(N_Plain_split.imp fun ds Q ⟨n,m,j,e,⟨a,em⟩,h1,h2,q⟩=>⟨.plain,n,a,j,by rw [e,em]; rfl,rfl,h1,h2,by rw [em] at q; exact q⟩).mono (by decide)
  | .below,_=>(N_Below_split.imp fun ds Q ⟨n,m,j,e,⟨a,em⟩,h1,h2,q⟩=>⟨.below,n,a,j,by rw [e,em]; rfl,rfl,h1,h2,by rw [em] at q; exact q⟩).mono (by decide)
  | .balanced,_=>(N_Balanced_split.imp fun ds Q ⟨n,m,j,e,⟨a,em⟩,h1,h2,q⟩=>⟨.balanced,n,a,j,by rw [e,em]; rfl,rfl,h1,h2,by rw [em] at q; exact q⟩).mono (by decide)
  | .growing,_=>(N_Growing_split.imp fun ds Q ⟨n,m,j,e,⟨a,em⟩,h1,h2,q⟩=>⟨.growing,n,a,j,by rw [e,em]; rfl,rfl,h1,h2,by rw [em] at q; exact q⟩).mono (by decide)
  | .pairs,_=>(N_Pairs_split.imp fun ds Q ⟨n,m,j,e,_,h1,h2,q⟩=>⟨n,_,m,j,e,wr m,h1,q⟩).mono (by decide)
 have G_figures_and_carries:=DOk.mk' F59 m59 b59 (wo T G_added G_thing_at HNo HHas HSp F59)
 have G_settled:=FOk.mk' F60 m60 b60 (kD T G_trimmed G_figures_and_carries F60)
 have G_written_row:=FOk.mk' F61 m61 b61 (rS T G_fallen G_settled F61)
 have G_times_in_falling:=FOk.mk' F62 m62 b62 (vH T G_row_plus G_row_times G_written_row F62)
 have G_times_by_ratio:=FOk.mk' F63 m63 b63 (ug T G_row_times G_written_row G_row_plus HR F63)
 have G_times:=FOk.mk' F64 m64 b64 (ca T G_held_to_be_writings G_times_in_falling G_times_by_ratio F64)
 have G__law_legal:=DOk.mk' F65 m65 b65 (o8 T G__law_span F65)
 exact XU T G__law_pick G__law_cell_at G__law_two G__law_way G__law_product G__law_number G_times G__law_legal F66
theorem walk {l:PySem.W.OpenLaw} {q:Program} {loose:List Str} {XP:(Str→Option Value)→Heap→Prop} {YP:World→Heap→Prop} {d:DefRec} {K:Params→PySem.W.Frag} (hn:l.most=some 63) (hdf:d.params.defaults=[])
  (hY:∀ (w:World) (h:Heap),YP w h→(K w.params).In h)
  (F:∀ (w:World) (mg:Str→Option Value) (fa:Addr) (h:Heap),(K w.params).In h→h.Ns mainGlobals mg→mg d.name=some (.ref fa)→
   ∃ fd:FuncData,(∀ (s:Shared) (u:Value),BindsTo s fd ⟨[u],[]⟩ [("_law_script",u)])∧∀ base:Heap,(K w.params).In base→base.Ns mainGlobals mg→FnOk l.prog w (K w.params) mg base CX0 10 fa fd ["_law_script"] (zt (K w.params) (gw))):
  PySem.W.WalkO q loose XP YP l.row.toRowW d [] (fun f vs=>PySem.call f vs):=
 L2.walk_of (n:=63) (k:=10) (x:="_law_script") (CX:=fun _=>CX0) (sp:=fun w=>zt (K w.params) (gw)) hn (by decide) hdf ⟨rfl,by decide,by decide⟩ hY F (fun w H a ns hl _ hS=>⟨⟨H,H,Same.refl H⟩,[.scr ns],fun d=>d=.bl true,rfl,allIs_cons.mpr ⟨_,_,rfl,is_scr.mpr ⟨a,rfl,hS⟩,allIs_nil.mpr rfl⟩,⟨ns,rfl,hl,rfl⟩,fun d v W' _ i e=>by subst e; exact is_bl.mp i⟩) fun _ _ _ _ _ z=>z
end My
local macro_rules | `(tactic| walk_at "fx") => `(tactic| (refine' My.FX.mk ?l ?c ?k; (case l => k_is); (case c => k_is); (case k => k_is)))
local macro_rules | `(tactic| walk_at "kk") => `(tactic| first | k_is | kit_is | kts_exm | (delta L2.ExcK; k_exc) | (delta My.Fi; k_is) | (delta My.Zn; k_is) | (delta My.Ki; kit_is) | (delta My.FD; refine ⟨?a, ?b⟩; (case a => k_is); (case b => walk_at "fx")) | (delta My.FM; refine ⟨?a, ?b⟩; (case a => k_is); (case b => walk_at "fx")) | (refine ⟨⟨?_, ?_, ?_, ?_⟩, ?_, ?_, ?_⟩ <;> k_is) | (refine ⟨?_, ?_, ?_, ?_, ?_, ?_, ?_⟩ <;> k_is) | (refine ⟨?_, ?_⟩ <;> k_is))
open PySem PySem.W PyProof.Rows
set_option maxRecDepth 100000 in
set_option maxHeartbeats 0 in
theorem PySem.Challenge.cw_oddbases_k33_products_holds : PySem.Challenge.rw_oddbases_k33_products.Holds := by
 w_on; o_law
 refine holds_open (q:=My.h_view_39) (loose:=[]) (Xt:=(fun s=>xlAt My.h_view_39 [] s && recOk (RowW.records (OpenRow.toRowW PySem.Challenge.rw_oddbases_k33_products.row)) s)) (XP:=XL My.h_view_39 []) (Yf:=Hook.obs (kHook My.h_heap_39 My.myAs My.myE)) (Ya:=Hook.val (kHook My.h_heap_39 My.myAs My.myE)) (YP:=Hook.says (kHook My.h_heap_39 My.myAs My.myE)) (N:=10300) My.left (Hook.of _) (Hook.keeps _) (fun s e=>xl_of s (Bool.and_eq_true_iff.mp e).1) XL.keeps (by rfl) (by rfl) (by rfl) (fun s e=>recFacts_of (Bool.and_eq_true_iff.mp e).2) (by rfl) (by first | assumption | decide +kernel) (by decide +kernel) ⟨rfl,rfl,rfl,rfl,rfl,by decide +kernel⟩ ?hw ?hc
 case hw=>w_witness2
 k_fill
 refine My.walk (l:=PySem.Challenge.rw_oddbases_k33_products) rfl rfl (fun w h Y=>PySem.W.kIn_of Y) ?F
 case F=>
  intro w mg fa h KX G hmg
  refine' My.all_mk KX G hmg ?aC_Plain ?aC_Below ?aC_Balanced ?aC_Growing ?aC_Falling ?aC_Pairs ?aC_TooLess ?r1 ?r2 ?r3 ?r4 ?r5 ?r6 ?r7 ?r8 ?a9_Plain ?r9 ?a10_Below ?r10 ?a11_Balanced ?r11 ?a12_Growing ?r12 ?a13_Falling ?r13 ?a14_Pairs ?r14 ?r15 ?r16 ?r17 ?r18 ?r19 ?a20_Plain ?a20_Below ?a20_Growing ?a20_Falling ?a20_Pairs ?r20 ?a21_Balanced ?r21 ?a22_Plain ?r22 ?a23_Below ?r23 ?a24_Balanced ?r24 ?a25_Growing ?r25 ?a26_Falling ?r26 ?a27_Pairs ?r27 ?r28 ?r29 ?r30 ?r31 ?r32 ?r33 ?r34 ?r35 ?r36 ?r37 ?r38 ?r39 ?r40 ?r41 ?r42 ?r43 ?r44 ?a45_Plain ?a45_Below ?a45_Balanced ?a45_Growing ?a45_Falling ?r45 ?a46_Pairs ?r46 ?a47_Plain ?a47_Growing ?a47_Falling ?r47 ?a48_Below ?r48 ?a49_Balanced ?r49 ?r50 ?a51_Pairs ?r51 ?a52_Plain ?r52 ?a53_Below ?r53 ?a54_Balanced ?r54 ?a55_Growing ?r55 ?a56_Pairs ?r56 ?a57_Plain ?a57_Below ?a57_Balanced ?a57_Growing ?r57 ?a58_Pairs ?r58 ?r59 ?r60 ?r61 ?r62 ?r63 ?r64 ?r65 ?r66 ?c_Plain ?c_Below ?c_Balanced ?c_Growing ?c_Falling ?c_Pairs ?i_Plain ?ki_Plain_Falling ?i_Below ?ki_Below_Falling ?i_Balanced ?ki_Balanced_Falling ?i_Growing ?ki_Growing_Falling ?i_Falling ?ki_Falling_Falling ?i_Pairs ?ki_Pairs_Falling ?in_ ?it_ ?ex_TooLess ?ix_TooLess ?kx_TooLess_TooLess ?z_isinstance ?z_int ?z_bool ?z_tuple ?z_list ?z_len ?z_range ?z_enumerate ?z_min ?z_max
  (case aC_Plain=>walk_at "kk")
  (case aC_Below=>walk_at "kk")
  (case aC_Balanced=>walk_at "kk")
  (case aC_Growing=>walk_at "kk")
  (case aC_Falling=>walk_at "kk")
  (case aC_Pairs=>walk_at "kk")
  (case aC_TooLess=>walk_at "kk")
  (case r1=>walk_at "kk")
  (case r2=>walk_at "kk")
  (case r3=>walk_at "kk")
  (case r4=>walk_at "kk")
  (case r5=>walk_at "kk")
  (case r6=>walk_at "kk")
  (case r7=>walk_at "kk")
  (case r8=>walk_at "kk")
  (case a9_Plain=>walk_at "kk")
  (case r9=>walk_at "kk")
  (case a10_Below=>walk_at "kk")
  (case r10=>walk_at "kk")
  (case a11_Balanced=>walk_at "kk")
  (case r11=>walk_at "kk")
  (case a12_Growing=>walk_at "kk")
  (case r12=>walk_at "kk")
  (case a13_Falling=>walk_at "kk")
  (case r13=>walk_at "kk")
  (case a14_Pairs=>walk_at "kk")
  (case r14=>walk_at "kk")
  (case r15=>walk_at "kk")
  (case r16=>walk_at "kk")
  (case r17=>walk_at "kk")
  (case r18=>walk_at "kk")
  (case r19=>walk_at "kk")
  (case a20_Plain=>walk_at "kk")
  (case a20_Below=>walk_at "kk")
  (case a20_Growing=>walk_at "kk")
  (case a20_Falling=>walk_at "kk")
  (case a20_Pairs=>walk_at "kk")
  (case r20=>walk_at "kk")
  (case a21_Balanced=>walk_at "kk")
  (case r21=>walk_at "kk")
  (case a22_Plain=>walk_at "kk")
  (case r22=>walk_at "kk")
  (case a23_Below=>walk_at "kk")
  (case r23=>walk_at "kk")
  (case a24_Balanced=>walk_at "kk")
  (case r24=>walk_at "kk")
  (case a25_Growing=>walk_at "kk")
  (case r25=>walk_at "kk")
  (case a26_Falling=>walk_at "kk")
  (case r26=>walk_at "kk")
  (case a27_Pairs=>walk_at "kk")
  (case r27=>walk_at "kk")
  (case r28=>walk_at "kk")
  (case r29=>walk_at "kk")
  (case r30=>walk_at "kk")
  (case r31=>walk_at "kk")
  (case r32=>walk_at "kk")
  (case r33=>walk_at "kk")
  (case r34=>walk_at "kk")
  (case r35=>walk_at "kk")
  (case r36=>walk_at "kk")
  (case r37=>walk_at "kk")
  (case r38=>walk_at "kk")
  (case r39=>walk_at "kk")
  (case r40=>walk_at "kk")
  (case r41=>walk_at "kk")
  (case r42=>walk_at "kk")
  (case r43=>walk_at "kk")
  (case r44=>walk_at "kk")
  (case a45_Plain=>walk_at "kk")
  (case a45_Below=>walk_at "kk")
  (case a45_Balanced=>walk_at "kk")
  (case a45_Growing=>walk_at "kk")
  (case a45_Falling=>walk_at "kk")
  (case r45=>walk_at "kk")
  (case a46_Pairs=>walk_at "kk")
  (case r46=>walk_at "kk")
  (case a47_Plain=>walk_at "kk")
  (case a47_Growing=>walk_at "kk")
  (case a47_Falling=>walk_at "kk")
  (case r47=>walk_at "kk")
  (case a48_Below=>walk_at "kk")
  (case r48=>walk_at "kk")
  (case a49_Balanced=>walk_at "kk")
  (case r49=>walk_at "kk")
  (case r50=>walk_at "kk")
  (case a51_Pairs=>walk_at "kk")
  (case r51=>walk_at "kk")
  (case a52_Plain=>walk_at "kk")
  (case r52=>walk_at "kk")
  (case a53_Below=>walk_at "kk")
  (case r53=>walk_at "kk")
  (case a54_Balanced=>walk_at "kk")
  (case r54=>walk_at "kk")
  (case a55_Growing=>walk_at "kk")
  (case r55=>walk_at "kk")
  (case a56_Pairs=>walk_at "kk")
  (case r56=>walk_at "kk")
  (case a57_Plain=>walk_at "kk")
  (case a57_Below=>walk_at "kk")
  (case a57_Balanced=>walk_at "kk")
  (case a57_Growing=>walk_at "kk")
  (case r57=>walk_at "kk")
  (case a58_Pairs=>walk_at "kk")
  (case r58=>walk_at "kk")
  (case r59=>walk_at "kk")
  (case r60=>walk_at "kk")
  (case r61=>walk_at "kk")
  (case r62=>walk_at "kk")
  (case r63=>walk_at "kk")
  (case r64=>walk_at "kk")
  (case r65=>walk_at "kk")
  (case r66=>walk_at "kk")
  (case c_Plain=>walk_at "kk")
  (case c_Below=>walk_at "kk")
  (case c_Balanced=>walk_at "kk")
  (case c_Growing=>walk_at "kk")
  (case c_Falling=>walk_at "kk")
  (case c_Pairs=>walk_at "kk")
  (case i_Plain=>walk_at "kk")
  (case ki_Plain_Falling=>walk_at "kk")
  (case i_Below=>walk_at "kk")
  (case ki_Below_Falling=>walk_at "kk")
  (case i_Balanced=>walk_at "kk")
  (case ki_Balanced_Falling=>walk_at "kk")
  (case i_Growing=>walk_at "kk")
  (case ki_Growing_Falling=>walk_at "kk")
  (case i_Falling=>walk_at "kk")
  (case ki_Falling_Falling=>walk_at "kk")
  (case i_Pairs=>walk_at "kk")
  (case ki_Pairs_Falling=>walk_at "kk")
  (case in_=>walk_at "kk")
  (case it_=>walk_at "kk")
  (case ex_TooLess=>walk_at "kk")
  (case ix_TooLess=>walk_at "kk")
  (case kx_TooLess_TooLess=>walk_at "kk")
  (case z_isinstance=>walk_at "kk")
  (case z_int=>walk_at "kk")
  (case z_bool=>walk_at "kk")
  (case z_tuple=>walk_at "kk")
  (case z_list=>walk_at "kk")
  (case z_len=>walk_at "kk")
  (case z_range=>walk_at "kk")
  (case z_enumerate=>walk_at "kk")
  (case z_min=>walk_at "kk")
  (case z_max=>walk_at "kk")
