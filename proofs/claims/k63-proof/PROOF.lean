import PyProof.Rows.All
import Wide.All
import OpenK.AllK
import Wide.FinOn
import Lean
import PyProof.EqAt
import PyProof.EqKinds
import PyProof.TupleCall
import PyProof.NeKinds
import PySem.Challenge.RW_oddbases_k63_whole_by_carries
set_option Elab.async false
set_option linter.all false
set_option maxRecDepth 100000
namespace L2
open PySem PySem.Spec PyProof.Rows
abbrev Key:=Sum Int Str
def cE:Key→Value→Bool
 | .inl k,v=>Value.isInt k v
 | .inr x,v=>Value.isStrOf x v
def Us (w:World):Key→Int
 | .inl k=>hashInt k
 | .inr x=>hashStr w x
theorem zQ:∀ {k:Key} {v:Value},cE k v=true→(∃ i t,k=Sum.inl i∧v=Value.int i t)∨(∃ x t,k=Sum.inr x∧v=Value.str x t)
 | .inl i,v,h=>by
  obtain ⟨t,e⟩:=Value.isInt_shape (k:=i) (v:=v) h
  exact .inl ⟨i,t,rfl,e⟩
 | .inr x,v,h=>by
  obtain ⟨t,e⟩:=Value.isStrOf_shape (x:=x) (v:=v) h
  exact .inr ⟨x,t,rfl,e⟩
theorem Xe (a b:Int):decide ((Sum.inl a:Key)=Sum.inl b)=(a == b):=by
 by_cases e:a=b
 ·subst e; simp
 ·have h:¬ (Sum.inl a:Key)=Sum.inl b:=fun q=>e (Sum.inl.inj q)
  rw [decide_eq_false h]
  exact (beq_eq_false_iff_ne.mpr e).symm
theorem Xb (a b:Str):decide ((Sum.inr a:Key)=Sum.inr b)=decide (a=b):=by
 by_cases e:a=b
 ·subst e; simp
 ·have h:¬ (Sum.inr a:Key)=Sum.inr b:=fun q=>e (Sum.inr.inj q)
  rw [decide_eq_false h,decide_eq_false e]
theorem Xd (a:Int) (b:Str):decide ((Sum.inl a:Key)=Sum.inr b)=false:=decide_eq_false (fun q=>nomatch q)
theorem Xc (a:Str) (b:Int):decide ((Sum.inr a:Key)=Sum.inl b)=false:=decide_eq_false (fun q=>nomatch q)
def qs (prog:Program) (w:World):PySem.KeyKind prog w Key where
 is:=cE
 hash:=Us w
 inj:=fun v a b ha hb=>by
  rcases zQ ha with ⟨i,t,rfl,rfl⟩ | ⟨x,t,rfl,rfl⟩
  ·rcases zQ hb with ⟨j,u,rfl,e⟩ | ⟨y,u,rfl,e⟩
   ·injection e with e1 _; rw [e1]
   ·exact nomatch e
  ·rcases zQ hb with ⟨j,u,rfl,e⟩ | ⟨y,u,rfl,e⟩
   ·exact nomatch e
   ·injection e with e1 _; rw [e1]
 byValue:=fun k v h=>by
  rcases zQ h with ⟨i,t,rfl,rfl⟩ | ⟨x,t,rfl,rfl⟩ <;> rfl
 pyHash:=fun hv h=>by
  rcases zQ hv with ⟨i,t,rfl,rfl⟩ | ⟨x,t,rfl,rfl⟩
  ·exact wpAny_pyHash_int h
  ·exact wpAny_pyHash_str h
 eqBool:=fun hu hv h=>by
  rcases zQ hu with ⟨i,t,rfl,rfl⟩ | ⟨x,t,rfl,rfl⟩
  ·rcases zQ hv with ⟨j,u,rfl,rfl⟩ | ⟨y,u,rfl,rfl⟩
   ·rw [Xe] at h; exact wpAny_eqBool_int h
   ·rw [Xd] at h; exact SeqAt.EqAt.int_str i t y u _ _ _ _ h
  ·rcases zQ hv with ⟨j,u,rfl,rfl⟩ | ⟨y,u,rfl,rfl⟩
   ·rw [Xc] at h; exact SeqAt.EqAt.str_int x t j u _ _ _ _ h
   ·rw [Xb] at h; exact wpAny_eqBool_str h
 «strs»:=fun k x t v h=>by
  rcases zQ h with ⟨i,u,rfl,e⟩ | ⟨y,u,rfl,e⟩
  ·exact nomatch e
  ·injection e with e1 _
   subst e1
   cases v <;> rfl
end L2
namespace L2
open PySem PySem.Spec PyProof.Rows
inductive V where
 | non | bl (b:Bool) | int (i:Int) | str (x:Str) | byt (b:Array UInt8) | flt (b:UInt64) | ref (a:Addr) | ty (n:String)
 deriving DecidableEq
def RelV:V→Value→Prop
 | .non,u=>u=Value.none
 | .bl b,u=>u=Value.bool b
 | .int i,u=>∃ t,u=Value.int i t
 | .str x,u=>∃ t,u=Value.str x t
 | .byt b,u=>∃ t,u=Value.bytes b t
 | .flt b,u=>∃ t,u=Value.float b t
 | .ref a,u=>u=Value.ref a
 | .ty n,u=>u=Value.type n
abbrev Vals:List V→List Value→Prop:=Paired RelV
theorem Vals.length {xs:List V} {us:List Value} (r:Vals xs us):xs.length=us.length:=Paired.length r
theorem Vals.get:∀ {xs:List V} {us:List Value} {i:Nat} {x:V},Vals xs us→xs[i]? = some x→∃ u,us[i]? = some u∧RelV x u
 | _,_,_,_,.nil,e=>by simp at e
 | _,_,0,_,.cons r _,e=>by simp at e; subst e; exact ⟨_,rfl,r⟩
 | _,_,i+1,x,.cons _ t,e=>by
  obtain ⟨u,h1,h2⟩:=Vals.get (i:=i) (x:=x) t (by simpa using e)
  exact ⟨u,by simpa using h1,h2⟩
theorem Vals.set {x:V} {u:Value} (r:RelV x u):∀ {xs:List V} {us:List Value} (i:Nat),Vals xs us→Vals (xs.set i x) (us.set i u)
 | _,_,_,.nil=>.nil
 | _,_,0,.cons _ t=>.cons r t
 | _,_,i+1,.cons q t=>.cons q (Vals.set r i t)
theorem Vals.append:∀ {xs ys:List V} {us ws:List Value},Vals xs us→Vals ys ws→Vals (xs++ys) (us++ws)
 | _,_,_,_,.nil,s=>s
 | _,_,_,_,.cons r t,s=>.cons r (Vals.append t s)
theorem Vals.take:∀ {xs:List V} {us:List Value} (n:Nat),Vals xs us→Vals (xs.take n) (us.take n)
 | _,_,0,_=>.nil
 | _,_,_+1,.nil=>.nil
 | _,_,n+1,.cons r t=>.cons r (Vals.take n t)
theorem Vals.drop:∀ {xs:List V} {us:List Value} (n:Nat),Vals xs us→Vals (xs.drop n) (us.drop n)
 | _,_,0,r=>r
 | _,_,_+1,.nil=>.nil
 | _,_,n+1,.cons _ t=>Vals.drop n t
theorem Vals.none_of:∀ {xs:List V} {us:List Value} {i:Nat},Vals xs us→xs[i]? = none→us[i]? = none:=fun {xs us i} r e=>by
 have h1:=r.length
 have h2:xs.length≤i:=List.getElem?_eq_none_iff.mp e
 exact List.getElem?_eq_none_iff.mpr (by omega)
def RelO:Option V→Option Value→Prop
 | some v,some u=>RelV v u
 | none,none=>True
 | _,_=>False
def KV {κ:Type}:List (κ × V)→List (κ × Value)→Prop:=Paired fun (p:κ × V) (q:κ × Value)=>p.1=q.1∧RelV p.2 q.2
def kV:Key→V
 | .inl i=>.int i
 | .inr x=>.str x
inductive HO where
 | lst (xs:List V)
 | tup (xs:List V)
 | dK (kvs:List (Key × V)) | dT (kvs:List (List Key × V))
 | set (S:Int→Bool) (n:Nat)
 | ins (C dx:Addr) (fs:List (Str × V))
 | own (x:Addr)
 | xd (fs:List (Str × V))
 | met (f x:Addr)
 | rng (lo hi:Int)
 | frz (o:Obj) (u:HO)
 | tbl (ps:Array Value)
 | ext (φ:Heap→Prop)
abbrev Hp:=Addr→Option HO
def upd (H:Hp) (a:Addr) (o:HO):Hp:=fun b=>if b=a then some o else H b
theorem zp {H:Hp} {a:Addr} {o:HO}:upd H a o a=some o:=by unfold upd; rw [if_pos rfl]
theorem zr {H:Hp} {a b:Addr} {o:HO} (h:b≠a):upd H a o b=H b:=by unfold upd; rw [if_neg h]
theorem zS {H:Hp} {a b:Addr} {o:HO} (h:H a=some o) (h':H b=none):a≠b:=by
 intro e; subst e; rw [h] at h'; cases h'
section
variable (P:Program) (w:World)
def ObjOk (H:Hp) (h:Heap) (a:Addr):HO→Prop
 | .lst xs=>xs.length≤sizeLine∧∃ (its:List Value) (n:Nat),Vals xs its∧h.get? a=some { cls:=.type "list",data:=.seq its.toArray n }
 | .tup xs=>xs.length≤sizeLine∧∃ its:List Value,Vals xs its∧IsTup h a its.toArray
 | .dK kvs=>kvs.length≤sizeLine∧(a == sysModules)=false∧∃ vs,KV kvs vs∧h.DictOf (qs P w) a vs
 | .dT kvs=>kvs.length≤sizeLine∧(a == sysModules)=false∧∃ xs:List (List Key × Addr × Value),
   Paired (fun (p:List Key × V) (q:List Key × Addr × Value)=>p.1=q.1∧H q.2.1=some (.tup (p.1.map kV))∧RelV p.2 q.2.2) kvs xs∧
   ∃ o es ep,h.get? a=some o∧o.ExactDict∧o.data=.dict es ep∧es.toList=xs.map (entryOfKey (tupleKind (qs P w)))∧(xs.map (·.1)).Nodup
 | .set S n=>h.SetOf (intKind P w) a S n
 | .ins C dx fs=>H dx=some (.own a)∧fs.length≤1000∧dx≠a∧h.get? a=some (PySem.W.instObj C dx)∧
   ∃ mA,h.Ns1 dx mA∧(∀ f,RelO (fs.lookup f) (mA f))∧PySem.Within mA (fs.map (·.1))
 | .own _=>∃ o,h.get? a=some o
 | .xd fs=>∃ mA,h.Ns1 a mA∧∀ f,RelO (fs.lookup f) (mA f)
 | .rng lo hi=>∃ t u v,h.get? a=some { cls:=.type "range",data:=.fields #[.int lo t,.int hi u,.int 1 v] }
 | .frz o u=>h.get? a=some o∧ObjOk H h a u
 | .tbl ps=>h.get? a=some { cls:=.none,data:=.fields ps }
 | .met f x=>h.get? a=some (PySem.W.methodObj (.ref f) (.ref x))
 | .ext φ=>φ h∧(∃ o,h.get? a=some o)∧∀ h1 h2:Heap,φ h1→(∀ o,h1.get? a=some o→h2.get? a=some o)→φ h2
def HOk (H:Hp) (h:Heap):Prop:=∀ a o,H a=some o→ObjOk P w H h a o
end
section
variable {P:Program} {w:World} {H H':Hp} {h h':Heap} {a:Addr} {o:HO}
theorem ObjOk.lt (x:ObjOk P w H h a o):a<h.objs.size:=by
 cases o with
 | lst xs=>obtain ⟨_,_,_,_,e⟩:=x; exact Heap.lt_size e
 | tup xs=>obtain ⟨_,_,_,p⟩:=x; exact p.lt
 | dK kvs=>obtain ⟨_,_,_,_,o,_,_,e,_⟩:=x; exact Heap.lt_size e
 | dT kvs=>obtain ⟨_,_,_,_,o,_,_,e,_⟩:=x; exact Heap.lt_size e
 | set S n=>obtain ⟨o,_,_,_,e,_⟩:=x; exact Heap.lt_size e
 | ins C dx fs=>obtain ⟨_,_,_,e,_⟩:=x; exact Heap.lt_size e
 | own y=>obtain ⟨_,e⟩:=x; exact Heap.lt_size e
 | xd fs=>obtain ⟨_,⟨_,_,_,e,_⟩,_⟩:=x; exact Heap.lt_size e
 | rng lo hi=>obtain ⟨_,_,_,e⟩:=x; exact Heap.lt_size e
 | frz ob u=>obtain ⟨e,_⟩:=x; exact Heap.lt_size e
 | tbl ps=>exact Heap.lt_size (show h.get? a=some _ from x)
 | met f y=>exact Heap.lt_size (show h.get? a=some _ from x)
 | ext φ=>obtain ⟨_,⟨_,e⟩,_⟩:=x; exact Heap.lt_size e
theorem Paired.mapP {α β:Type} {F G:α→β→Prop}:∀ {l₁:List α} {l₂:List β},Paired F l₁ l₂→(∀ a b,F a b→G a b)→Paired G l₁ l₂
 | _,_,.nil,_=>.nil
 | _,_,.cons r t,f=>.cons (f _ _ r) (Paired.mapP t f)
theorem ObjOk.stay (x:ObjOk P w H h a o) (k:∀ b u,(b=a∨H b=some (.own a))→h.get? b=some u→h'.get? b=some u)
  (ho:∀ b,H b=some (.own a)→H' b=some (.own a)) (ht:∀ b xs,H b=some (.tup xs)→H' b=some (.tup xs)):ObjOk P w H' h' a o:=by
 induction o with
 | lst xs=>obtain ⟨z,its,n,r,e⟩:=x; exact ⟨z,its,n,r,k _ _ (.inl rfl) e⟩
 | tup xs=>obtain ⟨z,its,r,ob,e,c⟩:=x; exact ⟨z,its,r,ob,k _ _ (.inl rfl) e,c⟩
 | dK kvs=>obtain ⟨z,y,vs,r,ob,es,ep,e,c⟩:=x; exact ⟨z,y,vs,r,ob,es,ep,k _ _ (.inl rfl) e,c⟩
 | dT kvs=>
  obtain ⟨z,y,xs,r,ob,es,ep,e,c⟩:=x
  exact ⟨z,y,xs,Paired.mapP r fun p q z=>⟨z.1,ht _ _ z.2.1,z.2.2⟩,ob,es,ep,k _ _ (.inl rfl) e,c⟩
 | set S n=>obtain ⟨ob,es,ep,t,e,c⟩:=x; exact ⟨ob,es,ep,t,k _ _ (.inl rfl) e,c⟩
 | ins C dx fs=>
  obtain ⟨d,z,ne,e,mA,⟨od,es,ep,e2,c⟩,r⟩:=x
  exact ⟨ho _ d,z,ne,k _ _ (.inl rfl) e,mA,⟨od,es,ep,k _ _ (.inr d) e2,c⟩,r⟩
 | own y=>obtain ⟨ob,e⟩:=x; exact ⟨ob,k _ _ (.inl rfl) e⟩
 | xd fs=>obtain ⟨mA,⟨od,es,ep,e,c⟩,r⟩:=x; exact ⟨mA,⟨od,es,ep,k _ _ (.inl rfl) e,c⟩,r⟩
 | rng lo hi=>obtain ⟨t,u,v,e⟩:=x; exact ⟨t,u,v,k _ _ (.inl rfl) e⟩
 | frz ob u ih=>obtain ⟨e,q⟩:=x; exact ⟨k _ _ (.inl rfl) e,ih q⟩
 | tbl ps=>
  have e:h.get? a=some { cls:=.none,data:=.fields ps }:=x
  show h'.get? a=some { cls:=.none,data:=.fields ps }
  exact k a _ (.inl rfl) e
 | met f y=>
  have e:h.get? a=some (PySem.W.methodObj (.ref f) (.ref y)):=x
  show h'.get? a=some (PySem.W.methodObj (.ref f) (.ref y))
  exact k a _ (.inl rfl) e
 | ext φ=>obtain ⟨p,⟨o,e⟩,st⟩:=x; exact ⟨st _ _ p fun o q=>k _ _ (.inl rfl) q,⟨o,k _ _ (.inl rfl) e⟩,st⟩
theorem HOk.lt (x:HOk P w H h) (e:H a=some o):a<h.objs.size:=(x a o e).lt
theorem HOk.fresh (x:HOk P w H h) (e:h.objs.size≤a):H a=none:=by
 cases q:H a with
 | none=>rfl
 | some u=>exact absurd (Nat.lt_of_lt_of_le (x.lt q) e) (Nat.lt_irrefl _)
theorem HOk.kept (x:HOk P w H h) (k:∀ b u,h.get? b=some u→h'.get? b=some u):HOk P w H h':=fun a o e=>
 (x a o e).stay (fun b u _ q=>k b u q) (fun _ q=>q) fun _ _ q=>q
theorem HOk.laid (x:HOk P w H h) (k:∀ b u,h.get? b=some u→h'.get? b=some u) (hp:h.objs.size≤a) (new:ObjOk P w (upd H a o) h' a o):HOk P w (upd H a o) h':=fun b u e=>by
 have hn:=x.fresh hp
 by_cases hb:b=a
 ·subst hb; rw [zp] at e; cases e; exact new
 ·rw [zr hb] at e
  exact (x b u e).stay (fun c v _ q=>k c v q) (fun c q=>by rw [zr (zS q hn)]; exact q) fun c xs q=>by rw [zr (zS q hn)]; exact q
end
def Rd (H:Hp) (a:Addr) (u:HO):Prop:=H a=some u∨∃ o,H a=some (.frz o u)
theorem Rd.of {H:Hp} {a:Addr} {u:HO} (h:H a=some u):Rd H a u:=.inl h
theorem Rd.ok {P:Program} {w:World} {H:Hp} {h:Heap} {a:Addr} {u:HO} (r:Rd H a u) (x:HOk P w H h):ObjOk P w H h a u:=by
 rcases r with r | ⟨o,r⟩
 ·exact x a u r
 ·obtain ⟨_,q⟩:=x a _ r
  exact q
def Mut:Option HO→Prop
 | some (.lst _)=>True
 | some (.dK _)=>True
 | some (.dT _)=>True
 | some (.set _ _)=>True
 | some (.ins _ _ _)=>True
 | some (.ext _)=>True
 | _=>False
section
variable {P:Program} {w:World} {H:Hp} {h h':Heap} {x e:Addr} {o':HO}
theorem HOk.write (ok:HOk P w H h) (mu:Mut (H x)) (he:e=x∨H e=some (.own x)) (k:∀ b u,b≠e→h.get? b=some u→h'.get? b=some u) (heo:∃ u,h'.get? e=some u)
  (new:ObjOk P w (upd H x o') h' x o'):HOk P w (upd H x o') h':=fun b u q=>by
 have nown:∀ c y,H c=some (.own y)→c≠x:=fun c y r z=>by subst z; rw [r] at mu; exact mu
 have ntup:∀ c xs,H c=some (.tup xs)→c≠x:=fun c xs r z=>by subst z; rw [r] at mu; exact mu
 by_cases hb:b=x
 ·subst hb; rw [zp] at q; cases q; exact new
 ·rw [zr hb] at q
  by_cases hbe:b=e
  ·have q':H b=some (.own x):=by
    rcases he with z | z
    ·exact absurd (hbe.trans z) hb
    ·rw [hbe]; exact z
   rw [q] at q'; cases q'
   obtain ⟨v,hv⟩:=heo
   exact ⟨v,by rw [hbe]; exact hv⟩
  ·refine (ok b u q).stay (fun c v hc r=>k c v ?_ r) (fun c r=>by rw [zr (nown c b r)]; exact r) fun c xs r=>by rw [zr (ntup c xs r)]; exact r
   rcases hc with rfl | hc
   ·exact hbe
   ·rintro rfl
    rcases he with z | z
    ·exact nown c b hc z
    ·rw [hc] at z; cases z; exact hb rfl
end
structure Un (fs ex:List Addr) (H H':Hp) (h h':Heap):Prop where
 keep:∀ b o,h.get? b=some o→H b=none→b∉fs→b∉ex→h'.get? b=some o
 slot:∀ b o,h.get? b=some o→H b=none→b∈fs→b∉ex→∃ sl,h'.get? b=some { o with slots:=sl }
 free:∀ b o,h.get? b=some o→H b=none→b∉ex→H' b=none
 there:∀ b o,h.get? b=some o→b∉ex→∃ o',h'.get? b=some o'
 tups:∀ b xs,H b=some (.tup xs)→H' b=some (.tup xs)
 frzs:∀ b o u,H b=some (.frz o u)→H' b=some (.frz o u)
 tbls:∀ b ps,H b=some (.tbl ps)→∃ more,H' b=some (.tbl (ps++more))
section
variable {fs fs' ex ex':List Addr} {H H1 H2:Hp} {h h1 h2 h':Heap} {a x e:Addr} {o:HO}
theorem Un.any (u:Un fs ex H H1 h h1) {b:Addr} {ob:Obj} (q:h.get? b=some ob) (n:H b=none) (hx:b∉ex):∃ sl,h1.get? b=some { ob with slots:=sl }:=by
 by_cases hb:b∈fs
 ·exact u.slot b ob q n hb hx
 ·exact ⟨ob.slots,u.keep b ob q n hb hx⟩
theorem Un.trans (a:Un fs ex H H1 h h1) (b:Un fs ex H1 H2 h1 h2):Un fs ex H H2 h h2 where
 keep:=fun c ob q n hc hx=>b.keep c ob (a.keep c ob q n hc hx) (a.free c ob q n hx) hc hx
 slot:=fun c ob q n hc hx=>by
  obtain ⟨sl,e1⟩:=a.slot c ob q n hc hx
  obtain ⟨sl',e2⟩:=b.slot c _ e1 (a.free c ob q n hx) hc hx
  exact ⟨sl',e2⟩
 free:=fun c ob q n hx=>by
  obtain ⟨o',e1⟩:=a.there c ob q hx
  exact b.free c o' e1 (a.free c ob q n hx) hx
 there:=fun c ob q hx=>by
  obtain ⟨o',e1⟩:=a.there c ob q hx
  exact b.there c o' e1 hx
 tups:=fun c xs q=>b.tups c xs (a.tups c xs q)
 frzs:=fun c ob xs q=>b.frzs c ob xs (a.frzs c ob xs q)
 tbls:=fun c ps q=>by
  obtain ⟨m1,e1⟩:=a.tbls c ps q
  obtain ⟨m2,e2⟩:=b.tbls c _ e1
  exact ⟨m1++m2,by rw [e2,Array.append_assoc]⟩
theorem Un.kept (k:∀ b u,h.get? b=some u→h'.get? b=some u):Un fs ex H H h h':=
 ⟨fun b ob q _ _ _=>k b ob q,fun b ob q _ _ _=>⟨ob.slots,k b ob q⟩,fun _ _ _ n _=>n,fun b ob q _=>⟨ob,k b ob q⟩,fun _ _ q=>q,fun _ _ _ q=>q,fun _ ps q=>⟨#[],by rw [q]; simp⟩⟩
theorem Un.refl:Un fs ex H H h h:=Un.kept fun _ _ q=>q
theorem Un.laid (k:∀ b u,h.get? b=some u→h'.get? b=some u) (hp:h.objs.size≤a) (hn:H a=none):Un fs ex H (upd H a o) h h' where
 keep:=fun b u q _ _ _=>k b u q
 slot:=fun b u q _ _ _=>⟨u.slots,k b u q⟩
 free:=fun b u q n _=>by rw [zr (Nat.ne_of_lt (Nat.lt_of_lt_of_le (Heap.lt_size q) hp))]; exact n
 there:=fun b u q _=>⟨u,k b u q⟩
 tups:=fun b xs q=>by rw [zr (zS q hn)]; exact q
 frzs:=fun b u xs q=>by rw [zr (zS q hn)]; exact q
 tbls:=fun b ps q=>⟨#[],by rw [zr (zS q hn),q]; simp⟩
theorem Un.write (mu:Mut (H x)) (he:e=x∨H e=some (.own x)) (k:∀ b u,b≠e→h.get? b=some u→h'.get? b=some u) (heo:∃ u,h'.get? e=some u):Un fs ex H (upd H x o) h h':=by
 have hx:∀ b,H b=none→b≠x:=fun b n z=>by subst z; rw [n] at mu; exact mu
 have hb:∀ b,H b=none→b≠e:=fun b n z=>by
  subst z
  rcases he with r | r
  ·exact hx b n r
  ·rw [n] at r; cases r
 have hm:∀ b u,H b=some u→¬ Mut (some u)→b≠x:=fun b u q nm z=>by subst z; rw [q] at mu; exact nm mu
 refine ⟨fun b u q n _ _=>k b u (hb b n) q,fun b u q n _ _=>⟨u.slots,k b u (hb b n) q⟩,fun b u q n _=>by rw [zr (hx b n)]; exact n,fun b u q _=>?_,
  fun b xs q=>by rw [zr (hm b _ q fun z=>z)]; exact q,fun b u xs q=>by rw [zr (hm b _ q fun z=>z)]; exact q,fun b ps q=>⟨#[],by rw [zr (hm b _ q fun z=>z),q]; simp⟩⟩
 by_cases hbe:b=e
 ·subst hbe; exact heo
 ·exact ⟨u,k b u hbe q⟩
theorem Un.mono (u:Un fs ex H H1 h h1) (hs:∀ b∈fs,b∈fs') (hx:∀ b∈ex,b∈ex'):Un fs' ex' H H1 h h1:=
 ⟨fun b ob q n hb he=>u.keep b ob q n (fun z=>hb (hs b z)) fun z=>he (hx b z),fun _ _ q n _ he=>u.any q n fun z=>he (hx _ z),fun b ob q n he=>u.free b ob q n fun z=>he (hx b z),fun b ob q he=>u.there b ob q fun z=>he (hx b z),u.tups,u.frzs,u.tbls⟩
end
def trk (h:Heap) (H:Hp):List Addr:=(List.range h.objs.size).filter fun a=>(H a).isSome
def qw (h:Heap) (H:Hp):Heap:=PySem.W.hideAll h (trk h H)
theorem ln (h:Heap) (H:Hp):(qw h H).objs.size=h.objs.size:=PySem.W.hideAll_size _ _
theorem jO {h:Heap} {H:Hp} {b:Addr} {o:Obj} (e:h.get? b=some o) (n:H b=none):(qw h H).get? b=some o:=
 PySem.W.hideAll_get _ e fun hm=>by
  have q:(H b).isSome=true:=(List.mem_filter.mp hm).2
  rw [n] at q; simp at q
theorem gx {h:Heap} {H:Hp} {b:Addr} {o:Obj} (e:(qw h H).get? b=some o):h.get? b=some o∧H b=none:=by
 have e':h.get? b=some o:=PySem.W.of_hideAll (trk h H) e
 refine ⟨e',?_⟩
 cases q:H b with
 | none=>rfl
 | some x=>
  have hm:b∈trk h H:=List.mem_filter.mpr ⟨List.mem_range.mpr (Heap.lt_size e'),by simp [q]⟩
  have z:(qw h H).get? b=none:=PySem.W.hideAll_none (trk h H) hm
  rw [z] at e; cases e
def cq (g h:Heap) (L:Addr):List (Addr × Obj):=(List.range h.objs.size).filterMap fun a=>if a=L∨(g.get? a).isSome=true then none else (h.get? a).map fun o=>(a,o)
def yJ (g h:Heap) (L d:Addr):List (Addr × Obj):=(cq g h L).filter fun p=>decide (p.1≠d)
end L2
namespace L2
open PySem PySem.Spec PyProof.Rows
structure Mod (K:PySem.W.Frag) (mg:Str→Option Value) (base:Heap):Prop where
 kin:K.In base
 glob:base.Ns mainGlobals mg
 blt:∃ mb,base.Ns builtinsNs mb∧∀ x:Str,x≠"__name__"→mb x=bootBuiltins x
 nolimit:base.NoLimit
structure Cx where
 prog:Program
 w:World
 K:PySem.W.Frag
 mg:Str→Option Value
 base:Heap
 A:Around
 N:List Str
 s₀:Shared
 H₀:Hp
 env:Env
 outer:List Env
 stack:List Env
 ex:List Addr
 fn:Str→Bool
 calm:Bool
 pn:List (Addr × Obj)
 xe:Value→Shared→Prop
def frs (l:List Env):List Addr:=l.filterMap (·.frame)
abbrev Cx.fs (X:Cx):List Addr:=frs X.outer
def Vis (sc:Scope) (x:Str):Prop:=sc.names.lookup x=some .local∨sc.names.lookup x=some .cell∨sc.names.lookup x=some .free
def Loc (sc:Scope) (x:Str):Prop:=sc.names.lookup x=some .local∨sc.names.lookup x=some .cell
def US (env:Env) (h:Heap) (m:Str→Option Value) (x:Str) (u:Value):Prop:=
 (env.kindOf x=some .local∧m x=some u)∨((env.kindOf x=some .cell∨env.kindOf x=some .free)∧∃ c,env.cells.lookup x=some c∧h.IsCell c (some u))
structure Cx.Ok (X:Cx):Prop where
 mod:Mod X.K X.mg X.base
 kind:X.env.scope.kind=.function
 glob:X.env.globals=mainGlobals
 blt:X.env.builtins=builtinsNs
 above:X.s₀.heap.objs.size≤X.env.locals
 inj:∀ x y c,X.env.cells.lookup x=some c→X.env.cells.lookup y=some c→x=y
 has:∀ x,(X.env.kindOf x=some .cell∨X.env.kindOf x=some .free)→∃ c,X.env.cells.lookup x=some c
 cab:∀ x c,X.fn x=true→X.env.cells.lookup x=some c→X.s₀.heap.objs.size≤c
 hd:X.calm=true→X.A.handled=none
 frames:X.A.frames=some X.stack
 stk:X.stack=X.outer∨(X.stack=X.env::X.outer∧X.env.frame=some X.env.locals)
 exf:∀ b∈X.ex,b≠X.env.locals∧∀ x c,X.env.cells.lookup x=some c→c≠b
 bs:∀ b o,X.base.get? b=some o→X.s₀.heap.get? b=some o∧X.H₀ b=none
 bsz:X.base.objs.size≤X.s₀.heap.objs.size
 noex:∀ b o,X.base.get? b=some o→b∉X.ex
 exfs:∀ b∈X.ex,b∉X.fs
 funs:X.s₀.heap.FunFrames X.base X.outer
 frf:∀ b∈X.fs,X.H₀ b=none
structure Inv (X:Cx) (pins:List (Addr × Obj)) (σ:List (Option V)) (H:Hp) (s:Shared):Prop where
 ok:X.Ok
 os:s.os=X.s₀.os
 bare:AllBare s.gens
 base:Un X.fs X.ex X.H₀ H X.s₀.heap s.heap
 loc:∃ m,s.heap.Ns X.env.locals m∧∀ (i:Nat) (x:Str) (v:V),X.N[i]? = some x→σ[i]? = some (some v)→Vis X.env.scope x→∃ u,RelV v u∧US X.env s.heap m x u
 cell:∀ x c,X.env.cells.lookup x=some c→∃ v,s.heap.IsCell c v
 free:H X.env.locals=none
 freeC:∀ x c,X.env.cells.lookup x=some c→H c=none
 pin:∀ p∈X.pn++pins,s.heap.get? p.1=some p.2∧H p.1=none∧p.1≠X.env.locals∧p.1∉X.fs∧∀ v,p.2.data≠.cell v
 hok:HOk X.prog X.w H s.heap
 len:σ.length=X.N.length
section
variable {X:Cx} {pins:List (Addr × Obj)} {σ:List (Option V)} {H H':Hp} {s:Shared} {h':Heap}
theorem Cx.Ok.nofr (ok:X.Ok) {b:Addr} {o:Obj} (e:X.base.get? b=some o):b∉X.fs:=fun hb=>by
 have:=(ok.funs.mem hb).1
 rw [e] at this; cases this
theorem Inv.bs (I:Inv X pins σ H s):∀ b o,X.base.get? b=some o→s.heap.get? b=some o∧H b=none:=fun b o e=>
 ⟨I.base.keep b o (I.ok.bs b o e).1 (I.ok.bs b o e).2 (I.ok.nofr e) (I.ok.noex b o e),I.base.free b o (I.ok.bs b o e).1 (I.ok.bs b o e).2 (I.ok.noex b o e)⟩
theorem Inv.bk (I:Inv X pins σ H s):∀ b o,X.base.get? b=some o→s.heap.get? b=some o:=fun b o e=>(I.bs b o e).1
theorem Inv.mod (I:Inv X pins σ H s):Mod X.K X.mg X.base:=I.ok.mod
theorem Inv.kIn (I:Inv X pins σ H s):X.K.In s.heap:=I.ok.mod.kin.keeps I.bk
theorem Inv.nolimit (I:Inv X pins σ H s):s.heap.NoLimit:=I.ok.mod.nolimit.keeps I.bk
theorem Inv.fr (I:Inv X pins σ H s):∃ m,Fr X.base X.env.locals s.heap m:=
 let ⟨m,hn,_⟩:=I.loc
 ⟨m,hn,I.bk,Nat.le_trans I.ok.bsz I.ok.above⟩
theorem Inv.lt (I:Inv X pins σ H s):X.env.locals<s.heap.objs.size:=let ⟨_,hn,_⟩:=I.loc; hn.lt
theorem Inv.sz (I:Inv X pins σ H s):X.s₀.heap.objs.size≤s.heap.objs.size:=Nat.le_trans I.ok.above (Nat.le_of_lt I.lt)
theorem Inv.nofs (I:Inv X pins σ H s) {a:Addr} (h:s.heap.objs.size≤a):a∉X.fs:=fun hb=>by
 obtain ⟨_,o,ho,_⟩:=I.ok.funs.mem hb
 exact absurd (Nat.lt_of_lt_of_le (Heap.lt_size ho) (Nat.le_trans I.sz h)) (Nat.lt_irrefl _)
theorem Inv.cne (I:Inv X pins σ H s):∀ x c,X.env.cells.lookup x=some c→c≠X.env.locals:=fun x c e z=>by
 obtain ⟨v,o,ho,hd⟩:=I.cell x c e
 obtain ⟨m,⟨o',es,ep,ho',hd',_⟩,_⟩:=I.loc
 rw [z,ho'] at ho; cases ho; rw [hd'] at hd; cases hd
theorem Inv.funs (I:Inv X pins σ H s):s.heap.FunFrames X.base X.outer:=by
 have all:∀ (l:List Env),(∀ b∈frs l,b∈X.fs)→X.s₀.heap.FunFrames X.base l→s.heap.FunFrames X.base l:=by
  intro l
  induction l with
  | nil=>intro _ _; trivial
  | cons env r ih=>
   intro hs hl
   obtain ⟨hk,⟨L,o,hf,hn,ho,hd⟩,hr⟩:=hl
   have hL:L∈X.fs:=hs L (by unfold frs; rw [List.filterMap_cons,hf]; exact List.mem_cons_self)
   obtain ⟨sl,e⟩:=I.base.slot L o ho (I.ok.frf L hL) hL fun z=>I.ok.exfs L z hL
   exact ⟨hk,⟨L,_,hf,hn,e,hd⟩,ih (fun b hb=>hs b (by unfold frs; rw [List.filterMap_cons,hf]; exact List.mem_cons_of_mem _ hb)) hr⟩
 exact all X.outer (fun _ hb=>hb) I.ok.funs
theorem Inv.stack (I:Inv X pins σ H s):s.heap.FunFrames X.base X.stack:=by
 rcases I.ok.stk with e | ⟨e,hf⟩
 ·rw [e]; exact I.funs
 ·rw [e]
  obtain ⟨m,hn,_⟩:=I.loc
  refine .cons (by rw [I.ok.kind]; decide) hf hn ?_ I.funs
  exact Heap.get?_none_of_le (Nat.le_trans I.ok.bsz I.ok.above)
theorem Inv.stkSub (I:Inv X pins σ H s):∀ b∈frs X.stack,b∈X.env.locals::X.fs:=fun b hb=>by
 rcases I.ok.stk with e | ⟨e,hf⟩
 ·rw [e] at hb; exact List.mem_cons_of_mem _ hb
 ·rw [e] at hb
  unfold frs at hb
  rw [List.filterMap_cons,hf] at hb
  exact hb
theorem Inv.stkFree (I:Inv X pins σ H s):∀ b∈frs X.stack,H b=none:=fun b hb=>by
 rcases List.mem_cons.mp (I.stkSub b hb) with e | hb
 ·rw [e]; exact I.free
 ·obtain ⟨_,o,ho,_⟩:=I.ok.funs.mem hb
  exact I.base.free b o ho (I.ok.frf b hb) fun z=>I.ok.exfs b z hb
theorem Inv.step {g':Array GenState} {t':Nat} {d':Drawn} {ch:List Addr} (I:Inv X pins σ H s)
  (hch:∀ b∈ch,(b∈X.ex∨X.s₀.heap.objs.size≤b)∧b≠X.env.locals∧(∀ x c,X.env.cells.lookup x=some c→c≠b)∧∀ p∈X.pn++pins,p.1≠b)
  (keep:∀ b o,b≠X.env.locals→b∉X.fs→b∉ch→s.heap.get? b=some o→H b=none→h'.get? b=some o)
  (slot:∀ b o,b≠X.env.locals→b∈X.fs→b∉ch→s.heap.get? b=some o→H b=none→∃ sl,h'.get? b=some { o with slots:=sl }) (free:∀ b o,b∉ch→s.heap.get? b=some o→H b=none→H' b=none)
  (there:∀ b o,b∉ch→s.heap.get? b=some o→∃ o',h'.get? b=some o')
  (tups:∀ b xs,H b=some (.tup xs)→H' b=some (.tup xs)) (frzs:∀ b o u,H b=some (.frz o u)→H' b=some (.frz o u)) (tbls:∀ b ps,H b=some (.tbl ps)→∃ more,H' b=some (.tbl (ps++more)))
  (ns:∀ m,s.heap.Ns X.env.locals m→h'.Ns X.env.locals m) (hok:HOk X.prog X.w H' h') (hg:AllBare g'):
  Inv X pins σ H' { s with heap:=h',gens:=g',drawn:=d',toks:=t' }:=by
 have neL:∀ b o,X.s₀.heap.get? b=some o→b≠X.env.locals:=fun b o e=>Nat.ne_of_lt (Nat.lt_of_lt_of_le (Heap.lt_size e) I.ok.above)
 have neC:∀ b o,X.s₀.heap.get? b=some o→b∉X.ex→b∉ch:=fun b o e hx hb=>by
  rcases (hch b hb).1 with z | z
  ·exact hx z
  ·exact absurd (Nat.lt_of_lt_of_le (Heap.lt_size e) z) (Nat.lt_irrefl _)
 have cellK:∀ x c,X.env.cells.lookup x=some c→∀ v,s.heap.IsCell c v→h'.IsCell c v:=fun x c e v ⟨o,ho,hd⟩=>by
  have nch:c∉ch:=fun z=>(hch c z).2.2.1 x c e rfl
  by_cases hc:c∈X.fs
  ·obtain ⟨sl,q⟩:=slot c o (I.cne x c e) hc nch ho (I.freeC x c e)
   exact ⟨_,q,hd⟩
  ·exact ⟨o,keep c o (I.cne x c e) hc nch ho (I.freeC x c e),hd⟩
 refine ⟨I.ok,I.os,hg,⟨fun b o e n hb hx=>?_,fun b o e n hb hx=>?_,fun b o e n hx=>?_,fun b o e hx=>?_,fun b xs e=>tups b xs (I.base.tups b xs e),fun b o xs e=>frzs b o xs (I.base.frzs b o xs e),fun b ps e=>?_⟩,?_,fun x c e=>?_,?_,fun x c e=>?_,fun p hp=>?_,hok,I.len⟩
 ·exact keep b o (neL b o e) hb (neC b o e hx) (I.base.keep b o e n hb hx) (I.base.free b o e n hx)
 ·obtain ⟨sl,e1⟩:=I.base.slot b o e n hb hx
  obtain ⟨sl',e2⟩:=slot b _ (neL b o e) hb (neC b o e hx) e1 (I.base.free b o e n hx)
  exact ⟨sl',e2⟩
 ·obtain ⟨o',e1⟩:=I.base.there b o e hx
  exact free b o' (neC b o e hx) e1 (I.base.free b o e n hx)
 ·obtain ⟨o',e1⟩:=I.base.there b o e hx
  exact there b o' (neC b o e hx) e1
 ·obtain ⟨m1,e1⟩:=I.base.tbls b ps e
  obtain ⟨m2,e2⟩:=tbls b _ e1
  exact ⟨m1++m2,by rw [e2,Array.append_assoc]⟩
 ·obtain ⟨m,hn,hl⟩:=I.loc
  refine ⟨m,ns m hn,fun i x v e1 e2 e3=>?_⟩
  obtain ⟨u,r,l⟩:=hl i x v e1 e2 e3
  refine ⟨u,r,?_⟩
  rcases l with l | ⟨k,c,e,z⟩
  ·exact .inl l
  ·exact .inr ⟨k,c,e,cellK x c e _ z⟩
 ·obtain ⟨v,z⟩:=I.cell x c e
  exact ⟨v,cellK x c e v z⟩
 ·obtain ⟨m,⟨o,_,_,ho,_⟩,_⟩:=I.loc
  exact free _ o (fun z=>(hch _ z).2.1 rfl) ho I.free
 ·obtain ⟨v,o,ho,hd⟩:=I.cell x c e
  exact free c o (fun z=>(hch c z).2.2.1 x c e rfl) ho (I.freeC x c e)
 ·obtain ⟨e,n,ne,nf,d⟩:=I.pin p hp
  have nch:p.1∉ch:=fun z=>(hch p.1 z).2.2.2 p hp rfl
  exact ⟨keep p.1 p.2 ne nf nch e n,free p.1 p.2 nch e n,ne,nf,d⟩
theorem Inv.un {t':Nat} (I:Inv X pins σ H s) (u:Un X.fs [] H H' s.heap h') (hok:HOk X.prog X.w H' h'):Inv X pins σ H' { s with heap:=h',toks:=t' }:=by
 obtain ⟨m,⟨o,es,ep,ho,r⟩,_⟩:=id I.loc
 obtain ⟨sl,hL⟩:=u.any ho I.free (by simp)
 exact I.step (g':=s.gens) (d':=s.drawn) (ch:=[]) (fun _ z=>nomatch z) (fun b o _ hb _ e n=>u.keep b o e n hb (by simp)) (fun b o _ hb _ e n=>u.slot b o e n hb (by simp)) (fun b o _ e n=>u.free b o e n (by simp)) (fun b o _ e=>u.there b o e (by simp)) u.tups u.frzs u.tbls (fun m' hm=>by
  obtain ⟨o',es',ep',ho',r'⟩:=hm
  rw [ho] at ho'; cases ho'
  exact ⟨_,es',ep',hL,r'⟩) hok I.bare
theorem Inv.call {g':Array GenState} {t':Nat} {d':Drawn} {ch:List Addr} (I:Inv X pins σ H s) (u:Un (frs X.stack) ch H H' s.heap h') (hok:HOk X.prog X.w H' h') (hg:AllBare g')
  (hch:∀ b∈ch,(b∈X.ex∨X.s₀.heap.objs.size≤b)∧b≠X.env.locals∧(∀ x c,X.env.cells.lookup x=some c→c≠b)∧∀ p∈X.pn++pins,p.1≠b):
  Inv X pins σ H' { s with heap:=h',gens:=g',drawn:=d',toks:=t' }:=by
 obtain ⟨m,⟨o,es,ep,ho,r⟩,_⟩:=id I.loc
 obtain ⟨sl,hL⟩:=u.any ho I.free fun z=>(hch _ z).2.1 rfl
 exact I.step (ch:=ch) hch (fun b o hL hb hc e n=>u.keep b o e n (fun z=>(List.mem_cons.mp (I.stkSub b z)).elim hL hb) hc) (fun b o _ _ hc e n=>u.any e n hc) (fun b o hc e n=>u.free b o e n hc) (fun b o hc e=>u.there b o e hc) u.tups u.frzs u.tbls (fun m' hm=>by
  obtain ⟨o',es',ep',ho',r'⟩:=hm
  rw [ho] at ho'; cases ho'
  exact ⟨_,es',ep',hL,r'⟩) hok hg
theorem Inv.turned {t':Nat} {it:Addr} (I:Inv X pins σ H s) (k:∀ b o,b≠it→s.heap.get? b=some o→h'.get? b=some o) (hn:H it=none) (hL:it≠X.env.locals)
  (h1:it∈X.ex∨X.s₀.heap.objs.size≤it) (h2:∀ x c,X.env.cells.lookup x=some c→c≠it) (h3:∀ p∈X.pn++pins,p.1≠it):Inv X pins σ H { s with heap:=h',toks:=t' }:=by
 have nit:∀ b u,H b=some u→b≠it:=fun b u e z=>by rw [z,hn] at e; cases e
 refine I.step (g':=s.gens) (d':=s.drawn) (ch:=[it]) (fun b hb=>?_) (fun b o _ _ hc e _=>k b o (fun z=>hc (by simp [z])) e) (fun b o _ _ hc e _=>⟨o.slots,k b o (fun z=>hc (by simp [z])) e⟩) (fun _ _ _ _ n=>n)
  (fun b o hc e=>⟨o,k b o (fun z=>hc (by simp [z])) e⟩) (fun _ _ e=>e) (fun _ _ _ e=>e) (fun b ps e=>⟨#[],by rw [e]; simp⟩) (fun m hm=>?_) (fun b u e=>?_) I.bare
 ·have e:b=it:=by simpa using hb
  subst e
  exact ⟨h1,hL,h2,h3⟩
 ·obtain ⟨o,es,ep,ho,r⟩:=hm
  exact ⟨o,es,ep,k _ o (Ne.symm hL) ho,r⟩
 ·refine (I.hok b u e).stay (fun c v hc q=>k c v ?_ q) (fun _ q=>q) fun _ _ q=>q
  rcases hc with z | z
  ·rw [z]; exact nit b u e
  ·exact nit c _ z
theorem Inv.tok (I:Inv X pins σ H s) (t:Nat):Inv X pins σ H { s with toks:=t }:=I.un (h':=s.heap) (t':=t) Un.refl I.hok
theorem Inv.kept {t':Nat} (I:Inv X pins σ H s) (k:∀ b u,s.heap.get? b=some u→h'.get? b=some u):Inv X pins σ H { s with heap:=h',toks:=t' }:=I.un (Un.kept k) (I.hok.kept k)
theorem Inv.laid {a:Addr} {o:HO} {t':Nat} (I:Inv X pins σ H s) (k:∀ b u,s.heap.get? b=some u→h'.get? b=some u) (hp:s.heap.objs.size≤a) (new:ObjOk X.prog X.w (upd H a o) h' a o):
  Inv X pins σ (upd H a o) { s with heap:=h',toks:=t' }:=I.un (Un.laid k hp (I.hok.fresh hp)) (I.hok.laid k hp new)
theorem Inv.write {x e:Addr} {o:HO} {t':Nat} (I:Inv X pins σ H s) (mu:Mut (H x)) (he:e=x∨H e=some (.own x)) (k:∀ b u,b≠e→s.heap.get? b=some u→h'.get? b=some u) (heo:∃ u,h'.get? e=some u)
  (new:ObjOk X.prog X.w (upd H x o) h' x o):Inv X pins σ (upd H x o) { s with heap:=h',toks:=t' }:=I.un (Un.write mu he k heo) (I.hok.write mu he k heo new)
theorem Inv.weak {σ':List (Option V)} (I:Inv X pins σ H s) (hl:σ'.length=σ.length) (w:∀ (i:Nat) v,σ'[i]? = some (some v)→σ[i]? = some (some v)):Inv X pins σ' H s:=
 ⟨I.ok,I.os,I.bare,I.base,let ⟨m,hn,hl'⟩:=I.loc; ⟨m,hn,fun i x v e1 e2 e3=>hl' i x v e1 (w i v e2) e3⟩,I.cell,I.free,I.freeC,I.pin,I.hok,hl.trans I.len⟩
theorem Inv.pins_of {pins':List (Addr × Obj)} (I:Inv X pins σ H s) (h:∀ p∈pins',s.heap.get? p.1=some p.2∧H p.1=none∧p.1≠X.env.locals∧p.1∉X.fs∧∀ v,p.2.data≠.cell v):Inv X pins' σ H s:=
 ⟨I.ok,I.os,I.bare,I.base,I.loc,I.cell,I.free,I.freeC,fun p hp=>(List.mem_append.mp hp).elim (fun z=>I.pin p (List.mem_append_left _ z)) (h p),I.hok,I.len⟩
theorem pO {N:List Str} (hN:N.Nodup) {i j:Nat} {x:Str} (a:N[i]? = some x) (b:N[j]? = some x):i=j:=by
 obtain ⟨h1,e1⟩:=List.getElem?_eq_some_iff.mp a
 obtain ⟨h2,e2⟩:=List.getElem?_eq_some_iff.mp b
 exact (List.getElem_inj hN).mp (e1.trans e2.symm)
theorem rg {M:Model} {A:Around} {E:Value→Shared→Prop} {i:Nat} {x:Str} {v:V} {u:Value} {Q:Unit→Shared→Prop} (I:Inv X pins σ H s) (hN:X.N.Nodup) (hi:X.N[i]? = some x) (hx:Loc X.env.scope x) (r:RelV v u)
  (h:∀ s',Inv X pins (σ.set i (some v)) H s'→(∃ a,Heap.SameBut a s.heap s'.heap∧(a=X.env.locals∨X.env.cells.lookup x=some a))→Q () s') (hf:X.fn x=true∨X.env.scope.names.lookup x=some .local:=by first | exact .inl rfl | exact .inr rfl | assumption):wpAny M A (storeName X.env x u) Q E s:=by
 obtain ⟨m,hn,hl⟩:=id I.loc
 have hcls:(X.env.scope.kind == .class || (X.env.scope.kind == .module && X.env.locals != X.env.globals))=false:=by rw [I.ok.kind]; rfl
 have hiσ:i<σ.length:=by rw [I.len]; exact (List.getElem?_eq_some_iff.mp hi).1
 have cne:=I.cne
 have tracked:∀ {a:Addr} {h':Heap},(∃ o,s.heap.get? a=some o∧H a=none)→Heap.SameBut a s.heap h'→HOk X.prog X.w H h':=fun {a h'} ha hs b ob e=>by
  obtain ⟨_,_,hfree⟩:=ha
  refine (I.hok b ob e).stay (fun c w' hc q=>(hs.2 c ?_).trans q) (fun _ q=>q) fun _ _ q=>q
  rintro rfl
  rcases hc with rfl | hc
  ·rw [hfree] at e; cases e
  ·rw [hfree] at hc; cases hc
 rcases hx with hk | hk
 ·refine wpAny_storeName_local hk hn (fun h' hn' hs=>?_) hcls
  obtain ⟨oL,_,_,hoL,_⟩:=id hn
  refine h _ ⟨I.ok,I.os,I.bare,⟨fun b o e n hb hx=>?_,fun b o e n hb hx=>?_,I.base.free,fun b o e hx=>?_,I.base.tups,I.base.frzs,I.base.tbls⟩,⟨_,hn',fun j y v' e1 e2 e3=>?_⟩,fun y c e=>?_,I.free,I.freeC,fun p hp=>?_,tracked ⟨oL,hoL,I.free⟩ hs,by simpa using I.len⟩ ⟨_,hs,.inl rfl⟩
  ·exact (hs.2 b (Nat.ne_of_lt (Nat.lt_of_lt_of_le (Heap.lt_size e) I.ok.above))).trans (I.base.keep b o e n hb hx)
  ·obtain ⟨sl,e1⟩:=I.base.slot b o e n hb hx
   exact ⟨sl,(hs.2 b (Nat.ne_of_lt (Nat.lt_of_lt_of_le (Heap.lt_size e) I.ok.above))).trans e1⟩
  ·obtain ⟨o',e1⟩:=I.base.there b o e hx
   exact ⟨o',(hs.2 b (Nat.ne_of_lt (Nat.lt_of_lt_of_le (Heap.lt_size e) I.ok.above))).trans e1⟩
  ·by_cases hj:j=i
   ·subst hj
    rw [hi] at e1; cases e1
    rw [List.getElem?_set_self hiσ] at e2
    cases e2
    exact ⟨u,r,.inl ⟨hk,by simp⟩⟩
   ·rw [List.getElem?_set_ne (Ne.symm hj)] at e2
    obtain ⟨u',r',q⟩:=hl j y v' e1 e2 e3
    refine ⟨u',r',?_⟩
    rcases q with ⟨k,e⟩ | ⟨k,c,e,z⟩
    ·refine .inl ⟨k,?_⟩
     have:y≠x:=fun e=>hj (pO hN e1 (e ▸ hi))
     simp [this,e]
    ·exact .inr ⟨k,c,e,z.sameBut hs (cne y c e)⟩
  ·obtain ⟨w',z⟩:=I.cell y c e
   exact ⟨w',z.sameBut hs (cne y c e)⟩
  ·obtain ⟨e,n,ne,nf,d⟩:=I.pin p hp
   exact ⟨(hs.2 p.1 ne).trans e,n,ne,nf,d⟩
 ·have hfn:X.fn x=true:=by
   rcases hf with z | z
   ·exact z
   ·rw [z] at hk; cases hk
  obtain ⟨c,hc⟩:=I.ok.has x (.inl hk)
  obtain ⟨w',z⟩:=I.cell x c hc
  refine wpAny_storeName_cell I.ok.kind hk hc z (fun h' hc' hs=>?_)
  obtain ⟨oc,hoc,hocd⟩:=id z
  refine h { s with heap:=h' } ⟨I.ok,I.os,I.bare,⟨fun b o e n hb hx=>?_,fun b o e n hb hx=>?_,I.base.free,fun b o e hx=>?_,I.base.tups,I.base.frzs,I.base.tbls⟩,⟨m,hn.sameBut hs (Ne.symm (cne x c hc)),fun j y v' e1 e2 e3=>?_⟩,fun y c' e=>?_,I.free,I.freeC,fun p hp=>?_,tracked ⟨oc,hoc,I.freeC x c hc⟩ hs,by simpa using I.len⟩ ⟨c,hs,.inr hc⟩
  ·exact (hs.2 b (Nat.ne_of_lt (Nat.lt_of_lt_of_le (Heap.lt_size e) (I.ok.cab x c hfn hc)))).trans (I.base.keep b o e n hb hx)
  ·obtain ⟨sl,e1⟩:=I.base.slot b o e n hb hx
   exact ⟨sl,(hs.2 b (Nat.ne_of_lt (Nat.lt_of_lt_of_le (Heap.lt_size e) (I.ok.cab x c hfn hc)))).trans e1⟩
  ·obtain ⟨o',e1⟩:=I.base.there b o e hx
   exact ⟨o',(hs.2 b (Nat.ne_of_lt (Nat.lt_of_lt_of_le (Heap.lt_size e) (I.ok.cab x c hfn hc)))).trans e1⟩
  ·by_cases hj:j=i
   ·subst hj
    rw [hi] at e1; cases e1
    rw [List.getElem?_set_self hiσ] at e2
    cases e2
    exact ⟨u,r,.inr ⟨.inl hk,c,hc,hc'⟩⟩
   ·rw [List.getElem?_set_ne (Ne.symm hj)] at e2
    obtain ⟨u',r',q⟩:=hl j y v' e1 e2 e3
    refine ⟨u',r',?_⟩
    rcases q with q | ⟨k,c',e,z'⟩
    ·exact .inl q
    ·refine .inr ⟨k,c',e,z'.sameBut hs ?_⟩
     rintro rfl
     exact hj (pO hN e1 (I.ok.inj _ _ _ e hc ▸ hi))
  ·by_cases hcc:c'=c
   ·subst hcc; exact ⟨_,hc'⟩
   ·obtain ⟨w2,z2⟩:=I.cell y c' e
    exact ⟨w2,z2.sameBut hs hcc⟩
  ·obtain ⟨e,n,ne,nf,d⟩:=I.pin p hp
   refine ⟨(hs.2 p.1 ?_).trans e,n,ne,nf,d⟩
   intro q
   rw [q,hoc] at e
   have q':oc=p.2:=Option.some.inj e
   exact d w' (by rw [← q']; exact hocd)
theorem q9 {M:Model} {A:Around} {E:Value→Shared→Prop} {i:Nat} {x:Str} {v:V} {u:Value} {Q:Unit→Shared→Prop} (I:Inv X pins σ H s) (hN:X.N.Nodup) (hi:X.N[i]? = some x) (hx:Loc X.env.scope x) (r:RelV v u)
  (h:∀ s',Inv X pins (σ.set i (some v)) H s'→Q () s') (hf:X.fn x=true∨X.env.scope.names.lookup x=some .local:=by first | exact .inl rfl | exact .inr rfl | assumption):wpAny M A (storeName X.env x u) Q E s:=
 rg I hN hi hx r (fun s' I' _=>h s' I') hf
theorem Inv.call' {s':Shared} {ch:List Addr} (I:Inv X pins σ H s) (ho:s'.os=s.os) (u:Un (frs X.stack) ch H H' s.heap s'.heap) (hok:HOk X.prog X.w H' s'.heap) (hg:AllBare s'.gens)
  (hch:∀ b∈ch,(b∈X.ex∨X.s₀.heap.objs.size≤b)∧b≠X.env.locals∧(∀ x c,X.env.cells.lookup x=some c→c≠b)∧∀ p∈X.pn++pins,p.1≠b):Inv X pins σ H' s':=by
 obtain ⟨h',g',d',t',o'⟩:=s'
 have e:o'=s.os:=ho
 subst e
 exact I.call (g':=g') (t':=t') (d':=d') u hok hg hch
end
abbrev XK:=Value→Option Addr→Hp→Prop
abbrev St:=List (Option V)
abbrev VK:=V→Hp→Prop
abbrev TE:=St→Hp→VK→Prop
abbrev TT:=St→Hp→(Bool→Hp→Prop)→Prop
abbrev TA:=St→Hp→(List V→Hp→Prop)→Prop
structure vk where
 nx:St→Hp→Prop
 rt:VK
 bk:St→Hp→Prop:=fun _ _=>False
 ct:St→Hp→Prop:=fun _ _=>False
abbrev TS:=vk→St→Hp→Prop
def EP (X:Cx) (pins:List (Addr × Obj)) (σ:St) (Q:VK) (u:Value) (s':Shared):Prop:=∃ v H',Inv X pins σ H' s'∧RelV v u∧Q v H'
def TP (X:Cx) (pins:List (Addr × Obj)) (σ:St) (Q:Bool→Hp→Prop) (b:Bool) (s':Shared):Prop:=∃ H',Inv X pins σ H' s'∧Q b H'
def AP (X:Cx) (pins:List (Addr × Obj)) (σ:St) (Q:List V→Hp→Prop) (us:List Value) (s':Shared):Prop:=∃ vs H',Inv X pins σ H' s'∧Vals vs us∧Q vs H'
def SP (X:Cx) (pins:List (Addr × Obj)) (D:vk) (f:Flow) (s':Shared):Prop:=
 match f with
 | .next=>∃ σ' H',Inv X pins σ' H' s'∧D.nx σ' H'
 | .brk=>∃ σ' H',Inv X pins σ' H' s'∧D.bk σ' H'
 | .cont=>∃ σ' H',Inv X pins σ' H' s'∧D.ct σ' H'
 | .ret u=>∃ v σ' H',Inv X pins σ' H' s'∧RelV v u∧D.rt v H'
def PE (X:Cx) (e:Expr) (t:TE):Prop:=
 ∀ (pins:List (Addr × Obj)) (s:Shared) (σ:St) (H:Hp) (Q:VK),Inv X pins σ H s→t σ H Q→wpAny (model X.prog X.w) X.A (eval e X.env) (EP X pins σ Q) X.xe s
def PT (X:Cx) (e:Expr) (t:TT):Prop:=
 ∀ (pins:List (Addr × Obj)) (s:Shared) (σ:St) (H:Hp) (Q:Bool→Hp→Prop),Inv X pins σ H s→t σ H Q→wpAny (model X.prog X.w) X.A (isTrue e X.env (eval e X.env)) (TP X pins σ Q) X.xe s
def PW (X:Cx) (e:Expr) (t:TT):Prop:=
 ∀ (yu:Sem Value) (pins:List (Addr × Obj)) (s:Shared) (σ:St) (H:Hp) (Q:Bool→Hp→Prop),Inv X pins σ H s→t σ H Q→wpAny (model X.prog X.w) X.A (isTrue e X.env yu) (TP X pins σ Q) X.xe s
theorem PW.pt {X:Cx} {e:Expr} {t:TT} (h:PW X e t):PT X e t:=h _
def PA (X:Cx) (es:List Expr) (t:TA):Prop:=
 ∀ (pos:Pos) (pins:List (Addr × Obj)) (s:Shared) (σ:St) (H:Hp) (Q:List V→Hp→Prop),Inv X pins σ H s→t σ H Q→wpAny (model X.prog X.w) X.A (spliced (backTo pos (starEach es X.env))) (AP X pins σ Q) X.xe s
def PS (X:Cx) (st:Stmt) (t:TS):Prop:=
 ∀ (pins:List (Addr × Obj)) (s:Shared) (σ:St) (H:Hp) (D:vk),Inv X pins σ H s→t D σ H→wpAny (model X.prog X.w) X.A (exec st X.env) (SP X pins D) X.xe s
def PSs (X:Cx) (st:List Stmt) (t:TS):Prop:=
 ∀ (pins:List (Addr × Obj)) (s:Shared) (σ:St) (H:Hp) (D:vk),Inv X pins σ H s→t D σ H→wpAny (model X.prog X.w) X.A (execs st X.env) (SP X pins D) X.xe s
theorem thn {α:Type} {t:Sem α} {Q Q':α→Shared→Prop} {M:Model} {A:Around} {E:Value→Shared→Prop} {s:Shared} (h:wpAny M A t Q E s) (hQ:∀ a s,Q a s→Q' a s):wpAny M A t Q' E s:=wpAny_mono h hQ fun _ _ x=>x
end L2
namespace L2
open PySem PySem.Spec PyProof.Rows
section
variable {X:Cx}
theorem bin {a b:Expr} {ta tb:TE} (ha:PE X a ta) (hb:PE X b tb) {pins:List (Addr × Obj)} {s:Shared} {σ:St} {H:Hp} {R:V→V→Hp→Prop} (I:Inv X pins σ H s) (h:ta σ H fun x H1=>tb σ H1 fun y H2=>R x y H2)
  {α:Type} {Q:α→Shared→Prop} {f:Value→Value→Sem α}
  (hf:∀ v u s2 x y H2,Inv X pins σ H2 s2→RelV x v→RelV y u→R x y H2→wpAny (model X.prog X.w) X.A (f v u) Q X.xe s2):
  wpAny (model X.prog X.w) X.A (eval a X.env) (fun v s₁=>wpAny (model X.prog X.w) X.A (eval b X.env) (fun u s₂=>wpAny (model X.prog X.w) X.A (f v u) Q X.xe s₂) X.xe s₁) X.xe s:=by
 refine thn (ha pins s σ H _ I h) fun v s1 ⟨x,H1,I1,r1,q1⟩=>?_
 refine thn (hb pins s1 σ H1 _ I1 q1) fun u s2 ⟨y,H2,I2,r2,q2⟩=>?_
 exact hf v u s2 x y H2 I2 r1 r2 q2
def i6 (i:Nat):TE:=fun σ H Q=>∃ v,σ[i]? = some (some v)∧Q v H
def tC (v:V):TE:=fun _ H Q=>Q v H
theorem xb {i:Nat} {x:Str} {pos:Pos} (hN:X.N[i]? = some x) (hv:Vis X.env.scope x) (hd:(x == ("__debug__":Str))=false:=by decide) (hcd:(x == ("__classdict__":Str))=false:=by decide):PE X (.Name x pos) (i6 i):=by
 intro pins s σ H Q I h
 obtain ⟨v,e,h⟩:=h
 obtain ⟨m,hn,hl⟩:=I.loc
 obtain ⟨u,r,l⟩:=hl i x v hN e hv
 have fin:EP X pins σ Q u s:=⟨v,H,I,r,h⟩
 rcases l with ⟨hk,hm⟩ | ⟨hk,c,hc,hcell⟩
 ·exact wpAny_Name (wpAny_loadName_local I.ok.kind hk hn hm fin) hd
 ·rcases hk with hk | hk
  ·exact wpAny_Name (wpAny_loadName_cell I.ok.kind hk hc hcell fin) hd
  ·exact wpAny_Name (wpAny_loadName_free I.ok.kind hk hc hcell fin hcd) hd
theorem kq {i j pos}:PE X (.Constant (.int i) j pos) (tC (.int i)):=fun _ _ _ H _ I h=>wpAny_Constant_int ⟨.int i,H,I.tok _,⟨_,rfl⟩,h⟩
theorem Wh {b j pos}:PE X (.Constant (.bool b) j pos) (tC (.bl b)):=fun _ _ _ H _ I h=>Constant_bool ⟨.bl b,H,I,rfl,h⟩
theorem bw {x j pos}:PE X (.Constant (.str x) j pos) (tC (.str x)):=fun _ _ _ H _ I h=>Calls.Constant_str ⟨.str x,H,I.tok _,⟨_,rfl⟩,h⟩
def Gl (X:Cx) (x:Str):Prop:=X.env.kindOf x=some .globalImplicit
theorem wG {E:Value→Shared→Prop} {pins:List (Addr × Obj)} {s:Shared} {σ:St} {H:Hp} {x:Str} {u:Value} {pos:Pos} {Q:Value→Shared→Prop} (I:Inv X pins σ H s) (hg:Gl X x) (hm:X.mg x=some u) (h:Q u s)
  (hd:(x == ("__debug__":Str))=false:=by decide):wpAny (model X.prog X.w) X.A (eval (.Name x pos) X.env) Q E s:=
 Calls.Name_function_global I.ok.kind hg (Calls.loadGlobal_global (by rw [I.ok.glob]; exact I.mod.glob.keeps I.bk) hm h) hd
theorem xX {E:Value→Shared→Prop} {pins:List (Addr × Obj)} {s:Shared} {σ:St} {H:Hp} {x:Str} {u:Value} {pos:Pos} {Q:Value→Shared→Prop} (I:Inv X pins σ H s) (hg:Gl X x) (hm:X.mg x=none) (hv:bootBuiltins x=some u) (h:Q u s)
  (hn:x≠"__name__":=by decide) (hd:(x == ("__debug__":Str))=false:=by decide):wpAny (model X.prog X.w) X.A (eval (.Name x pos) X.env) Q E s:=by
 obtain ⟨mb,h1,h2⟩:=I.mod.blt
 exact Calls.Name_function_global I.ok.kind hg (Calls.loadGlobal_builtin (by rw [I.ok.glob]; exact I.mod.glob.keeps I.bk) hm (by rw [I.ok.blt]; exact h1.keeps I.bk) ((h2 x hn).trans hv) h) hd
theorem gk {x:Str} {v:V} {u:Value} {pos:Pos} (hg:Gl X x) (hm:X.mg x=some u) (r:RelV v u) (hd:(x == ("__debug__":Str))=false:=by decide):PE X (.Name x pos) (tC v):=
 fun _ _ _ H _ I h=>wG I hg hm ⟨v,H,I,r,h⟩ hd
theorem gm {x:Str} {v:V} {u:Value} {pos:Pos} (hg:Gl X x) (hm:X.mg x=none) (hv:bootBuiltins x=some u) (r:RelV v u) (hn:x≠"__name__":=by decide) (hd:(x == ("__debug__":Str))=false:=by decide):PE X (.Name x pos) (tC v):=
 fun _ _ _ H _ I h=>xX I hg hm hv ⟨v,H,I,r,h⟩ hn hd
variable {a b:Expr} {ta tb:TE} {pos:Pos}
def PC (X:Cx) (op:CmpOp) (a b:Expr) (t:TE):Prop:=
 ∀ (pins:List (Addr × Obj)) (s:Shared) (σ:St) (H:Hp) (Q:VK),Inv X pins σ H s→t σ H Q→
  wpAny (model X.prog X.w) X.A (eval a X.env) (fun v s₁=>wpAny (model X.prog X.w) X.A (eval b X.env) (fun u s₂=>wpAny (model X.prog X.w) X.A (compareOp op v u) (EP X pins σ Q) X.xe s₂) X.xe s₁) X.xe s
theorem pP (b:Expr) {op:CmpOp} (h:op≠.In) (h2:op≠.NotIn):behindInMarks op b=false:=by
 have e1:(op == CmpOp.In)=false:=by cases op <;> first | rfl | exact absurd rfl h
 have e2:(op == CmpOp.NotIn)=false:=by cases op <;> first | rfl | exact absurd rfl h2
 cases b <;> simp [behindInMarks,e1,e2]
def X3 (ta:TE):TE:=fun σ H Q=>ta σ H fun x H1=>Q (.bl (decide (x=.non))) H1
def XZ (ta:TE):TE:=fun σ H Q=>ta σ H fun x H1=>Q (.bl (!decide (x=.non))) H1
theorem RelV.none_iff {x:V} {v:Value} (r:RelV x v):(v == Value.none)=decide (x=.non):=by
 cases x with
 | non=>cases r; rfl
 | bl _=>cases r; rfl
 | int _=>obtain ⟨t,rfl⟩:=r; rfl
 | str _=>obtain ⟨t,rfl⟩:=r; rfl
 | byt _=>obtain ⟨t,rfl⟩:=r; rfl
 | flt _=>obtain ⟨t,rfl⟩:=r; rfl
 | ref _=>cases r; rfl
 | ty _=>cases r; rfl
theorem bG {j pos'} (ha:PE X a ta):PC X .Is a (.Constant .none j pos') (X3 ta):=by
 intro pins s σ H Q I h
 refine thn (ha pins s σ H _ I h) fun v s1 ⟨x,H1,I1,r1,q1⟩=>?_
 exact Constant_none (is_none_gen ⟨.bl _,H1,I1,by rw [r1.none_iff]; rfl,q1⟩)
theorem gp {j pos'} (ha:PE X a ta):PC X .IsNot a (.Constant .none j pos') (XZ ta):=by
 intro pins s σ H Q I h
 refine thn (ha pins s σ H _ I h) fun v s1 ⟨x,H1,I1,r1,q1⟩=>?_
 exact Constant_none (isnot_none_gen ⟨.bl _,H1,I1,by rw [r1.none_iff]; rfl,q1⟩)
def tB (t:TE):TT:=fun σ H Q=>t σ H fun x H1=>∃ c,x=.bl c∧Q c H1
theorem bB {op:CmpOp} {t:TE} (h:PC X op a b t) (h1:behindInMarks op b=false:=by first | exact pP _ (by decide) (by decide) | rfl):PE X (.Compare a [op] [b] pos) t:=fun pins s σ H Q I hw=>wpAny_Compare1 (h pins s σ H Q I hw) h1
theorem br {op:CmpOp} {t:TE} (h:PC X op a b t) (h1:behindInMarks op b=false:=by first | exact pP _ (by decide) (by decide) | rfl):PT X (.Compare a [op] [b] pos) (tB t):=by
 intro pins s σ H Q I hw
 refine wpAny_isTrue_Compare1 (thn (h pins s σ H _ I hw) fun v s1 h1=>thn h1 fun u s2 h2=>thn h2 fun c s3 ⟨x,H1,I1,r1,q1⟩=>?_) h1
 obtain ⟨d,rfl,q⟩:=q1
 cases r1
 exact wpAny_truthy_bool ⟨H1,I1,q⟩
theorem bp {e:Expr} {t:TE} (h:PE X e t) (he:∀ yu,isTrue e X.env yu=(do let v ← yu; standAt e.pos; holding [v] (truthy v)):=by intro _; rfl):PT X e (tB t):=by
 intro pins s σ H Q I hw
 refine isTrue_plain (thn (h pins s σ H _ I hw) fun v s1 ⟨x,H1,I1,r1,q1⟩=>?_) (he _)
 obtain ⟨d,rfl,q⟩:=q1
 cases r1
 exact wpAny_truthy_bool ⟨H1,I1,q⟩
variable {tA tB':TT} {yJ:List Expr}
def Uc (t u:TT):TT:=fun σ H Q=>t σ H fun c H1=>if c=true then u σ H1 Q else Q false H1
def tOr (t u:TT):TT:=fun σ H Q=>t σ H fun c H1=>if c=true then Q true H1 else u σ H1 Q
def V7 (t:TT):TT:=fun σ H Q=>t σ H fun c H1=>Q (!c) H1
theorem gc (ha:PT X a tA):PW X (.BoolOp .And [a] pos) tA:=by
 intro wh pins s σ H Q I h
 refine isTrue_and (thn (ha pins s σ H Q I h) fun c s1 e=>?_)
 cases c with
 | true=>exact isTrue_and_nil e
 | false=>exact e
theorem bn (ha:PT X a tA):PW X (.BoolOp .Or [a] pos) tA:=by
 intro wh pins s σ H Q I h
 refine isTrue_or (thn (ha pins s σ H Q I h) fun c s1 e=>?_)
 cases c with
 | false=>exact isTrue_or_nil e
 | true=>exact e
theorem bo (ha:PT X a tA) (hb:PW X (.BoolOp .And (b::yJ) pos) tB'):PW X (.BoolOp .And (a::b::yJ) pos) (Uc tA tB'):=by
 intro wh pins s σ H Q I h
 refine isTrue_and (thn (ha pins s σ H _ I h) fun c s1 ⟨H1,I1,q1⟩=>?_)
 cases c with
 | true=>exact hb wh pins s1 σ H1 Q I1 q1
 | false=>exact ⟨H1,I1,q1⟩
theorem Wd (ha:PT X a tA) (hb:PW X (.BoolOp .Or (b::yJ) pos) tB'):PW X (.BoolOp .Or (a::b::yJ) pos) (tOr tA tB'):=by
 intro wh pins s σ H Q I h
 refine isTrue_or (thn (ha pins s σ H _ I h) fun c s1 ⟨H1,I1,q1⟩=>?_)
 cases c with
 | true=>exact ⟨H1,I1,q1⟩
 | false=>exact hb wh pins s1 σ H1 Q I1 q1
theorem bq (ha:PT X a tA):PT X (.UnaryOp .Not a pos) (V7 tA):=by
 intro pins s σ H Q I h
 exact isTrue_not (ha pins s σ H (fun c H1=>Q (!c) H1) I h)
def X7 (ta tb:TE):TE:=fun σ H Q=>ta σ H fun x H1=>∃ c,x=.bl c∧if c=true then tb σ H1 Q else Q (.bl false) H1
def XY (ta:TE):TE:=fun σ H Q=>ta σ H fun x H1=>∃ c,x=.bl c∧Q (.bl (!c)) H1
theorem bx {op} {t:TE} (h:PE X a t):PE X (.BoolOp op [a] pos) t:=fun pins s σ H Q I hw=>BoolOp_one (h pins s σ H Q I hw)
theorem bD (ha:PE X a ta) (hb:PE X (.BoolOp .And (b::yJ) pos) tb):PE X (.BoolOp .And (a::b::yJ) pos) (X7 ta tb):=by
 intro pins s σ H Q I h
 refine BoolOp_and (thn (ha pins s σ H _ I h) fun v s1 ⟨x,H1,I1,r1,q1⟩=>?_)
 obtain ⟨c,rfl,q1⟩:=q1
 cases r1
 refine wpAny_truthy_bool ?_
 cases c with
 | true=>exact hb pins s1 σ H1 Q I1 q1
 | false=>exact ⟨.bl false,H1,I1,rfl,q1⟩
theorem bz (ha:PE X a ta):PE X (.UnaryOp .Not a pos) (XY ta):=by
 intro pins s σ H Q I h
 refine UnaryOp_ (thn (ha pins s σ H _ I h) fun v s1 ⟨x,H1,I1,r1,q1⟩=>?_)
 obtain ⟨c,rfl,q1⟩:=q1
 cases r1
 exact not_of (wpAny_truthy_bool ⟨.bl (!c),H1,I1,rfl,q1⟩)
end
end L2
namespace L2
open PySem PySem.Spec PyProof.Rows
def SqL (K:PySem.W.Frag) (H:Hp) (a:Addr) (xs:List V):Prop:=
 Rd H a (.lst xs)∨
  ∃ (o:Obj) (its:Array Value) (n:Nat),K.lookup a=some o∧o.cls=.type "list"∧o.dict=none∧o.data=.seq its n∧its.size≤sizeLine∧Vals xs its.toList
def SqT (K:PySem.W.Frag) (H:Hp) (a:Addr) (xs:List V):Prop:=
 Rd H a (.tup xs)∨
  ∃ (o:Obj) (its:Array Value) (n:Nat),K.lookup a=some o∧o.cls=.type "tuple"∧o.data=.seq its n∧its.size≤sizeLine∧Vals xs its.toList
def UQ:Value→Option V
 | .none=>some .non
 | .bool b=>some (.bl b)
 | .int i _=>some (.int i)
 | .str x _=>some (.str x)
 | .bytes b _=>some (.byt b)
 | .float b _=>some (.flt b)
 | .ref a=>some (.ref a)
 | .type n=>some (.ty n)
 | _=>none
theorem RelV.abs {x:V} {u:Value} (r:RelV x u):UQ u=some x:=by
 cases x with
 | non=>cases r; rfl
 | bl _=>cases r; rfl
 | int _=>obtain ⟨t,rfl⟩:=r; rfl
 | str _=>obtain ⟨t,rfl⟩:=r; rfl
 | byt _=>obtain ⟨t,rfl⟩:=r; rfl
 | flt _=>obtain ⟨t,rfl⟩:=r; rfl
 | ref _=>cases r; rfl
 | ty _=>cases r; rfl
theorem RelV.inj {x y:V} {u:Value} (r:RelV x u) (q:RelV y u):x=y:=Option.some.inj (r.abs.symm.trans q.abs)
theorem Vals.inj:∀ {xs ys:List V} {us:List Value},Vals xs us→Vals ys us→xs=ys
 | _,_,_,.nil,.nil=>rfl
 | _,_,_,.cons r t,.cons r' t'=>by rw [r.inj r',Vals.inj t t']
section
variable {X:Cx} {pins:List (Addr × Obj)} {σ:St} {H:Hp} {s:Shared} {a:Addr} {xs ys:List V}
theorem SqL.of {K:PySem.W.Frag} (h:H a=some (.lst xs)):SqL K H a xs:=.inl (.inl h)
theorem SqT.of {K:PySem.W.Frag} (h:H a=some (.tup xs)):SqT K H a xs:=.inl (.inl h)
theorem Inv.list (I:Inv X pins σ H s) (h:SqL X.K H a xs):∃ its:List Value,Vals xs its∧PlainL s.heap a its.toArray∧xs.length≤sizeLine:=by
 rcases h with h | ⟨o,its,n,hk,hc,hd,hs,hz,r⟩
 ·obtain ⟨z,its,n,r,e⟩:=h.ok I.hok
  exact ⟨its,r,⟨_,n,e,rfl,rfl,rfl⟩,z⟩
 ·refine ⟨its.toList,r,⟨o,n,I.kIn a o hk,hc,hd,by simpa using hs⟩,?_⟩
  have e:=r.length
  simp only [Array.length_toList] at e
  omega
theorem Inv.tuple (I:Inv X pins σ H s) (h:SqT X.K H a xs):∃ its:List Value,Vals xs its∧IsTup s.heap a its.toArray∧xs.length≤sizeLine:=by
 rcases h with h | ⟨o,its,n,hk,hc,hs,hz,r⟩
 ·obtain ⟨z,its,r,p⟩:=h.ok I.hok
  exact ⟨its,r,p,z⟩
 ·refine ⟨its.toList,r,⟨o,I.kIn a o hk,hc,n,by simpa using hs⟩,?_⟩
  have e:=r.length
  simp only [Array.length_toList] at e
  omega
theorem Inv.list_inj (I:Inv X pins σ H s) (h:SqL X.K H a xs) (h':SqL X.K H a ys):xs=ys:=by
 obtain ⟨its,r,⟨o,n,e,_,_,d⟩,_⟩:=I.list h
 obtain ⟨its',r',⟨o',n',e',_,_,d'⟩,_⟩:=I.list h'
 rw [e] at e'; cases e'
 rw [d] at d'
 injection d' with d1 _
 have:its=its':=by simpa using congrArg Array.toList d1
 subst this
 exact r.inj r'
end
abbrev Cx.wish (X:Cx) (E:Value→Shared→Prop):Cx:={ X with xe:=E }
abbrev Cx.nox (X:Cx):Cx:=X.wish fun _ _=>False
theorem Cx.Ok.wish {X:Cx} (ok:X.Ok) (E:Value→Shared→Prop):(X.wish E).Ok:=
 ⟨ok.mod,ok.kind,ok.glob,ok.blt,ok.above,ok.inj,ok.has,ok.cab,ok.hd,ok.frames,ok.stk,ok.exf,ok.bs,ok.bsz,ok.noex,ok.exfs,ok.funs,ok.frf⟩
theorem Cx.Ok.unwish {X:Cx} {E:Value→Shared→Prop} (ok:(X.wish E).Ok):X.Ok:=
 ⟨ok.mod,ok.kind,ok.glob,ok.blt,ok.above,ok.inj,ok.has,ok.cab,ok.hd,ok.frames,ok.stk,ok.exf,ok.bs,ok.bsz,ok.noex,ok.exfs,ok.funs,ok.frf⟩
section
variable {X:Cx} {pins:List (Addr × Obj)} {σ:St} {H:Hp} {s:Shared} {E:Value→Shared→Prop}
theorem Inv.wish (I:Inv X pins σ H s) (E:Value→Shared→Prop):Inv (X.wish E) pins σ H s:=⟨I.ok.wish E,I.os,I.bare,I.base,I.loc,I.cell,I.free,I.freeC,I.pin,I.hok,I.len⟩
theorem Inv.unwish (I:Inv (X.wish E) pins σ H s):Inv X pins σ H s:=⟨I.ok.unwish,I.os,I.bare,I.base,I.loc,I.cell,I.free,I.freeC,I.pin,I.hok,I.len⟩
theorem SP.unwish {D:vk} {f:Flow} {s':Shared} (h:SP (X.wish E) pins D f s'):SP X pins D f s':=by
 cases f with
 | next=>obtain ⟨σ',H',I,q⟩:=h; exact ⟨σ',H',I.unwish,q⟩
 | brk=>obtain ⟨σ',H',I,q⟩:=h; exact ⟨σ',H',I.unwish,q⟩
 | cont=>obtain ⟨σ',H',I,q⟩:=h; exact ⟨σ',H',I.unwish,q⟩
 | ret u=>obtain ⟨v,σ',H',I,r,q⟩:=h; exact ⟨v,σ',H',I.unwish,r,q⟩
theorem PE.nox {e:Expr} {t:TE} (h:PE X.nox e t):PE X e t:=fun pins s σ H Q I hw=>
 wpAny_mono (h pins s σ H Q (I.wish _) hw) (fun _ _ ⟨v,H',I',r,q⟩=>⟨v,H',I'.unwish,r,q⟩) fun _ _ z=>False.elim z
theorem PT.nox {e:Expr} {t:TT} (h:PT X.nox e t):PT X e t:=fun pins s σ H Q I hw=>
 wpAny_mono (h pins s σ H Q (I.wish _) hw) (fun _ _ ⟨H',I',q⟩=>⟨H',I'.unwish,q⟩) fun _ _ z=>False.elim z
theorem PSs.nox {st:List Stmt} {t:TS} (h:PSs X.nox st t):PSs X st t:=fun pins s σ H D I hw=>
 wpAny_mono (h pins s σ H D (I.wish _) hw) (fun _ _ q=>q.unwish) fun _ _ z=>False.elim z
end
section
variable {X:Cx} {st:Stmt} {yJ:List Stmt} {t u:TS} {e:Expr} {te:TE} {pos:Pos}
def X1:TS:=fun D σ H=>D.nx σ H
def V5 (t u:TS):TS:=fun D σ H=>t { D with nx:=u D } σ H
theorem ge:PSs X [] X1:=fun _ _ σ H _ I h=>wpAny_execs_nil ⟨σ,H,I,h⟩
theorem pq (h1:PS X st t) (h2:PSs X yJ u):PSs X (st::yJ) (V5 t u):=by
 intro pins s σ H D I h
 refine wpAny_execs_cons (thn (h1 pins s σ H { D with nx:=u D } I h) fun f s1 q=>?_)
 cases f with
 | next=>
  obtain ⟨σ',H',I',q⟩:=q
  exact h2 pins s1 σ' H' D I' q
 | ret v=>exact q
 | brk=>exact q
 | cont=>exact q
theorem vp (h1:PS X st t):PSs X [st] t:=by
 intro pins s σ H D I h
 refine wpAny_execs_cons (thn (h1 pins s σ H D I h) fun f s1 q=>?_)
 cases f with
 | next=>exact wpAny_execs_nil q
 | ret v=>exact q
 | brk=>exact q
 | cont=>exact q
theorem Inv.quiet {pins:List (Addr × Obj)} {σ:St} {H:Hp} {s:Shared} (I:Inv X pins σ H s):interactive X.env=false:=by simp [interactive,I.ok.kind]
def X4 (te:TE):TS:=fun D σ H=>te σ H fun _ H1=>D.nx σ H1
theorem qi (he:PE X e te) (hs:swapsWith e none pos.line X.env=pure false:=by rfl):PS X (.Expr e pos) (X4 te):=by
 intro pins s σ H D I h
 exact wpAny_Expr_any (thn (he pins s σ H _ I h) fun v s1 ⟨x,H1,I1,r1,q1⟩=>⟨σ,H1,I1,q1⟩) I.quiet hs
def V6 (te:TE):TS:=fun D σ H=>te σ H D.rt
theorem qg (he:PE X e te):PS X (.Return (some e) pos) (V6 te):=by
 intro pins s σ H D I h
 exact wpAny_Return_some (thn (he pins s σ H _ I h) fun v s1 ⟨x,H1,I1,r1,q1⟩=>⟨x,σ,H1,I1,r1,q1⟩)
def V9 (c:TT) (t u:TS):TS:=fun D σ H=>c σ H fun b H1=>if b=true then t D σ H1 else u D σ H1
theorem We {c:Expr} {a b:List Stmt} {tc:TT} (hc:PT X c tc) (ha:PSs X a t) (hb:PSs X b u):PS X (.If c a b pos) (V9 tc t u):=by
 intro pins s σ H D I h
 refine wpAny_If (thn (hc pins s σ H _ I h) fun d s1 ⟨H1,I1,q1⟩=>?_)
 cases d with
 | true=>exact ha pins s1 σ H1 D I1 q1
 | false=>exact hb pins s1 σ H1 D I1 q1
def c_:TS:=fun _ _ _=>False
theorem kf:PS X st c_:=fun _ _ _ _ _ _ h=>h.elim
end
abbrev TG:=V→St→Hp→(St→Hp→Prop)→Prop
abbrev TGs:=List V→St→Hp→(St→Hp→Prop)→Prop
def PG (X:Cx) (target:Expr) (t:TG):Prop:=
 ∀ (pins:List (Addr × Obj)) (s:Shared) (σ:St) (H:Hp) (v:V) (u:Value) (Q:St→Hp→Prop),Inv X pins σ H s→RelV v u→t v σ H Q→
  wpAny (model X.prog X.w) X.A (assign target X.env u) (fun _ s'=>∃ σ' H',Inv X pins σ' H' s'∧Q σ' H') X.xe s
def PGs (X:Cx) (ts:List Expr) (t:TGs):Prop:=
 ∀ (pins:List (Addr × Obj)) (s:Shared) (σ:St) (H:Hp) (vs:List V) (us:List Value) (Q:St→Hp→Prop),Inv X pins σ H s→Vals vs us→t vs σ H Q→
  wpAny (model X.prog X.w) X.A (assignInOrder ((assignEach ts X.env).map (·.2)) us) (fun _ s'=>∃ σ' H',Inv X pins σ' H' s'∧Q σ' H') X.xe s
abbrev XR:=V→V→V→Hp→(Hp→Prop)→Prop
def V2 (X:Cx) (t:XR):Prop:=
 ∀ (pins:List (Addr × Obj)) (s:Shared) (σ:St) (H:Hp) (o i v:V) (ov iv u:Value) (Q:Hp→Prop),Inv X pins σ H s→RelV o ov→RelV i iv→RelV v u→t o i v H Q→
  wpAny (model X.prog X.w) X.A (setItem ov iv u) (fun _ s'=>∃ H',Inv X pins σ H' s'∧Q H') X.xe s
section
variable {X:Cx} {pos:Pos}
def p6 (i:Nat):TG:=fun v σ H Q=>Q (σ.set i (some v)) H
theorem z0 {i:Nat} {x:Str} (hN:X.N.Nodup) (hi:X.N[i]? = some x) (hx:Loc X.env.scope x) (hf:X.fn x=true∨X.env.scope.names.lookup x=some .local:=by first | exact .inl rfl | exact .inr rfl | assumption):PG X (.Name x pos) (p6 i):=by
 intro pins s σ H v u Q I r h
 exact wpAny_assign_Name (q9 I hN hi hx r (fun s' I'=>⟨_,H,I',h⟩) hf)
def Uy:TGs:=fun vs σ H Q=>vs=[]∧Q σ H
def Vn (t:TG) (u:TGs):TGs:=fun vs σ H Q=>∃ v r,vs=v::r∧t v σ H fun σ' H'=>u r σ' H' Q
theorem n0:PGs X [] Uy:=by
 intro pins s σ H vs us Q I r h
 obtain ⟨e,h⟩:=h
 subst e
 cases r
 exact assignInOrder_nil ⟨σ,H,I,h⟩
theorem vq {e:Expr} {es:List Expr} {t:TG} {u:TGs} (h1:PG X e t) (h2:PGs X es u)
  (hs:(assignEach (e::es) X.env).map (·.2)=assign e X.env::(assignEach es X.env).map (·.2):=by rfl):PGs X (e::es) (Vn t u):=by
 intro pins s σ H vs us Q I r h
 obtain ⟨v,vr,e1,h⟩:=h
 subst e1
 cases r with
 | cons r rr=>
  rw [hs]
  refine assignInOrder_cons (thn (h1 pins s σ H _ _ _ I r h) fun _ s1 ⟨σ1,H1,I1,q1⟩=>?_)
  exact h2 pins s1 σ1 H1 _ _ Q I1 rr q1
def Uv (K:PySem.W.Frag) (n:Nat) (t:TGs):TG:=fun v σ H Q=>∃ a xs,v=.ref a∧SqT K H a xs∧xs.length=n∧t xs σ H Q
theorem ki {es:List Expr} {k:Nat} {t:TGs} {n:Nat} (hc:X.calm=true) (h:PGs X es t)
  (hn:(assignEach es X.env).length=n:=by rfl) (hst:(assignEach es X.env).findIdx? (·.1)=none:=by rfl):PG X (.Tuple es k pos) (Uv X.K n t):=by
 intro pins s σ H v u Q I r hw
 obtain ⟨a,xs,e1,hq,hl,hw⟩:=hw
 subst e1
 cases r
 obtain ⟨its,rv,ht,hz⟩:=I.tuple hq
 refine assign_Tuple_tuple (I.ok.hd hc) ht (by simp [hn,← hl,rv.length]) hst fun h' hx=>?_
 have I1:Inv X pins σ H { s with heap:=h' }:=I.kept (t':=s.toks) fun b o e=>hx b o (Nat.ne_of_lt (Heap.lt_size e)) e
 exact h pins _ σ H xs _ Q I1 (by simpa using rv) hw
def Uw (to ti:TE) (t:XR):TG:=fun v σ H Q=>to σ H fun o H1=>ti σ H1 fun i H2=>t o i v H2 fun H3=>Q σ H3
theorem bv {o i:Expr} {to ti:TE} {t:XR} (ho:PE X o to) (hi:PE X i ti) (hs:V2 X t)
  (ha:∀ v,assign (.Subscript o i pos) X.env v=(do
   let ov ← holding [v] (eval o X.env)
   let iv ← holding [v,ov] (eval i X.env)
   standAt pos
   holding [v,ov,iv] (setItem ov iv v)
   release [v,ov,iv] []):=by intro _; rfl):PG X (.Subscript o i pos) (Uw to ti t):=by
 intro pins s σ H v u Q I r h
 rw [ha]
 refine wpAny_bind (wpAny_holding (thn (ho pins s σ H _ I h) fun ov s1 ⟨x,H1,I1,r1,q1⟩=>?_))
 refine wpAny_bind (wpAny_holding (thn (hi pins s1 σ H1 _ I1 q1) fun iv s2 ⟨y,H2,I2,r2,q2⟩=>?_))
 refine wpAny_bind (wpAny_standAt (wpAny_bind (wpAny_holding (thn (hs pins s2 σ H2 x y v ov iv u _ I2 r1 r2 r q2) fun _ s3 ⟨H3,I3,q3⟩=>?_))))
 exact wpAny_release ⟨σ,H3,I3,q3⟩
def ba (te:TE) (g:TG):TS:=fun D σ H=>te σ H fun x H1=>g x σ H1 D.nx
theorem kg {tg e:Expr} {te:TE} {g:TG} (he:PE X e te) (hg:PG X tg g) (hs:swapsWithSole [tg] e pos.line X.env=pure false:=by rfl) (hw:swappedStores [tg] e X.env=pure none:=by rfl)
  (h1:(assignEach [tg] X.env).map (·.2)=[assign tg X.env]:=by rfl):PS X (.Assign [tg] e pos) (ba te g):=by
 intro pins s σ H D I h
 refine wpAny_Assign_stores (thn (he pins s σ H _ I h) fun v s1 ⟨x,H1,I1,r1,q1⟩=>?_) hs hw
 rw [h1]
 exact thn (hg pins s1 σ H1 x v _ I1 r1 q1) fun _ s2 q=>q
theorem kb {i:Nat} {x:Str} {e:Expr} {te:TE} {pos':Pos} (hN:X.N.Nodup) (hi:X.N[i]? = some x) (hx:Loc X.env.scope x) (he:PE X e te) (hs:swapsWith e (some (.Name x pos')) pos.line X.env=pure false:=by rfl) (hf:X.fn x=true∨X.env.scope.names.lookup x=some .local:=by first | exact .inl rfl | exact .inr rfl | assumption):
  PS X (.Assign [.Name x pos'] e pos) (ba te (p6 i)):=by
 intro pins s σ H D I h
 refine wpAny_Assign_Name (thn (he pins s σ H _ I h) fun v s1 ⟨y,H1,I1,r1,q1⟩=>?_) hs
 exact q9 I1 hN hi hx r1 (fun s2 I2=>⟨_,H1,I2,q1⟩) hf
end
section
variable {X:Cx} {pos:Pos}
def c9 (c:TT) (tb:TS):TS:=fun D σ H=>∃ W:Nat→St→Hp→Prop,(∃ m,W m σ H)∧∀ m σ H,W m σ H→
 c σ H fun b H1=>if b=true then ∃ N:St→Hp→Prop,(∀ σ' H',N σ' H'→∃ m',m'<m∧W m' σ' H')∧tb { D with nx:=N,ct:=N,bk:=D.nx } σ H1 else D.nx σ H1
theorem l_ {c:Expr} {body:List Stmt} {tc:TT} {tb:TS} (hp:PassesOwn (model X.prog X.w) X.A X.env X.xe) (hc:PT X c tc) (hb:PSs X body tb):PS X (.While c body [] pos) (c9 tc tb):=by
 intro pins s σ H D I h
 obtain ⟨W,⟨m0,w0⟩,turn⟩:=h
 refine wpAny_While (codeAny_whileLoop (fun n s'=>∃ σ' H',Inv X pins σ' H' s'∧W n σ' H') ?_ m0 ⟨σ,H,I,w0⟩)
 rintro n s1 ⟨σ1,H1,I1,w1⟩
 refine wpAny_passesOwn hp (thn (hc pins s1 σ1 H1 _ I1 (turn n σ1 H1 w1)) fun b s2 ⟨H2,I2,q2⟩=>?_)
 cases b with
 | true=>
  obtain ⟨N,hN,q2⟩:=q2
  rw [if_pos rfl]
  refine wpAny_passesOwn hp (thn (hb pins s2 σ1 H2 _ I2 q2) fun f s3 q3=>?_)
  cases f with
  | next=>
   obtain ⟨σ3,H3,I3,n3⟩:=q3
   obtain ⟨m',hm,w3⟩:=hN σ3 H3 n3
   exact ⟨m',hm,σ3,H3,I3,w3⟩
  | cont=>
   obtain ⟨σ3,H3,I3,n3⟩:=q3
   obtain ⟨m',hm,w3⟩:=hN σ3 H3 n3
   exact ⟨m',hm,σ3,H3,I3,w3⟩
  | brk=>exact q3
  | ret v=>exact q3
 | false=>
  rw [if_neg Bool.false_ne_true]
  exact wpAny_execs_nil ⟨σ1,H2,I2,q2⟩
end
structure It where
 go:Nat→Hp→Prop
 yld:Nat→Hp→V→Hp→Prop
 stop:Nat→Hp→Prop
def wR (X:Cx) (pins:List (Addr × Obj)) (H:Hp) (b:Addr):Prop:=
 H b=none∧b≠X.env.locals∧b∉X.fs∧(b∈X.ex∨X.s₀.heap.objs.size≤b)∧(∀ x c,X.env.cells.lookup x=some c→c≠b)∧∀ p∈X.pn++pins,p.1≠b
theorem Inv.fpOk {X:Cx} {pins:List (Addr × Obj)} {σ:St} {H H':Hp} {s:Shared} {b:Addr} (I:Inv X pins σ H s) (hb:s.heap.objs.size≤b) (hn:H' b=none):wR X pins H' b:=by
 refine ⟨hn,Nat.ne_of_gt (Nat.lt_of_lt_of_le I.lt hb),I.nofs hb,.inr (Nat.le_trans I.sz hb),fun x c e z=>?_,fun p hp z=>?_⟩
 ·obtain ⟨v,q⟩:=I.cell x c e
  exact absurd (Nat.lt_of_lt_of_le q.lt (by rw [z]; exact hb)) (Nat.lt_irrefl _)
 ·exact absurd (Nat.lt_of_lt_of_le (Heap.lt_size (I.pin p hp).1) (by rw [z]; exact hb)) (Nat.lt_irrefl _)
structure nE (P:Program) (w:World) (K:PySem.W.Frag) (tg:Expr) (J:It) (fp:List Addr) (it:Addr) (tn:Nat→Heap→Prop):Prop where
 mem:it∈fp
 obj:∀ i h,tn i h→∀ b∈fp,∃ o,h.get? b=some o∧∀ v,o.data≠.cell v
 keep:∀ i h h',tn i h→(∀ b∈fp,∀ o,h.get? b=some o→h'.get? b=some o)→tn i h'
 item:∀ (X:Cx),X.prog=P→X.w=w→X.K=K→X.calm=true→∀ (i:Nat) (pins:List (Addr × Obj)) (s:Shared) (σ:St) (H:Hp) (E:Value→Shared→Prop),Inv X pins σ H s→(∀ b∈fp,wR X pins H b)→tn i s.heap→J.go i H→
  wpAny (model P w) X.A (pyNext (.ref it)) (fun r s1=>∃ u,r=some u∧
   wpAny (model P w) X.A (letOwnedTupleGo tg (.ref it) u) (fun _ s2=>∃ x H',Inv X pins σ H' s2∧RelV x u∧J.yld i H x H'∧tn (i+1) s2.heap∧∀ b∈fp,H' b=none) E s1) E s
 done:∀ (X:Cx),X.prog=P→X.w=w→X.K=K→X.calm=true→∀ (i:Nat) (pins:List (Addr × Obj)) (s:Shared) (σ:St) (H:Hp) (E:Value→Shared→Prop),Inv X pins σ H s→(∀ b∈fp,wR X pins H b)→tn i s.heap→J.stop i H→
  wpAny (model P w) X.A (pyNext (.ref it)) (fun r s1=>r=none∧Inv X pins σ H s1) E s
 self:∀ (A:Around) (i:Nat) (s:Shared) (Q:Value→Shared→Prop) (E:Value→Shared→Prop),tn i s.heap→Q (.ref it) s→wpAny (model P w) A (pyIter (.ref it)) Q E s
abbrev TI:=St→Hp→(It→Hp→Prop)→Prop
def PIE (X:Cx) (pins:List (Addr × Obj)) (σ:St) (tg:Expr) (R:It→Hp→Prop) (itv:Value) (s2:Shared):Prop:=
 ∃ (it:Addr) (fp:List Addr) (tn:Nat→Heap→Prop) (J:It) (H':Hp),itv=.ref it∧Inv X pins σ H' s2∧nE X.prog X.w X.K tg J fp it tn∧tn 0 s2.heap∧(∀ b∈fp,wR X pins H' b)∧R J H'
def PI (X:Cx) (tg iter:Expr) (wi:TI):Prop:=
 ∀ (pins:List (Addr × Obj)) (s:Shared) (σ:St) (H:Hp) (R:It→Hp→Prop),Inv X pins σ H s→wi σ H R→
  wpAny (model X.prog X.w) X.A (eval iter X.env) (fun v s1=>wpAny (model X.prog X.w) X.A (pyIter v) (PIE X pins σ tg R) X.xe s1) X.xe s
theorem jQ {M:Model} {A:Around} {E:Value→Shared→Prop} {s:Shared} {tg:Expr} {it:Addr} {u:Value} {o:Obj} {n:String} {vs:Array Value} {Q:Unit→Shared→Prop} (ho:s.heap.get? it=some o) (hc:o.cls=.type n) (hd:o.data=.fields vs)
  (hn:["enumerate","zip","dict_itemiterator","dict_reverseitemiterator","odict_iterator","itertools.zip_longest","itertools.pairwise"].contains n=false) (hQ:Q () s):wpAny M A (letOwnedTupleGo tg (.ref it) u) Q E s:=by
 unfold letOwnedTupleGo
 cases tg <;> first
  | exact wpAny_pure hQ
  | (cases u <;> first
    | exact wpAny_pure hQ
    | (refine wpAny_bind (wpAny_load ho ?_)
       rw [hc,hd]
       show wpAny M A (if (["enumerate","zip","dict_itemiterator","dict_reverseitemiterator","odict_iterator","itertools.zip_longest","itertools.pairwise"].contains n && vs[0]? == some (rawInt _))=true then _ else _) Q E s
       rw [if_neg (by intro h; rw [hn,Bool.false_and] at h; cases h)]
       exact wpAny_pure hQ))
def Itl (K:PySem.W.Frag) (a:Addr):It:=
 ⟨fun i H=>∃ xs x,SqL K H a xs∧xs[i]? = some x,fun i H x H'=>H'=H∧∀ xs,SqL K H a xs→xs[i]? = some x,fun i H=>∃ xs,SqL K H a xs∧xs.length≤i⟩
def Itr (lo:Int) (n:Nat):It:=⟨fun i _=>i<n,fun i H x H'=>H'=H∧x=.int (lo+i),fun i _=>n≤i⟩
theorem mP {P:Program} {w:World} {K:PySem.W.Frag} {tg:Expr} (a it:Addr):nE P w K tg (Itl K a) [it] it (fun i h=>h.IsListIter it a i) where
 mem:=by simp
 obj:=fun i h st b hb=>by
  have e:b=it:=by simpa using hb
  subst e
  obtain ⟨o,e,c,d⟩:=st
  exact ⟨o,e,fun v z=>by rw [d] at z; cases z⟩
 keep:=fun i h h' st k=>st.at fun o e=>k it (by simp) o e
 item:=by
  intro X hP hw hK hc i pins s σ H E I hf st hg
  subst hP hw hK
  obtain ⟨xs,x,hq,hx⟩:=hg
  obtain ⟨its,rv,p,hz⟩:=I.list hq
  obtain ⟨u,hu,ru⟩:=rv.get hx
  obtain ⟨f0,f1,f2,f3,f4,f5⟩:=hf it (by simp)
  refine wpAny_pyNext_list_item st p.isList (x:=u) (by simpa using hu) fun h' st' sb=>?_
  have I1:Inv X pins σ H { s with heap:=h' }:=I.turned (t':=s.toks) (fun b o hb e=>(sb.2 b hb).trans e) f0 f1 f3 f4 f5
  obtain ⟨o,e,c,d⟩:=id st'
  exact ⟨u,rfl,jQ (s:={ s with heap:=h' }) e c d (by decide) ⟨x,H,I1,ru,⟨rfl,fun ys hy=>by rw [I.list_inj hy hq]; exact hx⟩,st',fun b hb=>(hf b hb).1⟩⟩
 done:=by
  intro X hP hw hK hc i pins s σ H E I hf st hg
  subst hP hw hK
  obtain ⟨xs,hq,hx⟩:=hg
  obtain ⟨its,rv,p,hz⟩:=I.list hq
  obtain ⟨f0,f1,f2,f3,f4,f5⟩:=hf it (by simp)
  have hl:=rv.length
  exact wpAny_pyNext_list_end (I.ok.hd hc) st p.isList (by simp; omega) fun h' eb=>⟨rfl,I.turned (t':=s.toks) (fun b o hb e=>eb b o hb e) f0 f1 f3 f4 f5⟩
 self:=fun _ _ _ _ _ st h=>wpAny_pyIter_listiter st h
theorem oA {P:Program} {w:World} {K:PySem.W.Frag} {tg:Expr} (it:Addr) (lo:Int) (n:Nat):nE P w K tg (Itr lo n) [it] it (fun i h=>IsRangeIter h it (lo+(i:Nat)*1) ((n:Int) - (i:Nat)) 1) where
 mem:=by simp
 obj:=fun i h st b hb=>by
  have e:b=it:=by simpa using hb
  subst e
  exact ⟨_,st,fun v z=>by
   have z':Data.fields _=Data.cell v:=z
   cases z'⟩
 keep:=fun i h h' st k=>k it (by simp) _ st
 item:=by
  intro X hP hw hK hc i pins s σ H E I hf st hg
  subst hP hw hK
  obtain ⟨f0,f1,f2,f3,f4,f5⟩:=hf it (by simp)
  have W:=Walks.range (prog:=X.prog) (w:=X.w) (I.ok.hd hc) it lo 1 n
  refine W.item i s _ _ hg st fun v h' tk hv st' kk=>?_
  obtain ⟨t,rfl⟩:=hv
  have I1:Inv X pins σ H { s with heap:=h',toks:=tk }:=I.turned (fun b o hb e=>kk b o (by simpa using hb) e) f0 f1 f3 f4 f5
  refine ⟨_,rfl,jQ (s:={ s with heap:=h',toks:=tk }) (n:="range_iterator") st' rfl rfl (by decide) ⟨.int (lo+i),H,I1,⟨t,?_⟩,⟨rfl,rfl⟩,st',fun b hb=>(hf b hb).1⟩⟩
  rw [Int.mul_one]
 done:=by
  intro X hP hw hK hc i pins s σ H E I hf st hg
  subst hP hw hK
  obtain ⟨f0,f1,f2,f3,f4,f5⟩:=hf it (by simp)
  exact wpAny_pyNext_range_end (I.ok.hd hc) st (by have:n≤i:=hg; omega) fun h' eb=>⟨rfl,I.turned (t':=s.toks) (fun b o hb e=>eb b o hb e) f0 f1 f3 f4 f5⟩
 self:=fun _ _ _ _ _ st h=>wpAny_pyIter_rangeiter st h
end L2
namespace L2
open PySem PySem.Spec PyProof.Rows
section
variable {X:Cx} {tg:Expr}
def Vk (K:PySem.W.Frag) (tl:TE):TI:=fun σ H R=>tl σ H fun x H1=>∃ a,x=.ref a∧(∃ xs,SqL K H1 a xs)∧R (Itl K a) H1
theorem nZ {l:Expr} {tl:TE} (hl:PE X l tl):PI X tg l (Vk X.K tl):=by
 intro pins s σ H R I h
 refine thn (hl pins s σ H _ I h) fun v s1 ⟨x,H1,I1,r1,q1⟩=>?_
 obtain ⟨a,e,⟨xs,hq⟩,q⟩:=q1
 subst e
 cases r1
 obtain ⟨its,rv,p,hz⟩:=I1.list hq
 refine wpAny_pyIter_list p.isList ?_
 refine ⟨s1.heap.objs.size,[s1.heap.objs.size],_,_,H1,rfl,I1.kept (t':=s1.toks) fun b o e=>Heap.get?_push_of_some _ e,mP a _,⟨_,Heap.get?_push_size _ rfl,rfl,rfl⟩,fun b hb=>?_,q⟩
 have e:b=s1.heap.objs.size:=by simpa using hb
 subst e
 exact I1.fpOk (Nat.le_refl _) (I1.hok.fresh (Nat.le_refl _))
theorem ph {pins:List (Addr × Obj)} {σ:St} {H:Hp} {s:Shared} {R:It→Hp→Prop} {E:Value→Shared→Prop} {lo hi:Int} {t u v:Tok} {tk:Nat} (I:Inv X pins σ H s) (h1:-(2 ^ 62)≤lo) (h2:lo<2 ^ 62) (h3:-(2 ^ 62)≤hi) (h4:hi<2 ^ 62)
  (q:R (Itr lo (hi - lo).toNat) H):wpAny (model X.prog X.w) X.A (pyIter (.ref s.heap.objs.size)) (PIE X pins σ tg R) E { s with heap:=s.heap.push { cls:=.type "range",data:=.fields #[.int lo t,.int hi u,.int 1 v] },toks:=tk }:=by
 refine wpAny_pyIter_range (IsRange.new ..) (small_one h1 h2 h3 h4) ?_
 have I1:Inv X pins σ H { s with heap:=s.heap.push { cls:=.type "range",data:=.fields #[.int lo t,.int hi u,.int 1 v] },toks:=tk }:=I.kept fun b o e=>Heap.get?_push_of_some _ e
 refine ⟨(s.heap.push { cls:=.type "range",data:=.fields #[.int lo t,.int hi u,.int 1 v] }).objs.size,[(s.heap.push { cls:=.type "range",data:=.fields #[.int lo t,.int hi u,.int 1 v] }).objs.size],_,_,H,rfl,
  I1.kept (t':=tk) fun b o e=>Heap.get?_push_of_some _ e,oA _ lo (hi - lo).toNat,?_,fun b hb=>?_,q⟩
 ·have e1:lo+((0:Nat):Int)*1=lo:=by simp
  have e2:(((hi - lo).toNat:Nat):Int) - ((0:Nat):Int)=Builtin.Range.rangeSize lo hi 1:=by rw [rangeSize_one]; split <;> omega
  show IsRangeIter _ _ (lo+((0:Nat):Int)*1) ((((hi - lo).toNat:Nat):Int) - ((0:Nat):Int)) 1
  rw [e1,e2]
  exact Heap.get?_push_size _ rfl
 ·have e:b=(s.heap.push { cls:=.type "range",data:=.fields #[.int lo t,.int hi u,.int 1 v] }).objs.size:=by simpa using hb
  subst e
  exact I1.fpOk (Nat.le_refl _) (I1.hok.fresh (Nat.le_refl _))
def Vj (ta:TA):TI:=fun σ H R=>ta σ H fun vs H1=>∃ j:Int,vs=[.int j]∧-(2 ^ 62)≤j∧j<2 ^ 62∧R (Itr 0 j.toNat) H1
def Vi (ta:TA):TI:=fun σ H R=>ta σ H fun vs H1=>∃ i j:Int,vs=[.int i,.int j]∧(-(2 ^ 62)≤i∧i<2 ^ 62∧-(2 ^ 62)≤j∧j<2 ^ 62)∧R (Itr i (j - i).toNat) H1
theorem rm {a:Expr} {ta:TA} {p pos:Pos} (hg:Gl X "range") (hm:X.mg "range"=none) (ha:PA X [a] ta) (hs:starEach [a] X.env=[(false,eval a X.env)]:=by rfl):PI X tg (.Call (.Name "range" p) [a] [] pos) (Vj ta):=by
 intro pins s σ H R I h
 refine Call_ (xX I hg hm boot_range (PyProof.Rows.callWith_type1 (thn (ha pos pins s σ H _ I h) fun us s1 ⟨vs,H1,I1,r1,q1⟩=>?_) hs rfl))
 obtain ⟨j,e,q1,q2,q⟩:=q1
 subst e
 cases r1 with
 | cons r rr=>
  cases rr
  obtain ⟨t,rfl⟩:=r
  exact call_range_1 (ph I1 (by omega) (by omega) q1 q2 (by simpa using q))
theorem mZ {a b:Expr} {ta:TA} {p pos:Pos} (hg:Gl X "range") (hm:X.mg "range"=none) (ha:PA X [a,b] ta) (hs:starEach [a,b] X.env=[(false,eval a X.env),(false,eval b X.env)]:=by rfl) (hs2:starEach [b] X.env=[(false,eval b X.env)]:=by rfl):
  PI X tg (.Call (.Name "range" p) [a,b] [] pos) (Vi ta):=by
 intro pins s σ H R I h
 refine Call_ (xX I hg hm boot_range (PyProof.Rows.callWith_type1 (thn (ha pos pins s σ H _ I h) fun us s1 ⟨vs,H1,I1,r1,q1⟩=>?_) (by rw [hs,hs2]) (by rw [hs2]; rfl)))
 obtain ⟨i,j,e,⟨q1,q2,q3,q4⟩,q⟩:=q1
 subst e
 cases r1 with
 | cons r rr=>
  cases rr with
  | cons r' rr=>
   cases rr
   obtain ⟨t,rfl⟩:=r
   obtain ⟨t',rfl⟩:=r'
   exact call_range_2 (ph I1 q1 q2 q3 q4 q)
def V_ (wi:TI) (g:TG) (tb:TS):TS:=fun D σ H=>wi σ H fun J H1=>∃ W:Nat→Nat→St→Hp→Prop,(∃ m,W 0 m σ H1)∧∀ i m σ H,W i m σ H→
 (J.stop i H∧D.nx σ H)∨(J.go i H∧∃ N:St→Hp→Prop,(∀ σ' H',N σ' H'→∃ m',m'<m∧W (i+1) m' σ' H')∧∀ x H',J.yld i H x H'→g x σ H' fun σ2 H2=>tb { D with nx:=N,ct:=N,bk:=D.nx } σ2 H2)
def xA (fp:List Addr) (h:Heap):List (Addr × Obj):=fp.filterMap fun b=>(h.get? b).map fun o=>(b,o)
theorem vc {fp:List Addr} {h:Heap} {b:Addr} {o:Obj} (hb:b∈fp) (e:h.get? b=some o):(b,o)∈xA fp h:=List.mem_filterMap.mpr ⟨b,hb,by rw [e]; rfl⟩
theorem m7 {fp:List Addr} {h:Heap} {p:Addr × Obj} (hp:p∈xA fp h):p.1∈fp∧h.get? p.1=some p.2:=by
 obtain ⟨b,hb,e⟩:=List.mem_filterMap.mp hp
 cases q:h.get? b with
 | none=>rw [q] at e; cases e
 | some o=>
  rw [q] at e
  have e':(b,o)=p:=Option.some.inj e
  subst e'
  exact ⟨hb,q⟩
theorem Inv.pinned {pins:List (Addr × Obj)} {σ:St} {H:Hp} {s:Shared} {fp:List Addr} (I:Inv X pins σ H s) (hf:∀ b∈fp,wR X pins H b) (ho:∀ b∈fp,∃ o,s.heap.get? b=some o∧∀ v,o.data≠.cell v):Inv X (pins++xA fp s.heap) σ H s:=
 I.pins_of fun p hp=>(List.mem_append.mp hp).elim (fun z=>I.pin p (List.mem_append_right _ z)) fun z=>by
  obtain ⟨hb,e⟩:=m7 z
  obtain ⟨f0,f1,f2,_⟩:=hf p.1 hb
  obtain ⟨o,e',d⟩:=ho p.1 hb
  rw [e] at e'; cases e'
  exact ⟨e,f0,f1,f2,d⟩
theorem Inv.unpinned {pins pl:List (Addr × Obj)} {σ:St} {H:Hp} {s:Shared} (I:Inv X (pins++pl) σ H s):Inv X pins σ H s:=I.pins_of fun p hp=>I.pin p (List.mem_append_right _ (List.mem_append_left _ hp))
theorem tN {iter:Expr} {body:List Stmt} {wi:TI} {g:TG} {tb:TS} {pos:Pos} (hp:PassesOwn (model X.prog X.w) X.A X.env X.xe) (hc:X.calm=true) (hi:PI X tg iter wi) (hg:PG X tg g) (hb:PSs X body tb)
  (hs:∀ x,foldedSetIterable iter X.env x=pure x:=by intro _; rfl):PS X (.For tg iter body [] pos) (V_ wi g tb):=by
 intro pins s σ H D I h
 refine wpAny_For (thn (hi pins s σ H _ I h) fun v s1 h1=>thn h1 fun itv s2 h2=>?_) hs
 obtain ⟨it,fp,tn,J,H2,e,I2,T,st2,f2,W,⟨m0,w0⟩,turn⟩:=h2
 subst e
 have stat:∀ {H':Hp},(∀ b∈fp,H' b=none)→∀ b∈fp,wR X pins H' b:=fun hn b hb=>⟨hn b hb,(f2 b hb).2⟩
 refine codeAny_forLoop_any (fun n s'=>∃ i σ' H',Inv X pins σ' H' s'∧tn i s'.heap∧(∀ b∈fp,H' b=none)∧W i n σ' H') ?_ m0 ⟨0,σ,H2,I2,st2,fun b hb=>(f2 b hb).1,w0⟩
 rintro n s3 ⟨i,σ3,H3,I3,st3,fr3,w3⟩
 rcases turn i n σ3 H3 w3 with ⟨stop,qn⟩ | ⟨go,N,hN,step⟩
 ·refine wpAny_passesOwn hp (thn (T.done X rfl rfl rfl hc i pins s3 σ3 H3 X.xe I3 (stat fr3) st3 stop) fun r s4 ⟨hr,I4⟩=>?_)
  subst hr
  exact wpAny_execs_nil ⟨σ3,H3,I4,qn⟩
 ·refine wpAny_passesOwn hp (thn (T.item X rfl rfl rfl hc i pins s3 σ3 H3 X.xe I3 (stat fr3) st3 go) fun r s4 ⟨u,hr,h4⟩=>?_)
  subst hr
  refine wpAny_passesOwn hp (thn h4 fun _ s5 ⟨x,H5,I5,r5,y5,st5,fr5⟩=>?_)
  have I5':=I5.pinned (stat fr5) (T.obj _ _ st5)
  refine wpAny_passesOwn hp (thn (hg _ s5 σ3 H5 x u _ I5' r5 (step x H5 y5)) fun _ s6 ⟨σ6,H6,I6,q6⟩=>?_)
  refine wpAny_passesOwn hp (thn (hb _ s6 σ6 H6 _ I6 q6) fun f s7 q7=>?_)
  have again:∀ {σ7:St} {H7:Hp},Inv X (pins++xA fp s5.heap) σ7 H7 s7→N σ7 H7→∃ m,m<n∧∃ i σ' H',Inv X pins σ' H' s7∧tn i s7.heap∧(∀ b∈fp,H' b=none)∧W i m σ' H':=fun {σ7 H7} I7 n7=>by
   obtain ⟨m',hm,w7⟩:=hN σ7 H7 n7
   refine ⟨m',hm,i+1,σ7,H7,I7.unpinned,T.keep _ _ _ st5 fun b hb o e=>(I7.pin (b,o) (List.mem_append_right _ (List.mem_append_right _ (vc hb e)))).1,fun b hb=>?_,w7⟩
   obtain ⟨o,e,d⟩:=T.obj _ _ st5 b hb
   exact (I7.pin (b,o) (List.mem_append_right _ (List.mem_append_right _ (vc hb e)))).2.1
  cases f with
  | next=>obtain ⟨σ7,H7,I7,n7⟩:=q7; exact again I7 n7
  | cont=>obtain ⟨σ7,H7,I7,n7⟩:=q7; exact again I7 n7
  | brk=>obtain ⟨σ7,H7,I7,q7⟩:=q7; exact ⟨σ7,H7,I7.unpinned,q7⟩
  | ret v=>obtain ⟨x7,σ7,H7,I7,r7,q7⟩:=q7; exact ⟨x7,σ7,H7,I7.unpinned,r7,q7⟩
end
theorem jV {K:PySem.W.Frag} {a:Addr} {xs:List V} {g:TG} {tb:TS} {D:vk} {σ:St} {H:Hp} (Pv:Nat→St→Hp→Prop) (h0:Pv 0 σ H) (hl:∀ i σ H,i≤xs.length→Pv i σ H→SqL K H a xs)
  (hs:∀ i x σ H,xs[i]? = some x→Pv i σ H→g x σ H fun σ2 H2=>tb { D with nx:=Pv (i+1),ct:=Pv (i+1),bk:=D.nx } σ2 H2) (hd:∀ σ H,Pv xs.length σ H→D.nx σ H):
  ∃ W:Nat→Nat→St→Hp→Prop,(∃ m,W 0 m σ H)∧∀ i m σ H,W i m σ H→
   ((Itl K a).stop i H∧D.nx σ H)∨((Itl K a).go i H∧∃ N:St→Hp→Prop,(∀ σ' H',N σ' H'→∃ m',m'<m∧W (i+1) m' σ' H')∧∀ x H',(Itl K a).yld i H x H'→g x σ H' fun σ2 H2=>tb { D with nx:=N,ct:=N,bk:=D.nx } σ2 H2):=by
 refine ⟨fun i m σ H=>m=xs.length - i∧i≤xs.length∧Pv i σ H,⟨xs.length,by simp,Nat.zero_le _,h0⟩,?_⟩
 rintro i m σ H ⟨rfl,hi,p⟩
 have q:=hl i σ H hi p
 by_cases hlt:i<xs.length
 ·refine .inr ⟨⟨xs,xs[i],q,by simp [hlt]⟩,Pv (i+1),fun σ' H' p'=>⟨xs.length - (i+1),by omega,rfl,hlt,p'⟩,fun x H' y=>?_⟩
  obtain ⟨e,y⟩:=y
  subst e
  exact hs i x σ _ (y xs q) p
 ·have e:i=xs.length:=by omega
  subst e
  exact .inl ⟨⟨xs,q,Nat.le_refl _⟩,hd σ H p⟩
theorem rE {lo:Int} {n:Nat} {g:TG} {tb:TS} {D:vk} {σ:St} {H:Hp} (Pv:Nat→St→Hp→Prop) (h0:Pv 0 σ H)
  (hs:∀ i σ H,i<n→Pv i σ H→g (.int (lo+i)) σ H fun σ2 H2=>tb { D with nx:=Pv (i+1),ct:=Pv (i+1),bk:=D.nx } σ2 H2) (hd:∀ σ H,Pv n σ H→D.nx σ H):
  ∃ W:Nat→Nat→St→Hp→Prop,(∃ m,W 0 m σ H)∧∀ i m σ H,W i m σ H→
   ((Itr lo n).stop i H∧D.nx σ H)∨((Itr lo n).go i H∧∃ N:St→Hp→Prop,(∀ σ' H',N σ' H'→∃ m',m'<m∧W (i+1) m' σ' H')∧∀ x H',(Itr lo n).yld i H x H'→g x σ H' fun σ2 H2=>tb { D with nx:=N,ct:=N,bk:=D.nx } σ2 H2):=by
 refine ⟨fun i m σ H=>m=n - i∧i≤n∧Pv i σ H,⟨n,by simp,Nat.zero_le _,h0⟩,?_⟩
 rintro i m σ H ⟨rfl,hi,p⟩
 by_cases hlt:i<n
 ·refine .inr ⟨hlt,Pv (i+1),fun σ' H' p'=>⟨n - (i+1),by omega,rfl,hlt,p'⟩,fun x H' y=>?_⟩
  obtain ⟨e,y⟩:=y
  subst e y
  exact hs i σ _ hlt p
 ·have e:i=n:=by omega
  subst e
  exact .inl ⟨Nat.le_refl _,hd σ H p⟩
end L2
namespace L2
open PySem PySem.Spec PyProof.Rows
abbrev R2:=V→V→Hp→VK→Prop
def OpR (X:Cx) (f:Value→Value→Sem Value) (r:R2):Prop:=
 ∀ (pins:List (Addr × Obj)) (s:Shared) (σ:St) (H:Hp) (x y:V) (v u:Value) (Q:VK),Inv X pins σ H s→RelV x v→RelV y u→r x y H Q→
  wpAny (model X.prog X.w) X.A (f v u) (EP X pins σ Q) X.xe s
def UnR (X:Cx) (f:Value→Sem Value) (r:V→Hp→VK→Prop):Prop:=
 ∀ (pins:List (Addr × Obj)) (s:Shared) (σ:St) (H:Hp) (x:V) (v:Value) (Q:VK),Inv X pins σ H s→RelV x v→r x H Q→
  wpAny (model X.prog X.w) X.A (f v) (EP X pins σ Q) X.xe s
def CallR (X:Cx) (f:Value) (r:List V→Hp→VK→Prop):Prop:=
 ∀ (pins:List (Addr × Obj)) (s:Shared) (σ:St) (H:Hp) (xs:List V) (us:List Value) (Q:VK),Inv X pins σ H s→Vals xs us→r xs H Q→
  wpAny (model X.prog X.w) X.A (call f us) (EP X pins σ Q) X.xe s
def UR (X:Cx) (r:V→Hp→(Bool→Hp→Prop)→Prop):Prop:=
 ∀ (pins:List (Addr × Obj)) (s:Shared) (σ:St) (H:Hp) (x:V) (v:Value) (Q:Bool→Hp→Prop),Inv X pins σ H s→RelV x v→r x H Q→
  wpAny (model X.prog X.w) X.A (truthy v) (TP X pins σ Q) X.xe s
def tOp (r:R2) (ta tb:TE):TE:=fun σ H Q=>ta σ H fun x H1=>tb σ H1 fun y H2=>r x y H2 Q
def tUn (r:V→Hp→VK→Prop) (ta:TE):TE:=fun σ H Q=>ta σ H fun x H1=>r x H1 Q
def rI (C:Int→Int→Prop) (g:Int→Int→V):R2:=fun x y H Q=>∃ i j,x=.int i∧y=.int j∧C i j∧Q (g i j) H
def rI0 (g:Int→Int→V):R2:=fun x y H Q=>∃ i j,x=.int i∧y=.int j∧Q (g i j) H
def rU (g:Int→V):V→Hp→VK→Prop:=fun x H Q=>∃ i,x=.int i∧Q (g i) H
section
variable {X:Cx} {a b c:Expr} {ta tb tc:TE} {pos:Pos}
theorem XN (ha:PE X a ta) (hb:PE X b tb) {pins:List (Addr × Obj)} {s:Shared} {σ:St} {H:Hp} {R:V→V→Hp→Prop} (I:Inv X pins σ H s)
  (h:ta σ H fun x H1=>tb σ H1 fun y H2=>R x y H2) {Q:Value→Shared→Prop} {f:Value→Value→Sem Value}
  (hf:∀ v u s2 x y H2,Inv X pins σ H2 s2→RelV x v→RelV y u→R x y H2→wpAny (model X.prog X.w) X.A (f v u) Q X.xe s2):
  wpAny (model X.prog X.w) X.A (eval a X.env) (fun v s₁=>wpAny (model X.prog X.w) X.A (eval b X.env) (fun u s₂=>wpAny (model X.prog X.w) X.A (f v u) Q X.xe s₂) X.xe s₁) X.xe s:=by
 refine thn (ha pins s σ H _ I h) fun v s1 ⟨x,H1,I1,r1,q1⟩=>?_
 refine thn (hb pins s1 σ H1 _ I1 q1) fun u s2 ⟨y,H2,I2,r2,q2⟩=>?_
 exact hf v u s2 x y H2 I2 r1 r2 q2
theorem cA {op:Operator} {r:R2} (ho:OpR X (binaryOp op) r) (ha:PE X a ta) (hb:PE X b tb):PE X (.BinOp a op b pos) (tOp r ta tb):=by
 intro pins s σ H Q I h
 exact wpAny_BinOp (XN ha hb I h fun v u s2 x y H2 I2 rx ry q=>ho pins s2 σ H2 x y v u Q I2 rx ry q)
theorem Wf {op:UnaryOp} {r:V→Hp→VK→Prop} (ho:UnR X (unaryOp op) r) (ha:PE X a ta):PE X (.UnaryOp op a pos) (tUn r ta):=by
 intro pins s σ H Q I h
 exact UnaryOp_ (thn (ha pins s σ H _ I h) fun v s1 ⟨x,H1,I1,r1,q1⟩=>ho pins s1 σ H1 x v Q I1 r1 q1)
theorem opI {f:Value→Value→Sem Value} {C:Int→Int→Prop} {g:Int→Int→Int}
  (rule:∀ (i j:Int) (t u:Tok) (s:Shared) (Q:Value→Shared→Prop) (E:Value→Shared→Prop),C i j→Q (.int (g i j) s.toks) { s with toks:=s.toks+1 }→wpAny (model X.prog X.w) X.A (f (.int i t) (.int j u)) Q E s):
  OpR X f (rI C fun i j=>.int (g i j)):=by
 intro pins s σ H x y v u Q I rx ry h
 obtain ⟨i,j,rfl,rfl,hc,q⟩:=h
 obtain ⟨t,rfl⟩:=rx
 obtain ⟨t',rfl⟩:=ry
 exact rule i j t t' s _ _ hc ⟨.int (g i j),H,I.tok _,⟨_,rfl⟩,q⟩
theorem Wm {f:Value→Value→Sem Value} {g:Int→Int→Int}
  (rule:∀ (i j:Int) (t u:Tok) (s:Shared) (Q:Value→Shared→Prop) (E:Value→Shared→Prop),Q (.int (g i j) s.toks) { s with toks:=s.toks+1 }→wpAny (model X.prog X.w) X.A (f (.int i t) (.int j u)) Q E s):
  OpR X f (rI0 fun i j=>.int (g i j)):=by
 intro pins s σ H x y v u Q I rx ry h
 obtain ⟨i,j,rfl,rfl,q⟩:=h
 obtain ⟨t,rfl⟩:=rx
 obtain ⟨t',rfl⟩:=ry
 exact rule i j t t' s _ _ ⟨.int (g i j),H,I.tok _,⟨_,rfl⟩,q⟩
theorem gu {f:Value→Value→Sem Value} {g:Int→Int→Bool}
  (rule:∀ (i j:Int) (t u:Tok) (s:Shared) (Q:Value→Shared→Prop) (E:Value→Shared→Prop),Q (.bool (g i j)) s→wpAny (model X.prog X.w) X.A (f (.int i t) (.int j u)) Q E s):
  OpR X f (rI0 fun i j=>.bl (g i j)):=by
 intro pins s σ H x y v u Q I rx ry h
 obtain ⟨i,j,rfl,rfl,q⟩:=h
 obtain ⟨t,rfl⟩:=rx
 obtain ⟨t',rfl⟩:=ry
 exact rule i j t t' s _ _ ⟨.bl (g i j),H,I,rfl,q⟩
def mL (i j:Int):Prop:=j≠0∧j.natAbs<1073741824
def XU (i j:Int):Prop:=0≤j∧j≤1000000∧i.natAbs<2 ^ 64
def CMul (i j:Int):Prop:=(-(2 ^ 64)<i∧i<2 ^ 64)∨(-(2 ^ 64)<j∧j<2 ^ 64)
theorem CMul.ok {i j:Int} (h:CMul i j):IntMulOk i j:=by
 rcases h with ⟨h1,h2⟩ | ⟨h1,h2⟩
 ·exact .of_left (intBits_le_64 h1 h2)
 ·exact .of_right (intBits_le_64 h1 h2)
theorem bM:OpR X (binaryOp .Add) (rI0 fun i j=>.int (i+j)):=Wm fun _ _ _ _ _ _ _ q=>add_int q
theorem bH:OpR X (binaryOp .Sub) (rI0 fun i j=>.int (i - j)):=Wm fun _ _ _ _ _ _ _ q=>sub_int q
theorem ku:OpR X (binaryOp .FloorDiv) (rI mL fun i j=>.int (i.fdiv j)):=opI fun _ _ _ _ _ _ _ hc q=>floordiv_int hc.1 q (.inl (PyProof.noPylong_small hc.2))
theorem gr:OpR X (binaryOp .Mod) (rI (fun _ j=>j≠0) fun i j=>.int (i.fmod j)):=opI fun _ _ _ _ _ _ _ hc q=>mod_int' hc q
theorem bJ:OpR X (binaryOp .Pow) (rI XU fun i j=>.int (i ^ j.toNat)):=opI fun _ _ _ _ _ _ _ hc q=>pow_int_small hc.1 hc.2.1 hc.2.2 q
theorem unI {f:Value→Sem Value} {g:Int→Int}
  (rule:∀ (i:Int) (t:Tok) (s:Shared) (Q:Value→Shared→Prop) (E:Value→Shared→Prop),Q (.int (g i) s.toks) { s with toks:=s.toks+1 }→wpAny (model X.prog X.w) X.A (f (.int i t)) Q E s):
  UnR X f (rU fun i=>.int (g i)):=by
 intro pins s σ H x v Q I rx h
 obtain ⟨i,rfl,q⟩:=h
 obtain ⟨t,rfl⟩:=rx
 exact rule i t s _ _ ⟨.int (g i),H,I.tok _,⟨_,rfl⟩,q⟩
theorem cZ:UnR X (unaryOp .USub) (rU fun i=>.int (-i)):=unI fun _ _ _ _ _ q=>neg_int q
end
section
variable {X:Cx} {a b c:Expr} {ta tb tc:TE} {pos:Pos}
theorem Wi:OpR X (compareOp .Lt) (rI0 fun i j=>.bl (decide (i<j))):=gu fun _ _ _ _ _ _ _ q=>lt_int q
theorem Wj:OpR X (compareOp .LtE) (rI0 fun i j=>.bl (decide (i≤j))):=gu fun _ _ _ _ _ _ _ q=>le_int q
theorem Wk:OpR X (compareOp .Gt) (rI0 fun i j=>.bl (decide (j<i))):=gu fun _ _ _ _ _ _ _ q=>gt_int q
theorem Wl:OpR X (compareOp .GtE) (rI0 fun i j=>.bl (decide (j≤i))):=gu fun _ _ _ _ _ _ _ q=>ge_int q
theorem OpR.or {f:Value→Value→Sem Value} {r r':R2} (h:OpR X f r) (h':OpR X f r'):OpR X f (fun x y H Q=>r x y H Q∨r' x y H Q):=by
 intro pins s σ H x y v u Q I rx ry q
 rcases q with q | q
 ·exact h pins s σ H x y v u Q I rx ry q
 ·exact h' pins s σ H x y v u Q I rx ry q
theorem zv (b:Expr) {op:CmpOp} (h:op≠.In:=by decide) (h2:op≠.NotIn:=by decide):behindInMarks op b=false:=by
 have e1:(op == CmpOp.In)=false:=by cases op <;> first | rfl | exact absurd rfl h
 have e2:(op == CmpOp.NotIn)=false:=by cases op <;> first | rfl | exact absurd rfl h2
 cases b <;> simp [behindInMarks,e1,e2]
theorem gl {op:CmpOp} {r:R2} (ho:OpR X (compareOp op) r) (ha:PE X a ta) (hb:PE X b tb) (hm:behindInMarks op b=false):PE X (.Compare a [op] [b] pos) (tOp r ta tb):=by
 intro pins s σ H Q I h
 exact wpAny_Compare1 (XN ha hb I h fun v u s2 x y H2 I2 rx ry q=>ho pins s2 σ H2 x y v u Q I2 rx ry q) hm
def lJ (t:TE):TT:=fun σ H Q=>t σ H fun x H'=>∃ k,x=.bl k∧Q k H'
theorem gd {op:CmpOp} {r:R2} (ho:OpR X (compareOp op) r) (ha:PE X a ta) (hb:PE X b tb) (hm:behindInMarks op b=false):PT X (.Compare a [op] [b] pos) (lJ (tOp r ta tb)):=by
 intro pins s σ H Q I h
 refine wpAny_isTrue_Compare1 (thn (ha pins s σ H _ I h) fun v s1 ⟨x,H1,I1,r1,q1⟩=>thn (hb pins s1 σ H1 _ I1 q1) fun u s2 ⟨y,H2,I2,r2,q2⟩=>
  thn (ho pins s2 σ H2 x y v u _ I2 r1 r2 q2) fun c s3 ⟨z,H3,I3,r3,k,e,q3⟩=>?_) hm
 subst e
 cases r3
 exact wpAny_truthy_bool ⟨H3,I3,q3⟩
def lM (r r':R2) (ta tb tc:TE):TE:=fun σ H Q=>ta σ H fun x H1=>tb σ H1 fun y H2=>r x y H2 fun z H3=>∃ k,z=.bl k∧
 (if k=true then tc σ H3 fun w' H4=>r' y w' H4 Q else Q (.bl false) H3)
theorem l9 {op op':CmpOp} {r r':R2} (ho:OpR X (compareOp op) r) (ho':OpR X (compareOp op') r') (ha:PE X a ta) (hb:PE X b tb) (hc:PE X c tc)
  (hm:lastMarks [op,op'] [b,c]=false:=by with_unfolding_all rfl):PT X (.Compare a [op,op'] [b,c] pos) (lJ (lM r r' ta tb tc)):=by
 intro pins s σ H Q I h
 refine isTrue_chain (thn (ha pins s σ H _ I h) fun v s1 ⟨x,H1,I1,r1,q1⟩=>test_link (thn (hb pins s1 σ H1 _ I1 q1) fun u s2 ⟨y,H2,I2,r2,q2⟩=>
  thn (ho pins s2 σ H2 x y v u _ I2 r1 r2 q2) fun d s3 ⟨z,H3,I3,r3,k,e,q3⟩=>?_)) hm
 subst e
 cases r3
 refine wpAny_truthy_bool ?_
 cases k with
 | false=>
  obtain ⟨k',e',q'⟩:=q3
  cases e'
  exact ite_ff ⟨H3,I3,q'⟩
 | true=>
  refine ite_tt (test_last (thn (hc pins s3 σ H3 _ I3 q3) fun w' s4 ⟨z',H4,I4,r4,q4⟩=>thn (ho' pins s4 σ H4 y z' u w' _ I4 r2 r4 q4) fun d' s5 ⟨z2,H5,I5,r5,k2,e2,q5⟩=>?_))
  subst e2
  cases r5
  exact wpAny_truthy_bool ⟨H5,I5,q5⟩
def VY (K:PySem.W.Frag) (x:V) (H:Hp) (k:Bool):Prop:=
 match x with
 | .non=>k=false
 | .bl b=>k=b
 | .int i=>k=(i != 0)
 | .str y=>y.length≤sizeLine∧k=((y.length:Int) != 0)
 | .byt y=>y.size≤sizeLine∧k=((y.size:Int) != 0)
 | .ref p=>(∃ xs,SqL K H p xs∧k=!xs.isEmpty)∨(∃ xs,SqT K H p xs∧k=!xs.isEmpty)∨∃ kvs,H p=some (.dK kvs)∧k=!kvs.isEmpty
 | _=>False
theorem o6 {κ:Type} {kvs:List (κ × V)} {vs:List (κ × Value)} (r:KV kvs vs):(!vs.isEmpty)=!kvs.isEmpty:=by
 cases r <;> rfl
theorem se {xs:List V} {its:List Value} (r:Vals xs its):(!its.toArray.isEmpty)=!xs.isEmpty:=by
 cases r <;> simp
theorem uk:(sizeLine:Nat)<2 ^ 63:=by rw [sizeLine_eq]; decide
theorem c3:UR X (fun x H Q=>∃ k,VY X.K x H k∧Q k H):=by
 intro pins s σ H x v Q I rx h
 obtain ⟨k,e,q⟩:=h
 have hl:=uk
 have hs:sizeLine=16777216:=sizeLine_eq
 cases x with
 | non=>
  cases rx
  have e':k=false:=e
  subst e'
  exact truthy_none ⟨H,I,q⟩
 | bl b=>
  cases rx
  have e':k=b:=e
  subst e'
  exact wpAny_truthy_bool ⟨H,I,q⟩
 | int i=>
  obtain ⟨t,rfl⟩:=rx
  have e':k=(i != 0):=e
  subst e'
  exact PySem.P.truthy_int ⟨H,I,q⟩
 | str y=>
  obtain ⟨t,rfl⟩:=rx
  obtain ⟨hy,e'⟩:y.length≤sizeLine∧k=((y.length:Int) != 0):=e
  subst e'
  exact PySem.P.truthy_str (by omega) ⟨H,I.tok _,q⟩
 | byt y=>
  obtain ⟨t,rfl⟩:=rx
  obtain ⟨hy,e'⟩:y.size≤sizeLine∧k=((y.size:Int) != 0):=e
  subst e'
  exact PySem.W.truthy_bytes (by omega) ⟨H,I.tok _,q⟩
 | ref p=>
  cases rx
  have e':(∃ xs,SqL X.K H p xs∧k=!xs.isEmpty)∨(∃ xs,SqT X.K H p xs∧k=!xs.isEmpty)∨∃ kvs,H p=some (.dK kvs)∧k=!kvs.isEmpty:=e
  rcases e' with ⟨xs,hx,e'⟩ | ⟨xs,hx,e'⟩ | ⟨kvs,hx,e'⟩
  ·subst e'
   obtain ⟨its,r,pl,hz⟩:=I.list hx
   have hlen:=r.length
   exact wpAny_truthy_list pl.isList (by simp only [List.size_toArray]; omega) ⟨H,I.tok _,by rw [se r]; exact q⟩
  ·subst e'
   obtain ⟨its,r,pl,hz⟩:=I.tuple hx
   have hlen:=r.length
   exact truthy_tuple pl (by simp only [List.size_toArray]; omega) ⟨H,I.tok _,by rw [se r]; exact q⟩
  ·subst e'
   obtain ⟨hz,hS,vs,r,m⟩:kvs.length≤sizeLine∧(p == sysModules)=false∧∃ vs,KV kvs vs∧s.heap.DictOf (qs X.prog X.w) p vs:=I.hok p _ hx
   have hlen:kvs.length=vs.length:=Paired.length r
   exact wpAny_truthy_dict hS m (by omega) ⟨H,I.tok _,by rw [o6 r]; exact q⟩
 | _=>exact (show False from e).elim
theorem pj (ha:PE X a ta) (he:∀ yu,isTrue a X.env yu=(do let v ← yu; standAt a.pos; holding [v] (truthy v))):
  PT X a (fun σ H Q=>ta σ H fun x H'=>∃ k,VY X.K x H' k∧Q k H'):=by
 intro pins s σ H Q I h
 exact isTrue_plain (thn (ha pins s σ H _ I h) fun v s1 ⟨x,H1,I1,r1,q1⟩=>c3 pins s1 σ H1 x v Q I1 r1 q1) (he _)
theorem cw {x:V} {us:List Value} (r:Vals [x] us):∃ u,us=[u]∧RelV x u:=by
 cases r with
 | cons r1 r2=>cases r2; exact ⟨_,rfl,r1⟩
theorem cv {x y:V} {us:List Value} (r:Vals [x,y] us):∃ u w',us=[u,w']∧RelV x u∧RelV y w':=by
 cases r with
 | cons r1 r2=>
  cases r2 with
  | cons r3 r4=>cases r4; exact ⟨_,_,rfl,r1,r3⟩
theorem lw (hc:X.calm=true):CallR X (.builtin "max") (fun xs H Q=>∃ i j,xs=[.int i,.int j]∧Q (.int (if j>i then j else i)) H):=by
 intro pins s σ H xs us Q I r h
 obtain ⟨i,j,rfl,q⟩:=h
 obtain ⟨u,w',rfl,⟨t,rfl⟩,⟨t',rfl⟩⟩:=cv r
 refine max_two_ints (I.ok.hd hc) fun h' tk k=>⟨_,H,I.kept k,?_,q⟩
 by_cases hj:j>i
 ·rw [if_pos hj,if_pos hj]; exact ⟨_,rfl⟩
 ·rw [if_neg hj,if_neg hj]; exact ⟨_,rfl⟩
theorem lv (hc:X.calm=true):CallR X (.builtin "min") (fun xs H Q=>∃ i j,xs=[.int i,.int j]∧Q (.int (if j<i then j else i)) H):=by
 intro pins s σ H xs us Q I r h
 obtain ⟨i,j,rfl,q⟩:=h
 obtain ⟨u,w',rfl,⟨t,rfl⟩,⟨t',rfl⟩⟩:=cv r
 refine min_two_ints (I.ok.hd hc) fun h' tk k=>⟨_,H,I.kept k,?_,q⟩
 by_cases hj:j<i
 ·rw [if_pos hj,if_pos hj]; exact ⟨_,rfl⟩
 ·rw [if_neg hj,if_neg hj]; exact ⟨_,rfl⟩
end
end L2
namespace L2
open PySem PySem.Spec PyProof.Rows
structure ObjM (h:Heap) (x dx C:Addr) (mA:Str→Option Value):Prop where
 obj:h.get? x=some (PySem.W.instObj C dx)
 ns:h.Ns1 dx mA
 ne:dx≠x
theorem m_ {h:Heap} {dx:Addr} {mA:Str→Option Value} (n:h.Ns1 dx mA):∃ od,h.get? dx=some od∧∀ name,PySem.W.lookIn name od=some (mA name):=by
 obtain ⟨o,es,ep,ho,hd,hk,_,hm⟩:=n
 refine ⟨o,ho,fun name=>?_⟩
 have e:=hm name
 unfold nsFind findBy at e
 rw [← Array.find?_toList] at e
 unfold PySem.W.lookIn
 rw [hd]
 dsimp only
 split
 ·rename_i y q
  rw [q] at e
  exact congrArg some e
 ·rename_i q
  rw [q] at e
  have a:es.toList.any (·.refKey)=false:=by
   rw [List.any_eq_false]
   intro y hy
   obtain ⟨z,t,hkey⟩:=hk y (Array.mem_toList_iff.mp hy)
   simp [DictEntry.refKey,hkey]
  have a':¬ es.toList.any (·.refKey)=true:=by rw [a]; exact Bool.false_ne_true
  rw [if_neg a']
  exact congrArg some e
theorem ObjM.look {h:Heap} {x dx C:Addr} {mA:Str→Option Value} (I:ObjM h x dx C mA):∃ od,PySem.W.InstAt h x (PySem.W.instObj C dx) C (some od)∧∀ name,PySem.W.lookIn name od=some (mA name):=
 let ⟨od,ho,hl⟩:=m_ I.ns
 ⟨od,⟨I.obj,rfl,rfl,ho⟩,hl⟩
section
variable {prog:Program} {w:World} {A:Around} {E:Value→Shared→Prop} {s:Shared} {K:PySem.W.Frag} {x dx C f:Addr} {mA:Str→Option Value} {name:Str} {v:Value}
theorem d7 {expr:Bool} {Q:Value→Shared→Prop} (X:K.In s.heap) (I:ObjM s.heap x dx C mA) (hg:PySem.W.plainGet K C name=true) (hh:PySem.W.hasDictIn K C=true)
  (ha:PySem.W.findIn K (.ref C) name=some none) (hv:mA name=some v) (hv':PySem.W.handedIn v=true) (h:Q v { s with toks:=s.toks+1 }):
  wpAny (model prog w) A (getAttr (.ref x) name expr) Q E s:=by
 obtain ⟨od,J,hl⟩:=I.look
 exact PySem.W.get_value X J (PySem.W.plainGet_of hg).1 (PySem.W.findObj_own hh ha rfl (by rw [hl,hv])) hv' h
theorem jR {pl:Sem Bool} {Q:Value × List Value→Shared→Prop} (X:K.In s.heap) (I:ObjM s.heap x dx C mA) (hg:PySem.W.plainGet K C name=true)
  (hf:PySem.W.findIn K (.ref C) name=some (some (.ref f))) (ht:PySem.W.isFn K (.ref f)=true) (hv:mA name=none) (h:Q (.ref f,[.ref x]) s):
  wpAny (model prog w) A (getMethod (.ref x) name pl) Q E s:=by
 obtain ⟨od,J,hl⟩:=I.look
 exact PySem.W.method_fn X J (PySem.W.plainGet_of hg).1 (PySem.W.plainGet_of hg).2 hf (beq_iff_eq.mp ht) (by show (PySem.W.lookIn name od).map (·.isSome)=some false; rw [hl,hv]; rfl) h
theorem i_ {ns:List Str} {Q:Unit→Shared→Prop} (X:K.In s.heap) (I:ObjM s.heap x dx C mA)
  (hs:PySem.W.findIn K (.ref C) "__setattr__"=some (some (.builtin "object.__setattr__"))) (hp:PySem.W.plainOver K C=true) (ht:PySem.W.takerIn K C name=some none) (hh:PySem.W.hasDictIn K C=true)
  (hw:PySem.Within mA ns) (hsz:ns.length≤sizeLine)
  (h:∀ h',ObjM h' x dx C (fun y=>if y=name then some v else mA y)→Heap.SameBut dx s.heap h'→Q () { s with heap:=h',toks:=s.toks+2 }):
  wpAny (model prog w) A (setAttr (.ref x) name v) Q E s:=by
 obtain ⟨od,J,hl⟩:=I.look
 refine PySem.W.set_plain X J hs (PySem.W.osa_open (s:={ s with toks:=s.toks+1 }) (r:=none) X J hp ht fun b=>?_)
 obtain ⟨cd,hc,hd'⟩:=PySem.W.any_some hh
 have hx:s.heap.get? x=some ⟨.ref C,some dx,.plain,#[]⟩:=I.obj
 refine wpAny_bind (wpAny_pure (wpAny_bind (wpAny_bind (wpAny_loadPart hx (wpAny_bind (PySem.W.Looks.here (s:={ s with toks:=s.toks+1 }) (PySem.W.looks_clsIn X hc) ?_))))))
 rw [hd']
 refine wpAny_pure (a:=some dx) (wpAny_bind (wpAny_pure (wpAny_bind ?_)))
 refine wpAny_nsSet1 (s:={ s with toks:=s.toks+1 }) I.ns fun h' hn2 hs2=>?_
 obtain ⟨oD,esD,epD,hoD,hdD,hcD⟩:=hn2.count (PySem.Within.cons name v hw)
 refine wpAny_bind (wpAny_lookBehind hoD (by rw [hdD]; exact pastItsLine_dict (Nat.le_trans hcD (by rw [List.length_cons]; omega))) ?_)
 exact wpAny_pure (h _ ⟨(hs2.2 _ (Ne.symm I.ne)).trans I.obj,hn2,I.ne⟩ hs2)
theorem jE {R:Result→Shared→Prop} {vs:List Value} {kw:List (Str × Value)} (X:K.In s.heap) (hm:PySem.W.makesIn K C=true)
  (hi:PySem.W.findIn K (.ref C) "__init__"=some (some (.ref f))) (hf:PySem.W.typeIn K (.ref f)=some (.type "function"))
  (h:codeAny (model prog w) (A.under (.builtin "type.__call__" ⟨.ref C::vs,kw⟩)) (.call (.ref f) ⟨.ref (s.heap.objs.size+1)::vs,kw⟩) (PySem.W.InitBack (s.heap.objs.size+1) R)
   { s with heap:=(s.heap.push PySem.W.emptyDict).push (PySem.W.instObj C s.heap.objs.size) }):
  codeAny (model prog w) A (.call (.ref C) ⟨vs,kw⟩) R s:=by
 obtain ⟨hh,g,d,t,os⟩:=s
 exact PySem.W.make_core (PySem.W.makes_of X hm) (PySem.W.looks_findIn X hi) (fun self=>PySem.W.bind_fn X self hf) (.inl rfl) h
end
def wO (f:Str) (v:V):List (Str × V)→List (Str × V)
 | []=>[(f,v)]
 | (g,x)::r=>if g=f then (g,v)::r else (g,x)::wO f v r
theorem uC (f g:Str) (v:V):∀ fs:List (Str × V),(wO f v fs).lookup g=if g=f then some v else fs.lookup g
 | []=>by
  show List.lookup g [(f,v)]=_
  by_cases h:g=f
  ·have hb:(g == f)=true:=beq_iff_eq.mpr h
   simp only [List.lookup,hb,if_pos h]
  ·have hb:(g == f)=false:=beq_eq_false_iff_ne.mpr h
   simp only [List.lookup,hb,if_neg h]
 | (k,x)::r=>by
  have ih:=uC f g v r
  rw [show wO f v ((k,x)::r)=(if k=f then (k,v)::r else (k,x)::wO f v r) from rfl]
  by_cases hk:k=f
  ·rw [if_pos hk]
   by_cases h:g=k
   ·have hb:(g == k)=true:=beq_iff_eq.mpr h
    simp only [List.lookup,hb,if_pos (h.trans hk)]
   ·have hb:(g == k)=false:=beq_eq_false_iff_ne.mpr h
    simp only [List.lookup,hb,if_neg (fun e:g=f=>h (e.trans hk.symm))]
  ·rw [if_neg hk]
   by_cases h:g=k
   ·have hb:(g == k)=true:=beq_iff_eq.mpr h
    simp only [List.lookup,hb,if_neg (fun e:g=f=>hk (h.symm.trans e))]
   ·have hb:(g == k)=false:=beq_eq_false_iff_ne.mpr h
    simp only [List.lookup,hb]
    exact ih
theorem uo (f:Str) (v:V):∀ fs:List (Str × V),f∈(wO f v fs).map (·.1)∧∀ g,g∈fs.map (·.1)→g∈(wO f v fs).map (·.1)
 | []=>⟨by simp [wO],fun g h=>by simp at h⟩
 | (k,x)::r=>by
  obtain ⟨i1,i2⟩:=uo f v r
  rw [show wO f v ((k,x)::r)=(if k=f then (k,v)::r else (k,x)::wO f v r) from rfl]
  by_cases hk:k=f
  ·rw [if_pos hk]
   subst hk
   exact ⟨by simp,fun g h=>by simpa using h⟩
  ·rw [if_neg hk]
   refine ⟨?_,fun g h=>?_⟩
   ·rw [List.map_cons]
    exact List.mem_cons_of_mem _ i1
   ·rw [List.map_cons] at h ⊢
    rcases List.mem_cons.mp h with e | e
    ·exact List.mem_cons.mpr (.inl e)
    ·exact List.mem_cons_of_mem _ (i2 g e)
theorem uD (f:Str) (v:V):∀ fs:List (Str × V),(wO f v fs).length≤fs.length+1
 | []=>by simp [wO]
 | (k,x)::r=>by
  have ih:=uD f v r
  rw [show wO f v ((k,x)::r)=(if k=f then (k,v)::r else (k,x)::wO f v r) from rfl]
  by_cases hk:k=f
  ·rw [if_pos hk,List.length_cons,List.length_cons]; omega
  ·rw [if_neg hk,List.length_cons,List.length_cons]; omega
theorem RelO.some_of {v:V} {o:Option Value} (r:RelO (some v) o):∃ u,o=some u∧RelV v u:=by
 cases o with
 | none=>exact (show False from r).elim
 | some u=>exact ⟨u,rfl,r⟩
theorem RelO.none_of {o:Option Value} (r:RelO none o):o=none:=by
 cases o with
 | none=>rfl
 | some u=>exact (show False from r).elim
theorem lp {v:V} {u:Value} (r:RelV v u):PySem.W.handedIn u=true:=by
 cases v with
 | non=>cases (show u=Value.none from r); rfl
 | bl b=>cases (show u=Value.bool b from r); rfl
 | int i=>obtain ⟨t,e⟩:=(show ∃ t,u=Value.int i t from r); cases e; rfl
 | str x=>obtain ⟨t,e⟩:=(show ∃ t,u=Value.str x t from r); cases e; rfl
 | byt b=>obtain ⟨t,e⟩:=(show ∃ t,u=Value.bytes b t from r); cases e; rfl
 | flt b=>obtain ⟨t,e⟩:=(show ∃ t,u=Value.float b t from r); cases e; rfl
 | ref a=>cases (show u=Value.ref a from r); rfl
 | ty n=>cases (show u=Value.type n from r); rfl
section
variable {P:Program} {w:World} {H H':Hp} {h h':Heap} {a C dx:Addr} {fs fs':List (Str × V)}
theorem uV (hok:HOk P w H h) (e:H a=some (.ins C dx fs)):∃ mA,ObjM h a dx C mA∧(∀ f,RelO (fs.lookup f) (mA f))∧PySem.Within mA (fs.map (·.1))∧fs.length≤1000∧H dx=some (.own a):=by
 obtain ⟨d,z,ne,ob,mA,n,r,q⟩:=(show ObjOk P w H h a (.ins C dx fs) from hok a _ e)
 exact ⟨mA,⟨ob,n,ne⟩,r,q,z,d⟩
end
structure Cls (K:PySem.W.Frag) (C:Addr):Prop where
 pg:PySem.W.plainGet K C Str.empty=true
 hd:PySem.W.hasDictIn K C=true
 po:PySem.W.plainOver K C=true
 sa:PySem.W.findIn K (.ref C) "__setattr__"=some (some (.builtin "object.__setattr__"))
theorem Cls.get {K:PySem.W.Frag} {C:Addr} (c:Cls K C) (f:Str):PySem.W.plainGet K C f=true:=c.pg
def NoAttr (K:PySem.W.Frag) (C:Addr) (f:Str):Prop:=PySem.W.findIn K (.ref C) f=some none
theorem NoAttr.taker {K:PySem.W.Frag} {C:Addr} {f:Str} (n:NoAttr K C f):PySem.W.takerIn K C f=some none:=by
 unfold PySem.W.takerIn
 rw [show PySem.W.findIn K (.ref C) f=some none from n]
 rfl
structure iU (K:PySem.W.Frag) (C:Addr) (m:Str) (f:Addr):Prop where
 at_:PySem.W.findIn K (.ref C) m=some (some (.ref f))
 fn:PySem.W.isFn K (.ref f)=true
 kp:PySem.W.keepIn K (.ref f)=true
section
variable {X:Cx} {pins:List (Addr × Obj)} {σ:St} {H:Hp} {s:Shared} {a C dx:Addr} {fs:List (Str × V)} {f:Str} {v:V} {A:Around} {E:Value→Shared→Prop}
theorem nj {b:Bool} {Q:Value→Shared→Prop} (I:Inv X pins σ H s) (e:H a=some (.ins C dx fs)) (c:Cls X.K C) (n:NoAttr X.K C f) (l:fs.lookup f=some v)
  (h:∀ u s',Inv X pins σ H s'→RelV v u→Q u s'):wpAny (model X.prog X.w) A (getAttr (.ref a) f b) Q E s:=by
 obtain ⟨mA,O,r,_,_,_⟩:=uV I.hok e
 obtain ⟨u,hu,ru⟩:=RelO.some_of (v:=v) (o:=mA f) (by rw [← l]; exact r f)
 exact d7 I.kIn O (c.get f) c.hd n hu (lp ru) (h u _ (I.tok _) ru)
theorem sf {m:Str} {g:Addr} {pl:Sem Bool} {Q:Value × List Value→Shared→Prop} (I:Inv X pins σ H s) (e:H a=some (.ins C dx fs)) (c:Cls X.K C) (k:iU X.K C m g) (l:fs.lookup m=none)
  (h:Q (.ref g,[.ref a]) s):wpAny (model X.prog X.w) A (getMethod (.ref a) m pl) Q E s:=by
 obtain ⟨mA,O,r,_,_,_⟩:=uV I.hok e
 have hn:mA m=none:=RelO.none_of (by rw [← l]; exact r m)
 exact jR I.kIn O (c.get m) k.at_ k.fn hn h
theorem oF {y:V} {u:Value} {Q:Unit→Shared→Prop} (I:Inv X pins σ H s) (e:H a=some (.ins C dx fs)) (c:Cls X.K C) (n:NoAttr X.K C f) (hl:fs.length<1000) (ry:RelV y u)
  (h:∀ s',Inv X pins σ (upd H a (.ins C dx (wO f y fs))) s'→Q () s'):wpAny (model X.prog X.w) A (setAttr (.ref a) f u) Q E s:=by
 obtain ⟨mA,O,r,wi,_,ho⟩:=uV I.hok e
 have hz:(fs.map (·.1)).length≤sizeLine:=by rw [List.length_map,sizeLine_eq]; omega
 refine i_ I.kIn O c.sa c.po n.taker c.hd wi hz fun h' O' sb=>h _ ?_
 have hd:∃ o,h'.get? dx=some o:=let ⟨o,_,_,e',_⟩:=O'.ns; ⟨o,e'⟩
 refine I.write (x:=a) (e:=dx) (by rw [e]; exact True.intro) (.inr ho) (fun b q hb z=>(sb.2 b hb).trans z) hd ?_
 refine ⟨by rw [zr O.ne]; exact ho,?_,O.ne,O'.obj,_,O'.ns,fun g=>?_,fun g hg=>?_⟩
 ·have:=uD f y fs; omega
 ·show RelO ((wO f y fs).lookup g) (if g=f then some u else mA g)
  rw [uC]
  by_cases q:g=f
  ·rw [if_pos q,if_pos q]; exact ry
  ·rw [if_neg q,if_neg q]; exact r g
 ·by_cases q:g=f
  ·rw [q]; exact (uo f y fs).1
  ·refine (uo f y fs).2 g (wi g fun z=>hg ?_)
   show (if g=f then some u else mA g)=none
   rw [if_neg q]; exact z
theorem Inv.made (I:Inv X pins σ H s):Inv X pins σ (upd (upd H s.heap.objs.size (.own (s.heap.objs.size+1))) (s.heap.objs.size+1) (.ins C s.heap.objs.size []))
  { s with heap:=(s.heap.push PySem.W.emptyDict).push (PySem.W.instObj C s.heap.objs.size) }:=by
 have e1:(s.heap.push PySem.W.emptyDict).get? s.heap.objs.size=some PySem.W.emptyDict:=Heap.get?_push_size s.heap rfl
 have e2:((s.heap.push PySem.W.emptyDict).push (PySem.W.instObj C s.heap.objs.size)).get? (s.heap.objs.size+1)=some (PySem.W.instObj C s.heap.objs.size):=by
  have:=Heap.get?_push_size (s.heap.push PySem.W.emptyDict) (o:=PySem.W.instObj C s.heap.objs.size) rfl
  rwa [Heap.size_push] at this
 have e3:(s.heap.push PySem.W.emptyDict).Ns s.heap.objs.size (fun _=>none):=⟨PySem.W.emptyDict,#[],_,e1,rfl,(fun e he=>absurd he (by simp)),fun _=>rfl⟩
 have I1:=I.laid (a:=s.heap.objs.size) (o:=.own (s.heap.objs.size+1)) (h':=s.heap.push PySem.W.emptyDict) (t':=s.toks) (fun b u q=>Heap.get?_push_of_some _ q) (Nat.le_refl _) ⟨_,e1⟩
 refine I1.laid (a:=s.heap.objs.size+1) (o:=.ins C s.heap.objs.size []) (t':=s.toks) (fun b u q=>Heap.get?_push_of_some _ q) (Nat.le_of_eq (Heap.size_push _ _)) ?_
 have ne:s.heap.objs.size≠s.heap.objs.size+1:=Nat.ne_of_lt (Nat.lt_succ_self _)
 refine ⟨by rw [zr ne,zp],Nat.zero_le _,ne,e2,fun _=>none,(Heap.Ns1.of_empty e3).at fun o q=>Heap.get?_push_of_some _ q,fun _=>True.intro,fun y hy=>absurd rfl hy⟩
theorem cp {prog:Program} {w:World} {env:Env} {e:Expr} {f:Str} {pos:Pos} {s:Shared} {Q:Value→Shared→Prop} (hb:attributeBase e f env (eval e env)=eval e env)
  (h:wpAny (model prog w) A (eval e env) (fun o s₁=>wpAny (model prog w) A (getAttr o f true) Q E s₁) E s):wpAny (model prog w) A (eval (.Attribute e f pos) env) Q E s:=
 Attribute_any_ h (by rw [arm_eval_Attribute,hb])
end
def Ua (K:PySem.W.Frag) (ta:TE) (f:Str):TE:=fun σ H Q=>ta σ H fun x H1=>∃ a C dx fs v,x=.ref a∧H1 a=some (.ins C dx fs)∧Cls K C∧NoAttr K C f∧fs.lookup f=some v∧Q v H1
def X9 (K:PySem.W.Frag) (ta tv:TE) (f:Str):TS:=fun D σ H=>tv σ H fun y H1=>ta σ H1 fun x H2=>∃ a C dx fs,x=.ref a∧H2 a=some (.ins C dx fs)∧Cls K C∧NoAttr K C f∧fs.length<1000∧
 D.nx σ (upd H2 a (.ins C dx (wO f y fs)))
section
variable {X:Cx} {o e value:Expr} {f:Str} {pos pos' tpos:Pos} {ta tv:TE}
theorem bA (he:PE X e ta) (hb:attributeBase e f X.env (eval e X.env)=eval e X.env):PE X (.Attribute e f pos) (Ua X.K ta f):=by
 intro pins s σ H Q I h
 refine cp hb (thn (he pins s σ H _ I h) fun u s1 ⟨x,H1,I1,rx,a,C,dx,fs,v,ex,ea,c,n,l,q⟩=>?_)
 subst ex
 obtain rfl:u=Value.ref a:=rx
 exact nj I1 ea c n l fun u' s2 I2 ru=>⟨v,H1,I2,ru,q⟩
theorem qh (ha:PE X o ta) (hv:PE X value tv) (hs:swapsWith value (some (.Attribute o f pos')) pos.line X.env=pure false):PS X (.Assign [.Attribute o f pos'] value pos) (X9 X.K ta tv f):=by
 intro pins s σ H D I h
 refine plainObj_wpAny_Assign_Attribute (thn (hv pins s σ H _ I h) fun u s1 ⟨y,H1,I1,ry,q⟩=>thn (ha pins s1 σ H1 _ I1 q) fun ov s2 ⟨x,H2,I2,rx,a,C,dx,fs,ex,ea,c,n,l,q2⟩=>?_) hs
 subst ex
 obtain rfl:ov=Value.ref a:=rx
 exact oF I2 ea c n l ry fun s3 I3=>⟨σ,_,I3,q2⟩
end
section
variable {X:Cx} {pins:List (Addr × Obj)} {σ:St} {H:Hp} {s:Shared} {A:Around} {E:Value→Shared→Prop} {Q:Value→Shared→Prop} {c:Value} {b:Bool}
inductive vh (K:PySem.W.Frag) (H:Hp):V→Value→Prop where
 | non:vh K H .non (.type "NoneType")
 | bl (x:Bool):vh K H (.bl x) (.type "bool")
 | int (i:Int):vh K H (.int i) (.type "int")
 | str (x:Str):vh K H (.str x) (.type "str")
 | flt (x:UInt64):vh K H (.flt x) (.type "float")
 | lst {a:Addr} {xs:List V} (e:H a=some (.lst xs)):vh K H (.ref a) (.type "list")
 | frz {a:Addr} {o:Obj} {xs:List V} (e:H a=some (.frz o (.lst xs))):vh K H (.ref a) (.type "list")
 | tup {a:Addr} {xs:List V} (e:H a=some (.tup xs)):vh K H (.ref a) (.type "tuple")
 | dK {a:Addr} {kvs:List (Key × V)} (e:H a=some (.dK kvs)):vh K H (.ref a) (.type "dict")
 | dT {a:Addr} {kvs:List (List Key × V)} (e:H a=some (.dT kvs)):vh K H (.ref a) (.type "dict")
 | ins {a C dx:Addr} {fs:List (Str × V)} (e:H a=some (.ins C dx fs)) (cl:Cls K C) (ha:PySem.W.findIn K (.ref C) "__class__"=some (some (.builtin "object.__class__")))
   (hn:PySem.W.specialIn K (.builtin "object.__class__") "__get__"=some (some (.builtin "getset_descriptor.__get__"))) (htk:PySem.W.takesIn K (.builtin "object.__class__")=some true)
   (hm:PySem.W.mroIn K C (.type "object")=some true):vh K H (.ref a) (.ref C)
theorem rC {x:V} {u t:Value} (I:Inv X pins σ H s) (rx:RelV x u) (ty:vh X.K H x t) (e:PySem.W.kitOne X.K t c=some b) (h:∀ tk,Q (.bool b) { s with toks:=tk }):
  wpAny (model X.prog X.w) A (call (.builtin "isinstance") [u,c]) Q E s:=by
 cases ty with
 | non=>cases (show u=Value.none from rx); exact PySem.W.kia_one PySem.W.kitx_none I.kIn True.intro e (fun z=>nomatch z) h
 | bl y=>cases (show u=Value.bool y from rx); exact PySem.W.kia_one PySem.W.kitx_bool I.kIn True.intro e (fun z=>nomatch z) h
 | int i=>obtain ⟨t,q⟩:=(show ∃ t,u=Value.int i t from rx); cases q; exact PySem.W.kia_one PySem.W.kitx_int I.kIn True.intro e (fun z=>nomatch z) h
 | str y=>obtain ⟨t,q⟩:=(show ∃ t,u=Value.str y t from rx); cases q; exact PySem.W.kia_one PySem.W.kitx_str I.kIn True.intro e (fun z=>nomatch z) h
 | flt y=>obtain ⟨t,q⟩:=(show ∃ t,u=Value.float y t from rx); cases q; exact PySem.W.kia_one PySem.W.kitx_float I.kIn True.intro e (fun z=>nomatch z) h
 | @lst a xs ea=>
  cases (show u=Value.ref a from rx)
  obtain ⟨_,_,n,_,h1⟩:=(show ObjOk X.prog X.w H s.heap a (.lst xs) from I.hok a _ ea)
  exact PySem.W.kia_one PySem.W.kitx_list I.kIn ⟨_,h1,rfl⟩ e (fun z=>nomatch z) h
 | @frz a ob xs ea=>
  cases (show u=Value.ref a from rx)
  obtain ⟨_,_,_,n,_,h1⟩:=(show ObjOk X.prog X.w H s.heap a (.frz ob (.lst xs)) from I.hok a _ ea)
  exact PySem.W.kia_one PySem.W.kitx_list I.kIn ⟨_,h1,rfl⟩ e (fun z=>nomatch z) h
 | @tup a xs ea=>
  cases (show u=Value.ref a from rx)
  obtain ⟨_,_,_,p⟩:=(show ObjOk X.prog X.w H s.heap a (.tup xs) from I.hok a _ ea)
  obtain ⟨o,h1,h2,_⟩:=p
  exact PySem.W.kia_one PySem.W.kitx_tuple I.kIn ⟨o,h1,h2⟩ e (fun z=>nomatch z) h
 | @dK a kvs ea=>
  cases (show u=Value.ref a from rx)
  obtain ⟨_,_,vs,_,p⟩:=(show ObjOk X.prog X.w H s.heap a (.dK kvs) from I.hok a _ ea)
  obtain ⟨o,es,ep,h1,h2,_⟩:=p
  exact PySem.W.kia_one PySem.W.kitx_dict I.kIn ⟨o,h1,h2.1⟩ e (fun z=>nomatch z) h
 | @dT a kvs ea=>
  cases (show u=Value.ref a from rx)
  obtain ⟨_,_,xs,_,o,es,ep,h1,h2,_⟩:=(show ObjOk X.prog X.w H s.heap a (.dT kvs) from I.hok a _ ea)
  exact PySem.W.kia_one PySem.W.kitx_dict I.kIn ⟨o,h1,h2.1⟩ e (fun z=>nomatch z) h
 | @ins a C dx fs ea cl ha hn htk hm=>
  cases (show u=Value.ref a from rx)
  obtain ⟨mA,O,_⟩:=uV I.hok ea
  obtain ⟨od,J,_⟩:=O.look
  exact PySem.W.kia_one (PySem.W.kitx_own (cl.get _) cl.hd ha hn htk hm) I.kIn J e (fun z=>nomatch z) h
end
end L2
namespace L2
open PySem PySem.Spec PyProof.Rows
structure Room (k:Nat) (A:Around):Prop where
 hd:A.handled=none
 dp:A.depth+3*k+5<recursionLimit
 un:A.units+16*k+200<cLine
theorem Room.mono {j k:Nat} {A:Around} (r:Room k A) (h:j≤k):Room j A:=⟨r.hd,by have:=r.dp; omega,by have:=r.un; omega⟩
theorem Room.deeper {k:Nat} {A:Around} (r:Room (k+1) A) (env:Env):Room k (A.deeper env):=
 ⟨r.hd,by have:=r.dp; show A.depth+1+3*k+5<_; omega,by have:=r.un; show A.units+3+16*k+200<_; omega⟩
theorem Room.in1 {k:Nat} {A:Around} (r:Room (k+1) A):Room k A.in1:=
 ⟨r.hd,by have:=r.dp; show A.depth+3*k+5<_; omega,by have:=r.un; show A.units+1+16*k+200<_; omega⟩
theorem o5 {A:Around} {C:Addr} {us:List Value} {kw:List (Str × Value)}:(A.under (.builtin "type.__call__" ⟨.ref C::us,kw⟩)).depth=A.depth+1:=by
 first | rfl | simp [Around.under,Code.weight,Code.isCreation,Code.isGuard,Code.isCaller,Code.frames,Code.isFrame,guardIds]
theorem o3 {A:Around} {C:Addr} {us:List Value} {kw:List (Str × Value)}:(A.under (.builtin "type.__call__" ⟨.ref C::us,kw⟩)).units=A.units+1:=by
 first | rfl | simp [Around.under,Code.cUnits,Code.frames,Code.isFrame]
theorem Room.make {k:Nat} {A:Around} (r:Room (k+1) A) (C:Addr) (us:List Value) (kw:List (Str × Value)):Room k (A.under (.builtin "type.__call__" ⟨.ref C::us,kw⟩)):=
 ⟨r.hd,by have:=r.dp; rw [o5]; omega,by have:=r.un; rw [o3]; omega⟩
theorem Room.depth {k:Nat} {A:Around} (r:Room k A):A.depth<recursionLimit:=by have:=r.dp; omega
theorem Room.units {k:Nat} {A:Around} (r:Room k A):A.units+64<cLine:=by have:=r.un; omega
def X0:TA:=fun _ H Q=>Q [] H
def X5 (ta:TE) (tr:TA):TA:=fun σ H Q=>ta σ H fun x H1=>tr σ H1 fun xs H2=>Q (x::xs) H2
section
variable {X:Cx} {e:Expr} {es:List Expr} {te:TE} {t:TA} {pos:Pos}
theorem yA:PA X [] X0:=fun _ _ _ _ H Q I h=>Calls.spliced_nil ⟨[],H,I,.nil,h⟩
theorem zT (ha:PE X e te) (hr:PA X es t) (hs:starEach (e::es) X.env=(false,eval e X.env)::starEach es X.env:=by rfl):PA X (e::es) (X5 te t):=by
 intro pos pins s σ H Q I h
 rw [hs]
 show wpAny _ _ (spliced ((false,eval e X.env)::backTo pos (starEach es X.env))) _ _ s
 refine Calls.spliced_cons (thn (ha pins s σ H _ I h) fun u s1 ⟨x,H1,I1,r1,q1⟩=>?_)
 exact thn (hr pos pins s1 σ H1 _ I1 q1) fun us s2 ⟨xs,H2,I2,r2,q2⟩=>⟨x::xs,H2,I2,.cons r1 r2,q2⟩
def V4 (t:TA):TE:=fun σ H Q=>t σ H fun xs H1=>xs.length≤sizeLine∧∀ p,H1 p=none→Q (.ref p) (upd H1 p (.tup xs))
def V8 (t:TA):TE:=fun σ H Q=>t σ H fun xs H1=>xs.length≤sizeLine∧∀ p,H1 p=none→Q (.ref p) (upd H1 p (.lst xs))
theorem kj {x1} (h:PA X es t):PE X (.Tuple es x1 pos) (V4 t):=by
 intro pins s σ H Q I hq
 refine wpAny_Tuple_spliced (thn (h pos pins s σ H _ I hq) fun us s1 ⟨xs,H1,I1,r,z,q⟩=>⟨by rw [← r.length]; exact z,?_⟩)
 have hf:H1 s1.heap.objs.size=none:=I1.hok.fresh (Nat.le_refl _)
 refine ⟨.ref s1.heap.objs.size,upd H1 s1.heap.objs.size (.tup xs),I1.laid (t':=s1.toks) (fun b u e=>Heap.get?_push_of_some _ e) (Nat.le_refl _) ?_,rfl,q _ hf⟩
 exact ⟨z,us,r,⟨_,Heap.get?_push_size _ rfl,rfl,_,rfl⟩⟩
theorem kn (h:PA X es t):PE X (.List es pos) (V8 t):=by
 intro pins s σ H Q I hq
 refine wpAny_List_spliced (thn (h pos pins s σ H _ I hq) fun us s1 ⟨xs,H1,I1,r,z,q⟩=>⟨by rw [← r.length]; exact z,?_⟩)
 have hf:H1 s1.heap.objs.size=none:=I1.hok.fresh (Nat.le_refl _)
 refine ⟨.ref s1.heap.objs.size,upd H1 s1.heap.objs.size (.lst xs),I1.laid (t':=s1.toks) (fun b u e=>Heap.get?_push_of_some _ e) (Nat.le_refl _) ?_,rfl,q _ hf⟩
 exact ⟨z,us,0,r,Heap.get?_push_size _ rfl⟩
end
abbrev Sp:=List V→Hp→VK→XK→Prop
abbrev CXT:=List Env→Hp→Shared→XK→Value→Shared→Prop
structure Env0 (P:Program) (w:World) (K:PySem.W.Frag) (mg:Str→Option Value) (base:Heap) (A:Around) (outer:List Env) (s:Shared) (H:Hp):Prop where
 frames:A.frames=some outer
 mod:Mod K mg base
 bs:∀ b o,base.get? b=some o→s.heap.get? b=some o∧H b=none
 bsz:base.objs.size≤s.heap.objs.size
 funs:s.heap.FunFrames base outer
 frf:∀ b∈frs outer,H b=none
 hok:HOk P w H s.heap
 bare:AllBare s.gens
def CE (outer:List Env) (P:Program) (w:World) (H:Hp) (s:Shared) (Q:VK) (u:Value) (s':Shared):Prop:=
 ∃ v H',s'.os=s.os∧AllBare s'.gens∧Un (frs outer) [] H H' s.heap s'.heap∧HOk P w H' s'.heap∧RelV v u∧Q v H'
def CR (CX:CXT) (outer:List Env) (P:Program) (w:World) (H:Hp) (s:Shared) (Q:VK) (E:XK) (r:Result) (s':Shared):Prop:=
 match r with
 | .ok (.ret u)=>CE outer P w H s Q u s'
 | .ok _=>False
 | .error e=>CX outer H s E e s'
structure FnOk (P:Program) (w:World) (K:PySem.W.Frag) (mg:Str→Option Value) (base:Heap) (CX:CXT) (k:Nat) (f:Addr) (fd:FuncData) (ps:List Str) (sp:Sp):Prop where
 len:∀ vs H Q E,sp vs H Q E→vs.length=ps.length
 run:∀ (A:Around) (outer:List Env) (s:Shared) (H:Hp) (args:Args) (us:List Value) (vs:List V) (Q:VK) (E:XK),Room k A→Env0 P w K mg base A outer s H→BindsTo s fd args (ps.zip us)→Vals vs us→sp vs H Q E→
  codeAny (model P w) A (.call (.ref f) args) (CR CX outer P w H s Q E) s
theorem FnOk.mono {P:Program} {w:World} {K:PySem.W.Frag} {mg:Str→Option Value} {base:Heap} {CX:CXT} {j k:Nat} {f:Addr} {fd:FuncData} {ps:List Str} {sp:Sp} (F:FnOk P w K mg base CX j f fd ps sp) (h:j≤k):
  FnOk P w K mg base CX k f fd ps sp:=⟨F.len,fun A outer s H args us vs Q E hr=>F.run A outer s H args us vs Q E (hr.mono h)⟩
theorem FnOk.imp {P:Program} {w:World} {K:PySem.W.Frag} {mg:Str→Option Value} {base:Heap} {CX:CXT} {k:Nat} {f:Addr} {fd:FuncData} {ps:List Str} {sp sp':Sp} (F:FnOk P w K mg base CX k f fd ps sp)
  (h:∀ vs H Q E,sp' vs H Q E→sp vs H Q E):FnOk P w K mg base CX k f fd ps sp':=
 ⟨fun vs H Q E q=>F.len vs H Q E (h _ _ _ _ q),fun A outer s H args us vs Q E hr he hb hv hs=>F.run A outer s H args us vs Q E hr he hb hv (h _ _ _ _ hs)⟩
theorem Env0.make {P:Program} {w:World} {K:PySem.W.Frag} {mg:Str→Option Value} {base:Heap} {A:Around} {outer:List Env} {s:Shared} {H:Hp} (e:Env0 P w K mg base A outer s H) (C:Addr) (us:List Value) (kw:List (Str × Value)):
  Env0 P w K mg base (A.under (.builtin "type.__call__" ⟨.ref C::us,kw⟩)) outer s H:=⟨by first | exact e.frames | (simpa [Around.under,Code.envs,Code.isFrame,pushEnvs] using e.frames),e.mod,e.bs,e.bsz,e.funs,e.frf,e.hok,e.bare⟩
theorem Env0.in1 {P:Program} {w:World} {K:PySem.W.Frag} {mg:Str→Option Value} {base:Heap} {A:Around} {outer:List Env} {s:Shared} {H:Hp} (e:Env0 P w K mg base A outer s H):
  Env0 P w K mg base A.in1 outer s H:=⟨e.frames,e.mod,e.bs,e.bsz,e.funs,e.frf,e.hok,e.bare⟩
section
variable {X:Cx} {pins:List (Addr × Obj)} {σ:St} {H:Hp} {s s':Shared}
theorem Inv.env0 (I:Inv X pins σ H s):Env0 X.prog X.w X.K X.mg X.base X.A X.stack s H:=
 ⟨I.ok.frames,I.ok.mod,I.bs,Nat.le_trans I.ok.bsz I.sz,I.stack,I.stkFree,I.hok,I.bare⟩
theorem Inv.after {Q:VK} {u:Value} (I:Inv X pins σ H s) (h:CE X.stack X.prog X.w H s Q u s'):EP X pins σ Q u s':=by
 obtain ⟨v,H',os,bare,un,hok,r,q⟩:=h
 obtain ⟨hh,g,d,t,os'⟩:=s'
 obtain rfl:os'=s.os:=os
 exact ⟨v,H',I.call (h':=hh) (g':=g) (d':=d) (t':=t) (ch:=[]) un hok bare (fun b z=>absurd z (by simp)),r,q⟩
end
def X6 (sp:Sp) (dvs:List V) (E:XK) (t:TA):TE:=fun σ H Q=>t σ H fun vs H1=>sp (vs++dvs) H1 Q E
def X2 (C:Addr) (sp:Sp) (dvs:List V) (E:XK) (t:TA):TE:=fun σ H Q=>t σ H fun vs H1=>∀ x dx,H1 x=none→H1 dx=none→dx≠x→
 sp (.ref x::(vs++dvs)) (upd (upd H1 dx (.own x)) x (.ins C dx [])) (fun v H2=>v=.non∧Q (.ref x) H2) E
def Binds (K:PySem.W.Frag) (fd:FuncData) (ps:List Str) (ds:List Value):Prop:=
 ∀ (s:Shared) (us:List Value),K.In s.heap→(us++ds).length=ps.length→BindsTo s fd ⟨us,[]⟩ (ps.zip (us++ds))
theorem Binds.all {K:PySem.W.Frag} {fd:FuncData} {ps:List Str} (h:∀ us:List Value,us.length=ps.length→bindArgs fd ⟨us,[]⟩=pure (ps.zip us)):Binds K fd ps []:=fun s us _ hl=>by
 rw [List.append_nil] at hl ⊢
 exact .of_eq (h us hl)
def uA (CX:CXT) (X:Cx) (E:XK):Prop:=∀ (pins:List (Addr × Obj)) (σ:St) (H:Hp) (s:Shared) (e:Value) (s':Shared),Inv X pins σ H s→CX X.stack H s E e s'→X.xe e s'
section
variable {X:Cx} {CX:CXT} {k:Nat} {f C:Addr} {fd:FuncData} {ps:List Str} {sp:Sp} {dvs:List V} {ds:List Value} {E:XK} {x m:Str} {p pos apos:Pos} {e o:Expr} {es:List Expr} {ta:TE} {t:TA}
theorem oQ {pins:List (Addr × Obj)} {σ:St} {H:Hp} {s:Shared} {Q:VK} {us:List Value} {vs:List V} (F:FnOk X.prog X.w X.K X.mg X.base CX k f fd ps sp) (hr:Room k X.A) (hb:Binds X.K fd ps ds) (hd:Vals dvs ds) (hx:uA CX X E)
  (I:Inv X pins σ H s) (r:Vals vs us) (h:sp (vs++dvs) H Q E):wpAny (model X.prog X.w) X.A (call (.ref f) us) (EP X pins σ Q) X.xe s:=by
 have r2:Vals (vs++dvs) (us++ds):=r.append hd
 have hl:(us++ds).length=ps.length:=by rw [← r2.length]; exact F.len _ _ _ _ h
 refine wpAny_call (codeAny_mono (F.run X.A X.stack s H ⟨us,[]⟩ (us++ds) (vs++dvs) Q E hr I.env0 (hb s us I.kIn hl) r2 h) fun r s' hq=>?_)
 cases r with
 | error e=>exact hx pins σ H s e s' I hq
 | ok fl=>
  cases fl with
  | ret u=>exact I.after hq
  | next=>exact False.elim hq
  | brk=>exact False.elim hq
  | cont=>exact False.elim hq
theorem vt (F:FnOk X.prog X.w X.K X.mg X.base CX k f fd ps sp) (hr:Room k X.A) (hg:Gl X x) (hm:X.mg x=some (.ref f)) (hk:PySem.W.keepIn X.K (.ref f)=true) (hb:Binds X.K fd ps ds) (hd:Vals dvs ds) (hx:uA CX X E)
  (ha:PA X (e::es) t) (hdb:(x == ("__debug__":Str))=false:=by decide) (he:starEach (e::es) X.env=(false,eval e X.env)::starEach es X.env:=by rfl) (hpl:(backTo pos (starEach es X.env)).any (·.1)=false:=by rfl):
  PE X (.Call (.Name x p) (e::es) [] pos) (X6 sp dvs E t):=by
 intro pins s σ H Q I h
 refine wpAny_Call_Name_kw (wG I hg hm ?_ hdb)
 refine PySem.W.callWith_K (h₀:=X.base) I.ok.mod.kin hk (thn (ha pos pins s σ H _ I h) fun us s1 ⟨vs,H1,I1,r,q⟩=>⟨I1.kIn,?_⟩) he hpl
 exact oQ F hr hb hd hx I1 r q
structure Mk (K:PySem.W.Frag) (C f:Addr):Prop where
 makes:PySem.W.makesIn K C=true
 init:PySem.W.findIn K (.ref C) "__init__"=some (some (.ref f))
 fn:PySem.W.isFn K (.ref f)=true
 kp:PySem.W.keepIn K (.ref C)=true
theorem lY {pins:List (Addr × Obj)} {σ:St} {H:Hp} {s:Shared} {Q:VK} {us:List Value} {vs:List V} (M:Mk X.K C f) (F:FnOk X.prog X.w X.K X.mg X.base CX k f fd ps sp) (hr:Room (k+1) X.A) (hb:Binds X.K fd ps ds) (hd:Vals dvs ds)
  (hx:uA CX X E) (I:Inv X pins σ H s) (r:Vals vs us)
  (h:∀ x dx,H x=none→H dx=none→dx≠x→sp (.ref x::(vs++dvs)) (upd (upd H dx (.own x)) x (.ins C dx [])) (fun v H2=>v=.non∧Q (.ref x) H2) E):
  wpAny (model X.prog X.w) X.A (call (.ref C) us) (EP X pins σ Q) X.xe s:=by
 have hq:=h (s.heap.objs.size+1) s.heap.objs.size (I.hok.fresh (Nat.le_succ _)) (I.hok.fresh (Nat.le_refl _)) (Nat.ne_of_lt (Nat.lt_succ_self _))
 have I2:=Inv.made (C:=C) I
 have r2:Vals (V.ref (s.heap.objs.size+1)::(vs++dvs)) (Value.ref (s.heap.objs.size+1)::(us++ds)):=.cons rfl (r.append hd)
 have hl:(Value.ref (s.heap.objs.size+1)::us++ds).length=ps.length:=by
  have e:=r2.length
  rw [F.len _ _ _ _ hq] at e
  exact e.symm
 refine wpAny_call (jE (f:=f) I.kIn M.makes M.init (beq_iff_eq.mp M.fn) (codeAny_mono (F.run _ X.stack _ _ ⟨Value.ref (s.heap.objs.size+1)::us,[]⟩ (Value.ref (s.heap.objs.size+1)::(us++ds)) _ _ E (hr.make C us [])
  (I2.env0.make C us []) (hb _ (Value.ref (s.heap.objs.size+1)::us) I2.kIn hl) r2 hq) fun r s' hq'=>?_))
 cases r with
 | error e=>exact hx pins σ _ _ e s' I2 hq'
 | ok fl=>
  cases fl with
  | ret u=>
   obtain ⟨v,H',I3,rv,ev,q3⟩:=I2.after hq'
   subst ev
   exact ⟨rv,⟨V.ref (s.heap.objs.size+1),H',I3,rfl,q3⟩⟩
  | next=>exact False.elim hq'
  | brk=>exact False.elim hq'
  | cont=>exact False.elim hq'
theorem gj (M:Mk X.K C f) (F:FnOk X.prog X.w X.K X.mg X.base CX k f fd ps sp) (hr:Room (k+1) X.A) (hg:Gl X x) (hm:X.mg x=some (.ref C)) (hb:Binds X.K fd ps ds) (hd:Vals dvs ds) (hx:uA CX X E)
  (ha:PA X (e::es) t) (hdb:(x == ("__debug__":Str))=false:=by decide) (he:starEach (e::es) X.env=(false,eval e X.env)::starEach es X.env:=by rfl) (hpl:(backTo pos (starEach es X.env)).any (·.1)=false:=by rfl):
  PE X (.Call (.Name x p) (e::es) [] pos) (X2 C sp dvs E t):=by
 intro pins s σ H Q I h
 refine wpAny_Call_Name_kw (wG I hg hm ?_ hdb)
 refine PySem.W.callWith_K (h₀:=X.base) I.ok.mod.kin M.kp (thn (ha pos pins s σ H _ I h) fun us s1 ⟨vs,H1,I1,r,q⟩=>⟨I1.kIn,?_⟩) he hpl
 exact lY M F hr hb hd hx I1 r q
end
section
variable {X:Cx} {CX:CXT} {k:Nat} {f C:Addr} {fd:FuncData} {ps ks:List Str} {sp:Sp} {E:XK} {x m:Str} {p pos apos kpos:Pos} {e o:Expr} {es:List Expr} {kws:List Keyword} {te ta:TE} {t tk:TA} {nm:Option Str}
variable {g:List Value→List Value→List Value} {gV:List V→List V→List V}
end
structure zi (N P:List Str) (sc:Scope):Prop where
 kind:sc.kind=.function
 co:sc.isCoroutine=false
 gen:sc.isGenerator=false
 nd:N.Nodup
 pre:N.take P.length=P
 par:∀ x∈P,sc.names.lookup x=some .local∨sc.names.lookup x=some .cell
 nofree:∀ y∈sc.names,y.2≠.free
theorem rJ {kindOf:Str→Option NameKind} {x:Str}:∀ {binds:List (Str × Value)} {m:Str→Option Value},(∀ v,(x,v)∉binds)→bindL kindOf binds m x=m x
 | [],_,_=>rfl
 | (n,v)::r,m,h=>by
  unfold bindL
  rw [rJ fun w hw=>h w (List.mem_cons_of_mem _ hw)]
  split
  ·have:x≠n:=by rintro rfl; exact h v List.mem_cons_self
   simp [this]
  ·rfl
theorem rL {kindOf:Str→Option NameKind} {x:Str}:∀ {binds:List (Str × Value)} {m:Str→Option Value},(∀ v,(x,v)∉binds)→bindC kindOf binds m x=m x
 | [],_,_=>rfl
 | (n,v)::r,m,h=>by
  unfold bindC
  rw [rL fun w hw=>h w (List.mem_cons_of_mem _ hw)]
  split
  ·rfl
  ·have:x≠n:=by rintro rfl; exact h v List.mem_cons_self
   simp [this]
theorem rK {kindOf:Str→Option NameKind} {x:Str} {v:Value}:∀ {P:List Str} {vs:List Value} {i:Nat} {m:Str→Option Value},P.Nodup→P[i]? = some x→vs[i]? = some v→kindOf x=some .local→
  bindL kindOf (P.zip vs) m x=some v
 | [],_,_,_,_,h,_,_=>by simp at h
 | _::_,[],_,_,_,_,h,_=>by simp at h
 | p::P,w::vs,0,m,nd,h1,h2,hk=>by
  simp at h1 h2; subst h1; subst h2
  show bindL kindOf ((p,w)::P.zip vs) m p=_
  unfold bindL
  rw [rJ fun v hv=>(List.nodup_cons.mp nd).1 (List.of_mem_zip hv).1,if_pos hk]
  simp
 | p::P,w::vs,i+1,m,nd,h1,h2,hk=>by
  show bindL kindOf ((p,w)::P.zip vs) m x=_
  unfold bindL
  exact rK (i:=i) (List.nodup_cons.mp nd).2 (by simpa using h1) (by simpa using h2) hk
theorem rM {kindOf:Str→Option NameKind} {x:Str} {v:Value}:∀ {P:List Str} {vs:List Value} {i:Nat} {m:Str→Option Value},P.Nodup→P[i]? = some x→vs[i]? = some v→kindOf x≠some .local→
  bindC kindOf (P.zip vs) m x=some v
 | [],_,_,_,_,h,_,_=>by simp at h
 | _::_,[],_,_,_,_,h,_=>by simp at h
 | p::P,w::vs,0,m,nd,h1,h2,hk=>by
  simp at h1 h2; subst h1; subst h2
  show bindC kindOf ((p,w)::P.zip vs) m p=_
  unfold bindC
  rw [rL fun v hv=>(List.nodup_cons.mp nd).1 (List.of_mem_zip hv).1,if_neg hk]
  simp
 | p::P,w::vs,i+1,m,nd,h1,h2,hk=>by
  show bindC kindOf ((p,w)::P.zip vs) m x=_
  unfold bindC
  exact rM (i:=i) (List.nodup_cons.mp nd).2 (by simpa using h1) (by simpa using h2) hk
def start (N:List Str) (vs:List V):St:=vs.map some++List.replicate (N.length - vs.length) none
def yQ (CX:CXT) (P:Program) (w:World) (K:PySem.W.Frag) (mg:Str→Option Value) (base:Heap) (N:List Str) (qual:Str) (scope:Scope) (f:Addr) (cd:Value) (A:Around) (outer:List Env) (s:Shared) (H:Hp) (E:XK):Cx where
 prog:=P
 w:=w
 K:=K
 mg:=mg
 base:=base
 A:=A.deeper (envOfC qual scope s.heap.objs.size f cd)
 N:=N
 s₀:=s
 H₀:=H
 env:=envOfC qual scope s.heap.objs.size f cd
 outer:=outer
 stack:=envOfC qual scope s.heap.objs.size f cd::outer
 ex:=[]
 calm:=true
 fn:=fun _=>true
 pn:=[]
 xe:=fun e s'=>wpAny (model P w) (A.deeper (envOfC qual scope s.heap.objs.size f cd)) (leaving (envOfC qual scope s.heap.objs.size f cd) e) (fun _ s''=>CX outer H s E e s'') (fun e' s''=>CX outer H s E e' s'') s'
theorem su {sc:Scope} {n:Nat} {x:Str} (h:sc.names.lookup x=some .cell):∃ c,(cellsFrom n sc.names []).lookup x=some c:=by
 have q:=PySem.W.cellsFrom_some sc.names n [] (.inl h)
 exact Option.isSome_iff_exists.mp q
theorem lh {CX:CXT} {P:Program} {w:World} {K:PySem.W.Frag} {mg:Str→Option Value} {base:Heap} {N ps:List Str} {qual:Str} {scope:Scope} {f:Addr} {cd:Value} {A:Around} {outer:List Env} {s s1:Shared} {H:Hp} {E:XK} {us:List Value} {vs:List V}
  (S:zi N ps scope) (hd:A.handled=none) (e0:Env0 P w K mg base A outer s H) (hl:vs.length=ps.length) (r:Vals vs us)
  (x:InCallC s s.heap.objs.size (bindL (envOfC qual scope s.heap.objs.size f cd).kindOf (ps.zip us) fun _=>none) (cellsFrom (s.heap.objs.size+1) scope.names []) (bindC (envOfC qual scope s.heap.objs.size f cd).kindOf (ps.zip us) fun _=>none) s1):
  Inv (yQ CX P w K mg base N qual scope f cd A outer s H E) [] (start N vs) H s1:=by
 have hpl:ps.length≤N.length:=by have:=congrArg List.length S.pre; rw [List.length_take] at this; omega
 obtain ⟨h1,tk,rfl,hk⟩:=x.done
 have noA:∀ b:Addr,b∉(yQ CX P w K mg base N qual scope f cd A outer s H E).ex:=fun b z=>absurd (show b∈([]:List Addr) from z) (by simp)
 refine ⟨⟨e0.mod,S.kind,rfl,rfl,Nat.le_refl _,fun y z c h1 h2=>?_,fun y hy=>?_,fun y c _ h=>?_,fun _=>hd,Around.frames_deeper e0.frames,.inr ⟨rfl,rfl⟩,fun b z=>absurd z (noA b),e0.bs,e0.bsz,fun b _ _=>noA b,fun b z=>absurd z (noA b),e0.funs,e0.frf⟩,
  rfl,e0.bare,Un.kept hk,⟨_,x.toInCall.ns,fun i y v h1 h2 h3=>?_⟩,fun y c h=>⟨_,x.cell y c h⟩,e0.hok.fresh (Nat.le_refl _),fun y c h=>?_,fun p hp=>absurd (show p∈([]:List (Addr × Obj)) from hp) (by simp),e0.hok.kept hk,?_⟩
 ·exact name_of_addr x.apart (PySem.mem_of_lookup h1) (PySem.mem_of_lookup h2)
 ·have hy:scope.names.lookup y=some .cell∨scope.names.lookup y=some .free:=hy
  rcases hy with hy | hy
  ·exact su hy
  ·exact absurd rfl (S.nofree _ (PySem.mem_of_lookup hy))
 ·exact Nat.le_of_lt (x.above y c (PySem.mem_of_lookup h))
 ·have hi:i<vs.length:=by
   unfold start at h2
   by_cases hi:i<vs.length
   ·exact hi
   ·rw [List.getElem?_append_right (by simpa using hi)] at h2
    rw [List.getElem?_replicate] at h2
    split at h2 <;> cases h2
  have ha:vs[i]? = some v:=by
   unfold start at h2
   rw [List.getElem?_append_left (by simpa using hi),List.getElem?_map] at h2
   cases e:vs[i]? with
   | none=>rw [e] at h2; cases h2
   | some a=>rw [e] at h2; cases h2; rfl
  obtain ⟨u,hu,rv⟩:=r.get ha
  have hp:ps[i]? = some y:=by
   rw [← S.pre,List.getElem?_take_of_lt (by omega)]; exact h1
  have ndP:ps.Nodup:=by rw [← S.pre]; exact S.nd.sublist (List.take_sublist _ _)
  refine ⟨u,rv,?_⟩
  rcases S.par y (List.mem_of_getElem? hp) with k | k
  ·exact .inl ⟨k,rK ndP hp hu k⟩
  ·obtain ⟨c,e⟩:=su (n:=s.heap.objs.size+1) k
   refine .inr ⟨.inl k,c,e,?_⟩
   have q:=x.cell y c e
   rw [rM ndP hp hu (by show scope.names.lookup y≠_; rw [k]; decide)] at q
   exact q
 ·exact e0.hok.fresh (Nat.le_of_lt (x.above y c (PySem.mem_of_lookup h)))
 ·unfold start
  show _=N.length
  rw [List.length_append,List.length_map,List.length_replicate]
  omega
theorem cH {CX:CXT} {P:Program} {w:World} {K:PySem.W.Frag} {mg:Str→Option Value} {base:Heap} {k:Nat} {f:Addr} {name qual:Str} {params:Arguments} {body:List Stmt} {scope:Scope} {dV kV doc pm cdv ct oc:Value} {an od:Option Addr}
  {osl:Array (Option Value)} {N ps:List Str} {sp:Sp} (lk:K.lookup f=some ⟨oc,od,.func (PySem.W.fnOf name qual params body scope dV kV doc pm an cdv ct),osl⟩) (hcd:PySem.W.codeIn K cdv qual=true) (S:zi N ps scope)
  (len:∀ vs H Q E,sp vs H Q E→vs.length=ps.length)
  (hbody:∀ (A:Around) (outer:List Env) (s:Shared) (H:Hp) (vs:List V) (Q:VK) (E:XK),Room k (A.deeper (envOfC qual scope s.heap.objs.size f cdv))→sp vs H Q E→
   ∃ t,PSs (yQ CX P w K mg base N qual scope f cdv A outer s H E) body t∧t { nx:=fun _ H'=>Q .non H',rt:=Q } (start N vs) H):
  FnOk P w K mg base CX (k+1) f (PySem.W.fnOf name qual params body scope dV kV doc pm an cdv ct) ps sp:=by
 refine ⟨len,fun A outer s H args us vs Q E hr e0 hb r hsp=>?_⟩
 have hl:=len _ _ _ _ hsp
 have KX:K.In s.heap:=e0.mod.kin.keeps fun b o e=>(e0.bs b o e).1
 have lim:s.heap.NoLimit:=e0.mod.nolimit.keeps fun b o e=>(e0.bs b o e).1
 have hkind:∀ y∈ps.zip us,scope.names.lookup y.1=some .local∨(scope.names.lookup y.1=some .cell∧((cellsFrom (s.heap.objs.size+1) scope.names []).lookup y.1).isSome=true):=fun ⟨n,v⟩ hy=>by
  rcases S.par n (List.of_mem_zip hy).1 with q | q
  ·exact .inl q
  ·exact .inr ⟨q,PySem.W.cellsFrom_some _ _ _ (.inl q)⟩
 refine codeAny_call_function hr.depth (KX _ _ lk) rfl S.co S.gen rfl (PySem.W.codeRec_of KX hcd) (hb _ _ _ _ ?_)
 refine wpAny_newFunctionEnv_cells S.kind hkind fun env he s1 x=>?_
 subst he
 refine ⟨lim.keeps x.toInCall.keep,codeAny_func ?_⟩
 obtain ⟨t,ht,hq⟩:=hbody A outer s H vs Q E (hr.deeper _) hsp
 have I:Inv (yQ CX P w K mg base N qual scope f cdv A outer s H E) [] (start N vs) H s1:=lh S hr.hd e0 hl r x
 refine wpAny_mono (ht [] s1 (start N vs) H _ I hq) (fun fl s' hs=>?_) fun e s' hs=>hs
 have fin:∀ {σ':St} {H':Hp} {v:V} {u:Value},Inv (yQ CX P w K mg base N qual scope f cdv A outer s H E) [] σ' H' s'→RelV v u→Q v H'→CE outer P w H s Q u s':=
  fun {σ' H' v u} J rv q=>⟨v,H',J.os,J.bare,J.base,J.hok,rv,q⟩
 cases fl with
 | ret u=>
  obtain ⟨v,σ',H',J,rv,q⟩:=hs
  exact fin J rv q
 | next=>
  obtain ⟨σ',H',J,q⟩:=hs
  exact fin (v:=V.non) (u:=Value.none) J rfl q
 | brk=>
  obtain ⟨_,_,_,q⟩:=hs
  exact False.elim q
 | cont=>
  obtain ⟨_,_,_,q⟩:=hs
  exact False.elim q
end L2
namespace L2
open PySem PySem.Spec PyProof.Rows
section
variable {X:Cx} {x:Str} {p pos:Pos} {e:Expr} {es:List Expr} {t:TA} {id T:String} {r:List V→Hp→VK→Prop}
def tCB (r:List V→Hp→VK→Prop) (t:TA):TE:=fun σ H Q=>t σ H fun vs H1=>r vs H1 Q
theorem xc (hc:CallR X (.builtin id) r) (hg:Gl X x) (hm:X.mg x=none) (hv:bootBuiltins x=some (.builtin id)) (ha:PA X (e::es) t) (hn:x≠"__name__":=by decide) (hdb:(x == ("__debug__":Str))=false:=by decide)
  (he:starEach (e::es) X.env=(false,eval e X.env)::starEach es X.env:=by rfl) (hpl:(backTo pos (starEach es X.env)).any (·.1)=false:=by rfl):PE X (.Call (.Name x p) (e::es) [] pos) (tCB r t):=by
 intro pins s σ H Q I h
 refine wpAny_Call_Name_kw (xX I hg hm hv ?_ hn hdb)
 exact PyProof.Rows.callWith_builtin1 (thn (ha pos pins s σ H _ I h) fun us s1 ⟨vs,H1,I1,r1,q1⟩=>hc pins s1 σ H1 vs us Q I1 r1 q1) he hpl
theorem m6 (hc:CallR X (.type T) r) (hg:Gl X x) (hm:X.mg x=none) (hv:bootBuiltins x=some (.type T)) (ha:PA X (e::es) t) (hn:x≠"__name__":=by decide) (hdb:(x == ("__debug__":Str))=false:=by decide)
  (he:starEach (e::es) X.env=(false,eval e X.env)::starEach es X.env:=by rfl) (hpl:(backTo pos (starEach es X.env)).any (·.1)=false:=by rfl):PE X (.Call (.Name x p) (e::es) [] pos) (tCB r t):=by
 intro pins s σ H Q I h
 refine wpAny_Call_Name_kw (xX I hg hm hv ?_ hn hdb)
 exact PyProof.Rows.callWith_type1 (thn (ha pos pins s σ H _ I h) fun us s1 ⟨vs,H1,I1,r1,q1⟩=>hc pins s1 σ H1 vs us Q I1 r1 q1) he hpl
end
end L2
namespace HT
open PySem PyProof.Rows
section
open PySem.SeqAt
open PySem.AutoSeq1 (wpAny_loadPart')
open PySem.MeetsSeq PySem.MeetsSeq2 PySem.MeetsSeq3
end
section
variable {prog:Program} {w:World} {A:Around} {E:Value→Shared→Prop} {s:Shared}
def sIx (n d:Nat):Option Int→Nat
 | none=>d
 | some v=>if v<0 then (v+(n:Int)).toNat else min v.toNat n
theorem sIx_nat (n d k:Nat):sIx n d (some (k:Int))=min k n:=by
 show (if (k:Int)<0 then ((k:Int)+(n:Int)).toNat else min (k:Int).toNat n)=min k n
 rw [if_neg (by omega),Int.toNat_natCast]
end
end HT
namespace L2
open PySem PySem.Spec PyProof.Rows
abbrev TO:=St→Hp→(Option Int→Hp→Prop)→Prop
def PO (X:Cx) (e:Option Expr) (t:TO):Prop:=
 ∀ (pins:List (Addr × Obj)) (s:Shared) (σ:St) (H:Hp) (Q:Option Int→Hp→Prop),Inv X pins σ H s→t σ H Q→
  wpAny (model X.prog X.w) X.A (evalPart e X.env) (fun u s'=>∃ o H',Inv X pins σ H' s'∧IsPart u o∧Q o H') X.xe s
def i7:TO:=fun _ H Q=>Q none H
def XX (t:TE):TO:=fun σ H Q=>t σ H fun x H1=>∃ i,x=.int i∧Q (some i) H1
section
variable {X:Cx} {e:Expr} {te:TE} {lo hi:Option Expr} {tl th:TO} {pos p2:Pos}
theorem gg:PO X none i7:=by
 intro pins s σ H Q I h
 rw [evalPart_none]
 exact wpAny_pure ⟨none,H,I,.none,h⟩
theorem gf (h:PE X e te):PO X (some e) (XX te):=by
 intro pins s σ H Q I hw
 rw [evalPart_some]
 refine thn (h pins s σ H _ I hw) fun u s1 ⟨x,H1,I1,r1,q1⟩=>?_
 obtain ⟨i,rfl,q⟩:=q1
 obtain ⟨t,rfl⟩:=r1
 exact ⟨some i,H1,I1,.int i t,q⟩
def SlR (X:Cx) (r:V→Option Int→Option Int→Hp→VK→Prop):Prop:=
 ∀ (pins:List (Addr × Obj)) (s:Shared) (σ:St) (H:Hp) (x:V) (v vl vu:Value) (lo hi:Option Int) (sl:Addr) (Q:VK),Inv X pins σ H s→RelV x v→s.heap.IsSliceOf sl vl vu .none→IsPart vl lo→IsPart vu hi→r x lo hi H Q→
  ∃ T id,typeLookup (.type T) "__getitem__"=pure (some (.builtin id))∧s.TypeIs v T∧wpAny (model X.prog X.w) X.A (getItem v (.ref sl)) (EP X pins σ Q) X.xe s
theorem SlR.or {r r':V→Option Int→Option Int→Hp→VK→Prop} (h:SlR X r) (h':SlR X r'):SlR X (fun x lo hi H Q=>r x lo hi H Q∨r' x lo hi H Q):=by
 intro pins s σ H x v vl vu lo hi sl Q I rx hs pl pu q
 rcases q with q | q
 ·exact h pins s σ H x v vl vu lo hi sl Q I rx hs pl pu q
 ·exact h' pins s σ H x v vl vu lo hi sl Q I rx hs pl pu q
def tSl (r:V→Option Int→Option Int→Hp→VK→Prop) (te:TE) (tl th:TO):TE:=fun σ H Q=>te σ H fun x H1=>tl σ H1 fun l H2=>th σ H2 fun u H3=>r x l u H3 Q
theorem kl {r:V→Option Int→Option Int→Hp→VK→Prop} (hr:SlR X r) (he:PE X e te) (hl:PO X lo tl) (hu:PO X hi th):PE X (.Subscript e (.Slice lo hi none p2) pos) (tSl r te tl th):=by
 intro pins s σ H Q I h
 refine Subscript_ (thn (he pins s σ H _ I h) fun v s1 ⟨x,H1,I1,r1,q1⟩=>?_)
 refine wpAny_Slice (thn (hl pins s1 σ H1 _ I1 q1) fun vl s2 ⟨l,H2,I2,pl,q2⟩=>thn (hu pins s2 σ H2 _ I2 q2) fun vu s3 ⟨u,H3,I3,pu,q3⟩=>?_)
 rw [evalPart_none]
 refine wpAny_pure ?_
 have I4:Inv X pins σ H3 { s3 with heap:=s3.heap.push { cls:=.type "slice",data:=.fields #[vl,vu,.none] } }:=I3.kept (t':=s3.toks) fun b ob q=>Heap.get?_push_of_some _ q
 obtain ⟨T,id,hT,ht,hg⟩:=hr pins { s3 with heap:=s3.heap.push { cls:=.type "slice",data:=.fields #[vl,vu,.none] } } σ H3 x v vl vu l u s3.heap.objs.size Q I4 r1 (Heap.IsSliceOf.new ..) pl pu q3
 show wpAny (model X.prog X.w) X.A (subscriptTail e (.Slice lo hi none p2) v (.ref s3.heap.objs.size)) (EP X pins σ Q) X.xe { s3 with heap:=s3.heap.push { cls:=.type "slice",data:=.fields #[vl,vu,.none] } }
 exact tail_any (ops:=[.ref s3.heap.objs.size,v]) ht hT hg (by with_unfolding_all rfl)
def nB (xs:List V) (lo hi:Option Int):List V:=(xs.drop (HT.sIx xs.length 0 lo)).take (HT.sIx xs.length xs.length hi - HT.sIx xs.length 0 lo)
theorem oj (xs:List V) (lo hi:Option Int):(nB xs lo hi).length≤xs.length:=by
 unfold nB
 rw [List.length_take,List.length_drop]
 omega
end
end L2
namespace L2
open PySem PySem.Spec PyProof.Rows
def ixN (n:Nat) (i:Int):Option Nat:=if 0≤i then (if i<n then some i.toNat else none) else if -(n:Int)≤i then some (i+n).toNat else none
def atI {α:Type} (xs:List α) (i:Int):Option α:=(ixN xs.length i).bind fun j=>xs[j]?
theorem n_ {n:Nat} {i:Int} {j:Nat} (h:ixN n i=some j):seqIndex? i n=some j∧j<n∧-(n:Int)≤i∧i<n:=by
 unfold ixN at h
 by_cases h0:0≤i
 ·rw [if_pos h0] at h
  by_cases h1:i<n
  ·rw [if_pos h1] at h
   have e:i.toNat=j:=Option.some.inj h
   exact ⟨by rw [seqIndex_of h0 h1,e],by omega,by omega,h1⟩
  ·rw [if_neg h1] at h; cases h
 ·rw [if_neg h0] at h
  by_cases h1:-(n:Int)≤i
  ·rw [if_pos h1] at h
   have e:(i+n).toNat=j:=Option.some.inj h
   exact ⟨by rw [seqIndex_neg (by omega) h1,e],by omega,h1,by omega⟩
  ·rw [if_neg h1] at h; cases h
theorem qO {α:Type} {xs:List α} {i:Int} {v:α} (h:atI xs i=some v):∃ j,seqIndex? i xs.length=some j∧xs[j]? = some v∧j<xs.length∧-(xs.length:Int)≤i∧i<xs.length:=by
 unfold atI at h
 cases e:ixN xs.length i with
 | none=>rw [e] at h; cases h
 | some j=>
  rw [e] at h
  obtain ⟨h1,h2,h3,h4⟩:=n_ e
  exact ⟨j,h1,h,h2,h3,h4⟩
theorem u8 {α:Type} {xs:List α} {j:Nat} {v:α} (h:xs[j]? = some v):atI xs (j:Int)=some v:=by
 have hj:j<xs.length:=(List.getElem?_eq_some_iff.mp h).1
 have e:ixN xs.length (j:Int)=some j:=by
  unfold ixN
  rw [if_pos (by omega),if_pos (by omega)]; simp
 unfold atI; rw [e]; exact h
theorem vT {α:Type} (xs:List α) (v:α):atI (xs++[v]) (-1)=some v:=by
 have hl:(xs++[v]).length=xs.length+1:=by simp
 have e:ixN (xs++[v]).length (-1)=some xs.length:=by
  unfold ixN
  rw [hl,if_neg (by decide),if_pos (by omega)]
  congr 1
  omega
 unfold atI
 rw [e]
 show (xs++[v])[xs.length]? = some v
 simp
def tj (b:Expr):Prop:=∀ o i,subscripted b false o i=operate [o,i] (getItem o i)
def IxR (X:Cx) (r:R2):Prop:=
 ∀ (value slice:Expr) (pins:List (Addr × Obj)) (s:Shared) (σ:St) (H:Hp) (x y:V) (v u:Value) (Q:VK),Inv X pins σ H s→RelV x v→RelV y u→r x y H Q→
  subscripted slice false v u=operate [v,u] (getItem v u)→wpAny (model X.prog X.w) X.A (subscriptTail value slice v u) (EP X pins σ Q) X.xe s
def MtR (X:Cx) (id:String) (r:V→List V→Hp→VK→Prop):Prop:=
 ∀ (pins:List (Addr × Obj)) (s:Shared) (σ:St) (H:Hp) (x:V) (xs:List V) (v:Value) (us:List Value) (Q:VK),Inv X pins σ H s→RelV x v→Vals xs us→r x xs H Q→
  wpAny (model X.prog X.w) X.A (call (.builtin id) (v::us)) (EP X pins σ Q) X.xe s
section
variable {X:Cx} {a b:Expr} {ta tb:TE} {pos:Pos}
theorem IxR.or {r r':R2} (h:IxR X r) (h':IxR X r'):IxR X (fun x y H Q=>r x y H Q∨r' x y H Q):=by
 intro value slice pins s σ H x y v u Q I rx ry q hs
 rcases q with q | q
 ·exact h value slice pins s σ H x y v u Q I rx ry q hs
 ·exact h' value slice pins s σ H x y v u Q I rx ry q hs
theorem MtR.or {id:String} {r r':V→List V→Hp→VK→Prop} (h:MtR X id r) (h':MtR X id r'):MtR X id (fun x xs H Q=>r x xs H Q∨r' x xs H Q):=by
 intro pins s σ H x xs v us Q I rx rs q
 rcases q with q | q
 ·exact h pins s σ H x xs v us Q I rx rs q
 ·exact h' pins s σ H x xs v us Q I rx rs q
theorem ko {r:R2} (hr:IxR X r) (ha:PE X a ta) (hb:PE X b tb) (hs:tj b):PE X (.Subscript a b pos) (tOp r ta tb):=by
 intro pins s σ H Q I h
 exact Subscript_ (XN ha hb I h fun v u s2 x y H2 I2 rx ry q=>hr a b pins s2 σ H2 x y v u Q I2 rx ry q (hs _ _))
def Wc (K:PySem.W.Frag):R2:=fun x y H Q=>∃ p xs i v,x=.ref p∧y=.int i∧SqL K H p xs∧atI xs i=some v∧Q v H
def Wa (K:PySem.W.Frag):R2:=fun x y H Q=>∃ p xs i v,x=.ref p∧y=.int i∧SqT K H p xs∧atI xs i=some v∧Q v H
def Wb:R2:=fun x y H Q=>∃ z i c,x=.str z∧y=.int i∧z.length≤sizeLine∧atI z.cps.toList i=some c∧Q (.str ⟨#[c]⟩) H
theorem ix_list:IxR X (Wc X.K):=by
 intro value slice pins s σ H x y v u Q I rx ry h hs
 obtain ⟨p,xs,i,z,rfl,rfl,hq,he,q⟩:=h
 cases rx
 obtain ⟨t,rfl⟩:=ry
 obtain ⟨its,r,pl,hz⟩:=I.list hq
 obtain ⟨j,h1,h2,h3,h4,h5⟩:=qO he
 obtain ⟨w,ew,rw'⟩:=r.get h2
 have hl:=r.length
 have hn:=uk
 have fin:EP X pins σ Q w s:=⟨z,H,I,rw',q⟩
 by_cases h0:0≤i
 ·have hj:i.toNat=j:=by
   rw [seqIndex_of h0 h5] at h1
   exact Option.some.inj h1
  exact item_listR pl.isList h0 (by omega) (by rw [hj]; simpa using ew) fin hs
 ·have hj:(i+(its.toArray.size:Int)).toNat=j:=by
   rw [seqIndex_neg (by omega) h4] at h1
   rw [List.size_toArray,← hl]
   exact Option.some.inj h1
  exact subscriptTail_builtinR (x:=w) pl.isList.typeIs slot_list_getitem.lookup
   (wpAny_getItem_list_neg (Q:=fun r s'=>r=w∧EP X pins σ Q r s') pl.isList (by omega) (by rw [List.size_toArray] <;> omega) (by omega) (by rw [hj]; simpa using ew) ⟨rfl,fin⟩) hs
theorem ix_tup:IxR X (Wa X.K):=by
 intro value slice pins s σ H x y v u Q I rx ry h hs
 obtain ⟨p,xs,i,z,rfl,rfl,hq,he,q⟩:=h
 cases rx
 obtain ⟨t,rfl⟩:=ry
 obtain ⟨its,r,pl,hz⟩:=I.tuple hq
 obtain ⟨j,h1,h2,h3,h4,h5⟩:=qO he
 obtain ⟨w,ew,rw'⟩:=r.get h2
 have hl:=r.length
 have hn:=uk
 have fin:EP X pins σ Q w s:=⟨z,H,I,rw',q⟩
 exact subscriptTail_builtinR (x:=w) pl.typeIs slot_tuple_getitem.lookup
  (getItem_tuple (j:=j) (Q:=fun r s'=>r=w∧EP X pins σ Q r s') pl (by omega) (by omega) (by rw [List.size_toArray,← hl]; exact h1) (by simpa using ew) ⟨rfl,fin⟩) hs
theorem Xf:IxR X Wb:=by
 intro value slice pins s σ H x y v u Q I rx ry h hs
 obtain ⟨z,i,c,rfl,rfl,hz,he,q⟩:=h
 obtain ⟨t,rfl⟩:=rx
 obtain ⟨t',rfl⟩:=ry
 obtain ⟨j,h1,h2,h3,h4,h5⟩:=qO he
 have hl:z.cps.toList.length=z.length:=by simp [Str.length]
 rw [hl] at h1 h4 h5
 have hn:=uk
 exact tail_any (typeIs_str s z t) slot_str_getitem.lookup (getItem_str (c:=c) (by
  have e1:decide (i < -(2 ^ 63:Int))=false:=decide_eq_false (by omega)
  have e2:decide (i ≥ 2 ^ 63)=false:=decide_eq_false (by omega)
  rw [e1,e2,Bool.or_false]) (by rw [h1]; simpa using h2) ⟨.str ⟨#[c]⟩,H,I.tok _,⟨_,rfl⟩,q⟩) hs
def rIx (K:PySem.W.Frag):R2:=fun x y H Q=>Wc K x y H Q∨Wa K x y H Q∨Wb x y H Q
theorem jL:IxR X (rIx X.K):=ix_list.or (ix_tup.or Xf)
theorem o0 (its:List Value) (n j:Nat) (u:Value):Obj.mapSeq (·.setIfInBounds j u) { cls:=.type "list",data:=.seq its.toArray n }={ cls:=.type "list",data:=.seq (its.set j u).toArray n }:=by
 simp [Obj.mapSeq]
theorem Inv.lst {pins:List (Addr × Obj)} {σ:St} {H:Hp} {s:Shared} {p:Addr} {xs:List V} (I:Inv X pins σ H s) (h:H p=some (.lst xs)):
  ∃ (its:List Value) (n:Nat),Vals xs its∧s.heap.get? p=some { cls:=.type "list",data:=.seq its.toArray n }∧xs.length≤sizeLine:=by
 obtain ⟨z,its,n,r,e⟩:=I.hok p _ h
 exact ⟨its,n,r,e,z⟩
theorem Inv.lstUpd {pins:List (Addr × Obj)} {σ:St} {H:Hp} {s:Shared} {p:Addr} {xs ys:List V} {its its':List Value} {n n':Nat} {f:Obj→Obj} (I:Inv X pins σ H s) (h:H p=some (.lst xs))
  (ho:s.heap.get? p=some { cls:=.type "list",data:=.seq its.toArray n }) (hf:f { cls:=.type "list",data:=.seq its.toArray n }={ cls:=.type "list",data:=.seq its'.toArray n' }) (r:Vals ys its') (hz:ys.length≤sizeLine) (t:Nat):
  Inv X pins σ (upd H p (.lst ys)) { s with heap:=s.heap.update p f,toks:=t }:=by
 have e:(s.heap.update p f).get? p=some { cls:=.type "list",data:=.seq its'.toArray n' }:=by
  rw [Heap.get?_update_self f ho (by rw [hf] <;> rfl),hf]
 refine I.write (x:=p) (e:=p) (by rw [h]; trivial) (.inl rfl) (fun b u hb q=>(Heap.get?_update_other _ _ (Ne.symm hb)).trans q) ⟨_,e⟩ ?_
 exact ⟨hz,its',n',r,e⟩
def X_:V→V→V→Hp→(Hp→Prop)→Prop:=fun o i v H Q=>∃ p xs k j,o=.ref p∧i=.int k∧H p=some (.lst xs)∧ixN xs.length k=some j∧Q (upd H p (.lst (xs.set j v)))
theorem lS:V2 X X_:=by
 intro pins s σ H o i v ov iv u Q I ro ri rv h
 obtain ⟨p,xs,k,j,rfl,rfl,hp,hj,q⟩:=h
 cases ro
 obtain ⟨t,rfl⟩:=ri
 obtain ⟨its,n,r,ho,hz⟩:=I.lst hp
 obtain ⟨h1,h2,h3,h4⟩:=n_ hj
 have hl:=r.length
 have hn:=uk
 have I':Inv X pins σ (upd H p (.lst (xs.set j v))) { s with heap:=s.heap.update p (Obj.mapSeq (·.setIfInBounds j u)) }:=
  I.lstUpd hp ho (o0 its n j u) (r.set rv j) (by rw [List.length_set]; exact hz) s.toks
 by_cases h0:0≤k
 ·have hk:k.toNat=j:=by
   rw [seqIndex_of h0 h4] at h1
   exact Option.some.inj h1
  exact PySem.W.ki_setAt ho h0 (by omega) (by rw [List.size_toArray,← hl]; exact h4) (by rw [hk]; exact ⟨_,I',q⟩)
 ·have hk:(k+(its.toArray.size:Int)).toNat=j:=by
   rw [seqIndex_neg (by omega) h3] at h1
   rw [List.size_toArray,← hl]
   exact Option.some.inj h1
  exact PySem.W.ki_setBack ho (by omega) (by rw [List.size_toArray,← hl]; exact h3) (by omega) (by rw [hk]; exact ⟨_,I',q⟩)
theorem rS (lo hi:Option Int) (n:Nat):(sliceBounds lo hi none n).1=((HT.sIx n 0 lo:Nat):Int)∧(sliceBounds lo hi none n).2.1=((HT.sIx n n hi:Nat):Int)∧(sliceBounds lo hi none n).2.2=1:=by
 refine ⟨?_,?_,rfl⟩
 ·cases lo with
  | none=>simp [sliceBounds,HT.sIx]
  | some i=>
   simp only [sliceBounds,HT.sIx,Option.getD_none,show (1:Int)>0 by decide,if_true]
   by_cases h:i<0
   ·simp only [h,if_true] <;> omega
   ·simp only [h,if_false] <;> omega
 ·cases hi with
  | none=>simp [sliceBounds,HT.sIx]
  | some i=>
   simp only [sliceBounds,HT.sIx,Option.getD_none,show (1:Int)>0 by decide,if_true]
   by_cases h:i<0
   ·simp only [h,if_true] <;> omega
   ·simp only [h,if_false] <;> omega
theorem sB (its:List Value) (lo hi:Option Int):slicePick its.toArray lo hi none=((its.drop (HT.sIx its.length 0 lo)).take (HT.sIx its.length its.length hi - HT.sIx its.length 0 lo)).toArray:=by
 obtain ⟨h1,h2,h3⟩:=rS lo hi its.toArray.size
 unfold slicePick
 rw [h1,h2,h3]
 simp only [sliceRange_one,pick_run,List.size_toArray] <;> rfl
def Ue (K:PySem.W.Frag):V→Option Int→Option Int→Hp→VK→Prop:=fun x lo hi H Q=>∃ a xs,x=.ref a∧SqL K H a xs∧∀ p,H p=none→Q (.ref p) (upd H p (.lst (nB xs lo hi)))
theorem i9:SlR X (Ue X.K):=by
 intro pins s σ H x v vl vu lo hi sl Q I rx hs pl pu h
 obtain ⟨a,xs,rfl,hx,q⟩:=h
 cases rx
 obtain ⟨its,r,ht,hz⟩:=I.list hx
 have hlen:=r.length
 refine ⟨"list",_,slot_list_getitem.lookup,ht.isList.typeIs,?_⟩
 refine wpAny_getItem_list_slice ht.isList hs pl pu .none (by simp) ?_ (by rw [List.size_toArray] <;> omega)
 rw [sB,← hlen]
 refine ⟨.ref s.heap.objs.size,_,I.laid (t':=s.toks) (o:=.lst (nB xs lo hi)) (fun b ob q=>Heap.get?_push_of_some _ q) (Nat.le_refl _) ?_,rfl,q _ (I.hok.fresh (Nat.le_refl _))⟩
 exact ⟨Nat.le_trans (oj xs lo hi) hz,_,0,(r.drop (HT.sIx xs.length 0 lo)).take (HT.sIx xs.length xs.length hi - HT.sIx xs.length 0 lo),Heap.get?_push_size _ rfl⟩
def mj:V→Bool
 | .non=>true
 | .bl _=>true
 | .int _=>true
 | .str _=>true
 | _=>false
def eqV:V→V→Bool
 | .non,.non=>true
 | .bl a,.bl b=>a == b
 | .bl a,.int b=>(if a then 1 else 0) == b
 | .int a,.bl b=>a == (if b then 1 else 0)
 | .int a,.int b=>a == b
 | .str a,.str b=>a == b
 | _,_=>false
theorem j5 {A:Around} {s:Shared} {y x:V} {u v:Value} (ry:RelV y u) (rx:RelV x v) (fy:mj y=true) (fx:mj x=true):SeqAt.EqAt A s u v (eqV y x):=by
 cases y with
 | non=>
  cases ry
  cases x with
  | non=>cases rx; exact SeqAt.EqAt.same _
  | bl b=>cases rx; exact SeqAt.EqAt.none_bool b
  | int b=>obtain ⟨t,rfl⟩:=rx; exact SeqAt.EqAt.none_int b t
  | str b=>obtain ⟨t,rfl⟩:=rx; exact SeqAt.EqAt.none_str b t
  | _=>exact absurd (show false=true from fx) Bool.false_ne_true
 | bl a=>
  cases ry
  cases x with
  | non=>cases rx; exact SeqAt.EqAt.bool_none a
  | bl b=>cases rx; exact SeqAt.EqAt.bool_bool a b
  | int b=>obtain ⟨t,rfl⟩:=rx; exact SeqAt.EqAt.bool_int a b t
  | str b=>obtain ⟨t,rfl⟩:=rx; exact SeqAt.EqAt.bool_str a b t
  | _=>exact absurd (show false=true from fx) Bool.false_ne_true
 | int a=>
  obtain ⟨t',rfl⟩:=ry
  cases x with
  | non=>cases rx; exact SeqAt.EqAt.int_none a t'
  | bl b=>cases rx; exact SeqAt.EqAt.int_bool a t' b
  | int b=>obtain ⟨t,rfl⟩:=rx; exact SeqAt.EqAt.int_int a t' b t
  | str b=>obtain ⟨t,rfl⟩:=rx; exact SeqAt.EqAt.int_str a t' b t
  | _=>exact absurd (show false=true from fx) Bool.false_ne_true
 | str a=>
  obtain ⟨t',rfl⟩:=ry
  cases x with
  | non=>cases rx; exact SeqAt.EqAt.str_none a t'
  | bl b=>cases rx; exact SeqAt.EqAt.str_bool a t' b
  | int b=>obtain ⟨t,rfl⟩:=rx; exact SeqAt.EqAt.str_int a t' b t
  | str b=>obtain ⟨t,rfl⟩:=rx; exact SeqAt.EqAt.str_str a t' b t
  | _=>exact absurd (show false=true from fx) Bool.false_ne_true
 | _=>exact absurd (show false=true from fy) Bool.false_ne_true
theorem vR:CallR X (.builtin "len") (fun xs H Q=>∃ p ys,xs=[.ref p]∧(SqL X.K H p ys∨SqT X.K H p ys)∧Q (.int ys.length) H):=by
 intro pins s σ H xs us Q I r h
 obtain ⟨p,ys,rfl,hq,q⟩:=h
 obtain ⟨u,rfl,rx⟩:=cw r
 cases rx
 have hn:=uk
 rcases hq with hq | hq
 ·obtain ⟨its,r',pl,hz⟩:=I.list hq
  have hlen:=r'.length
  exact Calls.call_len_list pl.isList (by simp only [List.size_toArray] <;> omega) ⟨.int ys.length,H,I.tok _,⟨s.toks + 1,by rw [List.size_toArray,hlen]⟩,q⟩
 ·obtain ⟨its,r',pl,hz⟩:=I.tuple hq
  have hlen:=r'.length
  exact len_tuple pl (by simp only [List.size_toArray] <;> omega) ⟨.int ys.length,H,I.tok _,⟨s.toks + 1,by rw [List.size_toArray,hlen]⟩,q⟩
theorem CallR.or {f:Value} {r r':List V→Hp→VK→Prop} (h:CallR X f r) (h':CallR X f r'):CallR X f (fun xs H Q=>r xs H Q∨r' xs H Q):=by
 intro pins s σ H xs us Q I rs q
 rcases q with q | q
 ·exact h pins s σ H xs us Q I rs q
 ·exact h' pins s σ H xs us Q I rs q
theorem qM:CallR X (.type "list") (fun xs H Q=>∃ p ys,xs=[.ref p]∧(SqL X.K H p ys∨SqT X.K H p ys)∧∀ l,H l=none→Q (.ref l) (upd H l (.lst ys))):=by
 intro pins s σ H xs us Q I r h
 obtain ⟨p,ys,rfl,hq,q⟩:=h
 obtain ⟨u,rfl,rx⟩:=cw r
 cases rx
 have fin:∀ (its:List Value),Vals ys its→ys.length≤sizeLine→∀ (h':Heap) (c':Nat),(∀ b o',s.heap.get? b=some o'→h'.get? b=some o')→
   h'.get? s.heap.objs.size=some { cls:=.type "list",dict:=none,data:=.seq its.toArray c',slots:=#[] }→EP X pins σ Q (.ref s.heap.objs.size) { s with heap:=h' }:=fun its r' hz h' c' kp e=>
  ⟨.ref s.heap.objs.size,_,I.laid (t':=s.toks) kp (Nat.le_refl _) (show ObjOk X.prog X.w _ h' _ (.lst ys) from ⟨hz,its,c',r',e⟩),rfl,q _ (I.hok.fresh (Nat.le_refl _))⟩
 rcases hq with hq | hq
 ·obtain ⟨its,r',pl,hz⟩:=I.list hq
  have hlen:=r'.length
  obtain ⟨o,ho,hc,n,hd⟩:=pl.isList
  exact call_list_seq p (.inl rfl) ho hc hd (fun h' c' kp e=>fin its r' hz h' c' kp e) (by simp only [List.size_toArray] <;> omega)
 ·obtain ⟨its,r',pl,hz⟩:=I.tuple hq
  have hlen:=r'.length
  obtain ⟨o,ho,hc,n,hd⟩:=pl
  exact call_list_seq p (.inr rfl) ho hc hd (fun h' c' kp e=>fin its r' hz h' c' kp e) (by simp only [List.size_toArray] <;> omega)
def tyV (K:PySem.W.Frag) (T:String) (x:V) (H:Hp):Prop:=match x with
 | .str _=>T="str"
 | .int _=>T="int"
 | .ref p=>(T="list"∧∃ xs,SqL K H p xs)∨(T="tuple"∧∃ o,K.lookup p=some o∧o.cls=.type "tuple"∧o.dict=none)∨
   (T="dict"∧((∃ kvs,H p=some (.dK kvs))∨∃ kvs,H p=some (.dT kvs)))∨(T="set"∧∃ S n,H p=some (.set S n))
 | _=>False
theorem lI {pins:List (Addr × Obj)} {σ:St} {H:Hp} {s:Shared} {T:String} {x:V} {v:Value} (I:Inv X pins σ H s) (r:RelV x v) (ty:tyV X.K T x H):
  s.TypeIs v T∧∀ a,v=.ref a→∃ ob,s.heap.get? a=some ob∧ob.dict=none:=by
 cases x with
 | str z=>
  obtain ⟨t,rfl⟩:=r
  cases (show T="str" from ty)
  exact ⟨typeIs_str s z t,fun _ e=>nomatch e⟩
 | int i=>
  obtain ⟨t,rfl⟩:=r
  cases (show T="int" from ty)
  exact ⟨typeIs_int s i t,fun _ e=>nomatch e⟩
 | ref p=>
  cases r
  rcases ty with ⟨rfl,xs,hq⟩ | ⟨rfl,o,hk,hc,hd⟩ | ⟨rfl,hk⟩ | ⟨rfl,S,n,hk⟩
  ·obtain ⟨its,_,pl,_⟩:=I.list hq
   refine ⟨pl.isList.typeIs,fun a e=>?_⟩
   cases e
   obtain ⟨o,n,e,c,hd,_⟩:=pl
   exact ⟨o,e,hd⟩
  ·refine ⟨⟨o,I.kIn p o hk,hc⟩,fun a e=>?_⟩
   cases e
   exact ⟨o,I.kIn _ o hk,hd⟩
  ·have z:∃ o,s.heap.get? p=some o∧o.ExactDict:=by
    rcases hk with ⟨kvs,hk⟩ | ⟨kvs,hk⟩
    ·obtain ⟨_,_,_,_,o,_,_,e,ex,_⟩:=I.hok p _ hk
     exact ⟨o,e,ex⟩
    ·obtain ⟨_,_,_,_,o,_,_,e,ex,_⟩:=I.hok p _ hk
     exact ⟨o,e,ex⟩
   obtain ⟨o,e,ex⟩:=z
   refine ⟨⟨o,e,ex.1⟩,fun a e2=>?_⟩
   cases e2
   exact ⟨o,e,ex.2.1⟩
  ·obtain ⟨o,_,_,_,e,ex,_⟩:=I.hok p _ hk
   refine ⟨⟨o,e,ex.1⟩,fun a e2=>?_⟩
   cases e2
   exact ⟨o,e,ex.2.1⟩
 | _=>exact False.elim ty
def Ub (K:PySem.W.Frag) (T:String) (r:V→List V→Hp→VK→Prop) (to:TE):TE:=fun σ H Q=>to σ H fun x H1=>tyV K T x H1∧r x [] H1 Q
def tBM (K:PySem.W.Frag) (T:String) (r:V→List V→Hp→VK→Prop) (to:TE) (t:TA):TE:=fun σ H Q=>to σ H fun x H1=>tyV K T x H1∧t σ H1 fun xs H2=>r x xs H2 Q
variable {o e:Expr} {es:List Expr} {to:TE} {t:TA} {name:Str} {apos cpos:Pos} {T id:String} {r:V→List V→Hp→VK→Prop}
theorem bC (pa:PlainAttrs T) (slot:Slot T name id) (hty:typeOf (.builtin id)=pure (.type "method_descriptor")) (hm:MtR X id r) (ho:PE X o to)
  (hbase:attributeBase o name X.env (eval o X.env)=eval o X.env:=by rfl) (hline:(apos.endLine == cpos.line)=true:=by rfl):PE X (.Call (.Attribute o name apos) [] [] cpos) (Ub X.K T r to):=by
 intro pins s σ H Q I h
 refine wpAny_Call_method0_late hbase hline (thn (ho pins s σ H _ I h) fun v s1 ⟨x,H1,I1,r1,ty,q1⟩=>?_)
 obtain ⟨h1,h2⟩:=lI I1 r1 ty
 exact ⟨T,id,pa,slot,hty,h1,h2,Calls.callWith_builtin rfl (PySem.evalArgs_none (hm pins s1 σ H1 x [] v [] Q I1 r1 .nil q1))⟩
theorem Wg (pa:PlainAttrs T) (slot:Slot T name id) (hty:typeOf (.builtin id)=pure (.type "method_descriptor")) (hm:MtR X id r) (ho:PE X o to) (ha:PA X (e::es) t)
  (hbase:attributeBase o name X.env (eval o X.env)=eval o X.env:=by rfl)
  (hfew:((backTo cpos (starEach (e::es) X.env)).all (fun x=>!x.1) && (backToKw cpos (keywordEach [] X.env)).all (fun x=>x.1.isSome)
   && decide ((e::es).length+([]:List Keyword).length+(if ([]:List Keyword).isEmpty then 0 else 1)<30))=true:=by rfl)
  (hline:(apos.endLine == cpos.line)=true:=by rfl) (hs:starEach (e::es) X.env=(false,eval e X.env)::starEach es X.env:=by rfl) (hplain:(backTo cpos (starEach es X.env)).any (·.1)=false:=by rfl):
  PE X (.Call (.Attribute o name apos) (e::es) [] cpos) (tBM X.K T r to t):=by
 intro pins s σ H Q I h
 refine wpAny_Call_method_late hbase hfew hline rfl (thn (ho pins s σ H _ I h) fun v s1 ⟨x,H1,I1,r1,ty,q1⟩=>?_)
 obtain ⟨h1,h2⟩:=lI I1 r1 ty
 refine ⟨T,id,pa,slot,hty,h1,h2,?_⟩
 have hA:=ha cpos pins s1 σ H1 _ I1 q1
 rw [hs] at hA ⊢
 refine Calls.callWith_builtin (by show (false || (backTo cpos (starEach es X.env)).any (·.1))=false; rw [hplain] <;> rfl) (Calls.evalArgs_plain ?_)
 exact thn hA fun us s2 ⟨vs,H2,I2,r2,q2⟩=>hm pins s2 σ H2 x vs v us Q I2 r1 r2 q2
end
end L2
namespace L2
open PySem PySem.Spec PyProof.Rows
def MtM (X:Cx) (id:String) (r:V→List V→Hp→VK→Prop):Prop:=
 ∀ (pins:List (Addr × Obj)) (s:Shared) (σ:St) (H:Hp) (x:V) (xs:List V) (v:Value) (us:List Value) (Q:VK),Inv X pins σ H s→RelV x v→Vals xs us→r x xs H Q→
  wpAny (model X.prog X.w) X.A (call (.builtin id) (v::us)) (EP X pins σ Q) X.xe s
theorem Vals.one:∀ {x:V} {us:List Value},Vals [x] us→∃ u,us=[u]∧RelV x u
 | _,_,.cons r .nil=>⟨_,rfl,r⟩
theorem Vals.two:∀ {x y:V} {us:List Value},Vals [x,y] us→∃ u v,us=[u,v]∧RelV x u∧RelV y v
 | _,_,_,.cons r (.cons q .nil)=>⟨_,_,rfl,r,q⟩
theorem Vals.zero:∀ {us:List Value},Vals [] us→us=[]
 | _,.nil=>rfl
theorem Vals.dropLast {xs:List V} {us:List Value} (h:Vals xs us):Vals xs.dropLast us.dropLast:=by
 induction h with
 | nil=>exact .nil
 | cons r t ih=>
  cases t with
  | nil=>exact .nil
  | cons q t'=>exact .cons r ih
theorem Vals.eraseIdx:∀ {xs:List V} {us:List Value} (i:Nat),Vals xs us→Vals (xs.eraseIdx i) (us.eraseIdx i)
 | _,_,_,.nil=>.nil
 | _,_,0,.cons _ t=>t
 | _,_,i+1,.cons r t=>.cons r (Vals.eraseIdx i t)
theorem Vals.reverse {xs:List V} {us:List Value} (h:Vals xs us):Vals xs.reverse us.reverse:=by
 induction h with
 | nil=>exact .nil
 | cons r t ih=>rw [List.reverse_cons,List.reverse_cons]; exact Vals.append ih (.cons r .nil)
theorem Vals.rep {xs:List V} {us:List Value} (h:Vals xs us):∀ k:Nat,Vals (List.replicate k xs).flatten (List.replicate k us).flatten
 | 0=>.nil
 | k+1=>by
  rw [List.replicate_succ,List.replicate_succ,List.flatten_cons,List.flatten_cons]
  exact Vals.append h (Vals.rep h k)
theorem nn {α:Type} (l:List α):l.eraseIdx (l.length - 1)=l.dropLast:=by
 induction l with
 | nil=>rfl
 | cons a r ih=>
  cases r with
  | nil=>rfl
  | cons b r=>
   have e:(a::b::r).length - 1=((b::r).length - 1)+1:=by
    have h1:(a::b::r).length=r.length+2:=rfl
    have h2:(b::r).length=r.length+1:=rfl
    omega
   rw [e,List.eraseIdx_cons_succ,ih]
   all_goals rfl
theorem rF (its:List Value):∀ (k:Nat) (acc:List Value),
  List.foldl (fun x1 x2=>x1++x2) acc.toArray (List.replicate k its.toArray)=(acc++(List.replicate k its).flatten).toArray
 | 0,acc=>by simp
 | k+1,acc=>by
  have e:acc.toArray++its.toArray=(acc++its).toArray:=by simp
  have e2:(acc++its)++(List.replicate k its).flatten=acc++(List.replicate (k+1) its).flatten:=by
   rw [List.replicate_succ,List.flatten_cons,List.append_assoc]
  rw [← e2,← rF its k (acc++its),← e,List.replicate_succ,List.foldl_cons]
section
variable {X:Cx} {pins:List (Addr × Obj)} {σ:St} {H:Hp} {s:Shared} {l b:Addr} {xs ys zs:List V}
theorem Inv.lset {its its':List Value} {n:Nat} {f:Array Value→Array Value} {t':Nat} (I:Inv X pins σ H s) (hH:H l=some (.lst xs))
  (e:s.heap.get? l=some { cls:=.type "list",data:=.seq its.toArray n }) (hf:f its.toArray=its'.toArray) (hv:Vals ys its') (hz:ys.length≤sizeLine):
  Inv X pins σ (upd H l (.lst ys)) { s with heap:=s.heap.update l (Obj.mapSeq f),toks:=t' }:=by
 have q:=PySem.IsL.update e f
 rw [hf] at q
 refine I.write (x:=l) (e:=l) (by rw [hH]; exact trivial) (.inl rfl) (fun b' u hb hu=>(Heap.get?_update_other s.heap (Obj.mapSeq f) (Ne.symm hb)).trans hu) ⟨_,q⟩ ?_
 exact ⟨hz,its',_,hv,q⟩
theorem Inv.lnew {its:List Value} {t':Nat} (I:Inv X pins σ H s) (hv:Vals ys its) (hz:ys.length≤sizeLine):
  Inv X pins σ (upd H s.heap.objs.size (.lst ys)) { s with heap:=s.heap.push { cls:=.type "list",data:=.seq its.toArray },toks:=t' }:=
 I.laid (fun _ _ q=>Heap.get?_push_of_some _ q) (Nat.le_refl _) ⟨hz,its,0,hv,Heap.get?_push_size _ rfl⟩
theorem Inv.fresh (I:Inv X pins σ H s):H s.heap.objs.size=none:=I.hok.fresh (Nat.le_refl _)
theorem Inv.lstM (I:Inv X pins σ H s) (hH:H l=some (.lst xs)):xs.length≤sizeLine∧∃ (its:List Value) (n:Nat),Vals xs its∧xs.length=its.length∧s.heap.get? l=some { cls:=.type "list",data:=.seq its.toArray n }:=by
 obtain ⟨z,its,n,r,e⟩:=I.hok l _ hH
 exact ⟨z,its,n,r,r.length,e⟩
theorem pM {n:Nat} (h:n≤sizeLine):Builtin.List.listTooLong n=false:=by
 unfold Builtin.List.listTooLong
 exact decide_eq_false (by omega)
end
section
variable {X:Cx}
def gb:V→List V→Hp→VK→Prop:=fun x vs H Q=>∃ l xs y,x=.ref l∧vs=[y]∧H l=some (.lst xs)∧xs.length<sizeLine∧Q .non (upd H l (.lst (xs++[y])))
theorem rq:MtM X "list.append" gb:=by
 intro pins s σ H x vs v us Q I rx rv h
 obtain ⟨l,xs,y,rfl,rfl,hH,hz,q⟩:=h
 cases rx
 obtain ⟨u,rfl,ru⟩:=rv.one
 obtain ⟨z,its,n,r,hl,e⟩:=I.lstM hH
 refine call_meets F.slot_list_append ⟨_,e,rfl⟩ F.entry_list_append (F.args_list_append_2 _ _) (PySem.list_append l its.toArray n u (by rw [List.size_toArray]; omega)) ⟨e,?_⟩
 refine ⟨.non,_,I.lset (its':=its++[u]) hH e (by simp) (r.append (.cons ru .nil)) ?_,rfl,q⟩
 rw [List.length_append,List.length_singleton]
 omega
def h_:V→List V→Hp→VK→Prop:=fun x vs H Q=>∃ l b xs zs,x=.ref l∧vs=[.ref b]∧H l=some (.lst xs)∧H b=some (.lst zs)∧xs.length+zs.length≤sizeLine∧Q .non (upd H l (.lst (xs++zs)))
theorem XV:MtM X "list.extend" h_:=by
 intro pins s σ H x vs v us Q I rx rv h
 obtain ⟨l,b,xs,zs,rfl,rfl,hH,hB,hz,q⟩:=h
 cases rx
 obtain ⟨u,rfl,ru⟩:=rv.one
 cases ru
 obtain ⟨z,its,n,r,hl,e⟩:=I.lstM hH
 obtain ⟨z2,its2,n2,r2,hl2,e2⟩:=I.lstM hB
 have hsz:its.toArray.size+its2.toArray.size≤sizeLine:=by rw [List.size_toArray,List.size_toArray]; omega
 have hlong:¬ (!its.toArray.isEmpty && Builtin.List.listTooLong (its.toArray.size+its2.toArray.size))=true:=by
  rw [pM hsz,Bool.and_false]
  exact Bool.false_ne_true
 refine call_meets F.slot_list_extend ⟨_,e,rfl⟩ F.entry_list_extend (F.args_list_extend_2 _ _)
  (AutoSeq1.list_extend_list_list_0 l its.toArray n b its2.toArray n2 hlong (by rw [List.size_toArray]; omega) (by omega)) ⟨e,e2,?_⟩
 refine ⟨.non,_,I.lset (its':=its++its2) hH e (by simp) (r.append r2) ?_,rfl,q⟩
 rw [List.length_append]
 omega
def Ug:V→List V→Hp→VK→Prop:=fun x vs H Q=>∃ l xs y,x=.ref l∧vs=[]∧H l=some (.lst xs)∧xs[xs.length - 1]? = some y∧Q y (upd H l (.lst xs.dropLast))
theorem Y8:MtM X "list.pop" Ug:=by
 intro pins s σ H x vs v us Q I rx rv h
 obtain ⟨l,xs,y,rfl,rfl,hH,hy,q⟩:=h
 cases rx
 have hus:=rv.zero
 subst hus
 obtain ⟨z,its,n,r,hl,e⟩:=I.lstM hH
 obtain ⟨u,hu,ru⟩:=r.get hy
 have hy':its.toArray[its.toArray.size - 1]? = some u:=by
  show its.toArray[its.length - 1]? = some u
  rw [← Array.getElem?_toList,← hl]
  exact hu
 refine call_meets F.slot_list_pop ⟨_,e,rfl⟩ F.entry_list_pop (F.args_list_pop_1 _) (MeetsSeq.list_pop_last l its.toArray n u hy' (by rw [List.size_toArray]; omega)) ⟨e,?_⟩
 refine ⟨y,_,I.lset (its':=its.dropLast) hH e ?_ r.dropLast ?_,ru,q⟩
 ·show its.toArray.eraseIdxIfInBounds (its.toArray.size - 1)=its.dropLast.toArray
  rw [List.size_toArray,List.eraseIdxIfInBounds_toArray,nn]
 ·rw [List.length_dropLast]
  omega
def Uh:R2:=fun x y H Q=>∃ l b xs zs,x=.ref l∧y=.ref b∧H l=some (.lst xs)∧H b=some (.lst zs)∧xs.length+zs.length≤sizeLine∧∀ p,H p=none→Q (.ref p) (upd H p (.lst (xs++zs)))
theorem bL:OpR X (binaryOp .Add) Uh:=by
 intro pins s σ H x y v u Q I rx ry h
 obtain ⟨l,b,xs,zs,rfl,rfl,hH,hB,hz,q⟩:=h
 cases rx
 cases ry
 obtain ⟨z,its,n,r,hl,e⟩:=I.lstM hH
 obtain ⟨z2,its2,n2,r2,hl2,e2⟩:=I.lstM hB
 refine PySem.P.add_list e e2 ?_ (by rw [List.size_toArray,List.size_toArray]; omega)
 have ea:its.toArray++its2.toArray=(its++its2).toArray:=by simp
 rw [ea]
 exact ⟨.ref _,_,I.lnew (t':=s.toks) (r.append r2) (by rw [List.length_append]; omega),rfl,q _ I.fresh⟩
def Uf:R2:=fun x y H Q=>∃ l k xs,x=.ref l∧y=.int k∧H l=some (.lst xs)∧-(2 ^ 63)≤k∧k<2 ^ 63∧xs.length*k.toNat≤sizeLine∧
 ∀ p,H p=none→Q (.ref p) (upd H p (.lst (List.replicate k.toNat xs).flatten))
theorem d3 {α:Type} (xs:List α) (k:Nat):(List.replicate k xs).flatten.length=k*xs.length:=by
 induction k with
 | zero=>simp
 | succ k ih=>rw [List.replicate_succ,List.flatten_cons,List.length_append,ih,Nat.succ_mul,Nat.add_comm]
theorem bI:OpR X (binaryOp .Mult) Uf:=by
 intro pins s σ H x y v u Q I rx ry h
 obtain ⟨l,k,xs,rfl,rfl,hH,h1,h2,hz,q⟩:=h
 cases rx
 obtain ⟨t,rfl⟩:=ry
 obtain ⟨z,its,n,r,hl,e⟩:=I.lstM hH
 have hlen:its.toArray.size*k.toNat≤sizeLine:=by rw [List.size_toArray,← hl]; exact hz
 have hcap:¬ its.toArray.size*k.toNat>(2 ^ 63 - 1) / 8:=by
  have:(sizeLine:Nat)≤(2 ^ 63 - 1) / 8:=by decide
  omega
 have hfit:¬ (!Builtin.List.listFitsIndex k)=true:=by
  rw [fitsIndex_both h1 h2]
  exact Bool.false_ne_true
 have hlong:¬ Builtin.List.listTooLong (its.toArray.size*k.toNat)=true:=by
  rw [pM hlen]
  exact Bool.false_ne_true
 have hnew:List.foldl (fun x1 x2=>x1++x2) #[] (List.replicate (if its.toArray.isEmpty=true then 0 else k.toNat) its.toArray)=(List.replicate k.toNat its).flatten.toArray:=by
  have f0:∀ m:Nat,List.foldl (fun x1 x2=>x1++x2) #[] (List.replicate m its.toArray)=(List.replicate m its).flatten.toArray:=fun m=>by
   have:=rF its m []
   rw [List.nil_append] at this
   exact this
  rw [f0]
  cases its with
  | nil=>simp
  | cons a r'=>rw [if_neg (by simp)]
 refine wpAny_binaryOp_repeat_ref (T:="list") (U:="int") (by decide) ⟨_,e,rfl⟩ (fun s'=>typeIs_int s' k t) noFill_list_mul F.fills_int_mul F.slot_int_rmul repeat_list F.slot_int_index.lookup
  (call_meets F.slot_int_rmul (typeIs_int s k t) F.entry_int_rmul (F.args_int_rmul_2 _ _) (int___rmul___int_list k t l its.toArray n)
   ⟨e,rfl,⟨_,e,rfl⟩,call_meets F.slot_list_mul ⟨_,e,rfl⟩ F.entry_list_mul (F.args_list_mul_2 _ _) (AutoListH.list___mul___list_int_3 l its.toArray n k t hfit hcap hlong) ⟨e,?_⟩⟩)
 rw [hnew]
 exact ⟨.ref _,_,I.lnew (t':=s.toks) (r.rep k.toNat) (by rw [d3,Nat.mul_comm]; exact hz),rfl,q _ I.fresh⟩
end
section
variable {prog:Program} {w:World} {A:Around} {E:Value→Shared→Prop} {s:Shared}
set_option maxRecDepth 100000 in
end
section
variable {X:Cx}
end
end L2
namespace Att
open PySem PySem.W PySem.Calls PyProof.Rows
theorem uR {P:Params} {h:Heap}:∀ (ns:List Int) (vs:List Value),WellAll P h vs (ns.map WData.int)→IntsAre vs ns:=by
 intro ns
 induction ns with
 | nil=>
  intro vs w
  rw [List.map_nil] at w
  cases w
  exact .nil
 | cons n ns ih=>
  intro vs w
  rw [List.map_cons] at w
  cases w with
  | cons a b=>
   cases a
   exact .cons _ _ (ih _ b)
theorem mW {l:OpenLaw} {n:Nat} (hn:l.most=some n) {P:Params} {h:Heap} {args:List WData} {vals:List Value}
  (hpre:l.row.toRowW.claim.pre args=true) (hwl:WellAll P h vals args):
  ∃ a vs ns,vals=[Value.ref a]∧args=[WData.list (ns.map WData.int)]∧h.get? a=some { cls:=.type "list",data:=.seq vs.toArray }∧IntsAre vs ns∧ns.length≤n:=by
 have hsh:WShape.hasAll [] args [.list .int]=true:=(pre_splitW hpre).1
 have hc:l.pre.holds [] { args:=args }=true:=(pre_splitW hpre).2
 obtain ⟨d,r,rfl,h1,h2⟩:=hasAllW_cons hsh
 obtain rfl:=hasAllW_nil h2
 obtain ⟨xs,rfl,h3⟩:=hasW_list h1
 obtain ⟨ns,rfl⟩:=items_int h3
 have hlen:ns.length≤n:=by
  unfold OpenLaw.pre at hc
  have h4:(WTm.not (.lt (.lit (.int (n:Int))) (.len (.arg 0)))).holds [] { args:=[.list (ns.map .int)] }=true:=by
   have h4:=(holds_andW hc).1
   rw [hn] at h4
   exact h4
  have h5:=condW_of h4 (w_not (w_lt w_lit (w_len_list (w_arg rfl))))
  rw [List.length_map] at h5
  refine Nat.le_of_not_lt fun q=>?_
  have q':(n:Int)<((ns.length:Nat):Int):=by omega
  first
   | (rw [decide_eq_true q'] at h5; exact absurd h5 (by decide))
   | (simp at h5; omega)
 cases hwl with
 | cons w1 w2=>
  cases w2
  cases w1 with
  | list ho hall=>exact ⟨_,_,ns,rfl,rfl,ho,uR ns _ hall,hlen⟩
theorem mX (l:OpenLaw) (args:List WData):l.row.toRowW.claim.post args (.bool true) args=true:=
 postW_of (r:=l.row.toRowW) (X:=(true == true))
  (show WShape.has [] (.bool true) .bool=true by first | rfl | decide | simp [WShape.has,WShape.arms,WShape.armsAll])
  (show (WTm.eq .res (.lit (.bool true))).value [] { args:=args,res:=some (.bool true),after:=args }=some (.bool (true == true)) from w_eq_bool (w_res rfl) w_lit) rfl
theorem attach_call {l:OpenLaw} {n:Nat} {q:Program} {loose:List Str} {XP:(Str→Option Value)→Heap→Prop} {YP:World→Heap→Prop} {d:DefRec}
  (hn:l.most=some n) (hdf:d.params.defaults=[])
  (call:∀ (w:World) (s₀ s₁:Shared) (mg mb:Str→Option Value) (fa:Addr) (o:Obj) (pm cd doc:Value) (a:Addr) (vs:List Value) (ns:List Int),
   Ground q loose [] XP w s₀ mg mb s₁.heap→YP w s₁.heap→
   s₁.heap.get? fa=some o→o.data=.func (docDef d.name d.params d.body d.scope pm cd doc)→s₁.heap.CodeRec cd d.name→mg d.name=some (.ref fa)→
   s₁.heap.get? a=some { cls:=.type "list",data:=.seq vs.toArray }→IntsAre vs ns→ns.length≤n→s₁.gens=#[]→
   codeAny (model l.prog w) callerA (.call (.ref fa) ⟨[.ref a],[]⟩) (fun r s'=>r=.ok (.ret (.bool true))∧OldK s₁.heap s'.heap∧s'.os=s₁.os∧AllBare s'.gens) s₁):
  WalkO q loose XP YP l.row.toRowW d [] (fun f vs=>PySem.call f vs):=by
 intro w s₀ s₁ mg mb G Y fa o pm cd doc dV kV ho hd hcd hD hmg hg args vals as hpre hlay hrd hwl hlo
 obtain rfl:dV=.none:=Dflts.none hD hdf
 obtain rfl:kV=.none:=Dflts.noKw hD
 obtain ⟨a,vs,ns,rfl,rfl,hobj,hints,hlen⟩:=mW hn hpre hwl
 refine enter_call (codeAny_mono (call w s₀ s₁ mg mb fa o pm cd doc a vs ns G Y ho (fd_plain hd) hcd hmg hobj hints hlen hg) fun r s' hq=>?_)
 obtain ⟨rfl,h2,h3,h4⟩:=hq
 exact ⟨.inl ⟨.bool true,.bool true,[],rfl,fun _=>rfl,.bool true,mX l _,fun _=>⟨List.Pairwise.nil,fun _ hm=>(nomatch hm)⟩⟩,h2,h3,h4⟩
section
variable {prog:Program} {w:World} {A:Around} {E:Value→Shared→Prop} {s:Shared} {K:Frag}
def Uq (h:Heap) (L d:Addr):List (Addr × Obj):=(List.range h.objs.size).filterMap fun a=>if a=L∨a=d then none else (h.get? a).map fun o=>(a,o)
end
end Att
namespace L2
open PySem PySem.Spec PyProof.Rows
theorem rb:∀ {vs:List Value} {ns:List Int},IntsAre vs ns→Vals (ns.map V.int) vs
 | _,_,.nil=>.nil
 | _,_,.cons n t h=>.cons ⟨t,rfl⟩ (rb h)
def XT (H:Hp):Prop:=∀ b,H b=none∨∃ o xs,H b=some (.frz o (.lst xs))
theorem jK {P:Program} {w:World} {K:PySem.W.Frag} {mg mb:Str→Option Value} {CX:CXT} {k:Nat} {fa a:Addr} {fd:FuncData} {x:Str} {sp:Sp} {s₁:Shared} {vs:List Value} {ns:List Int}
  (KX:K.In s₁.heap) (hns:s₁.heap.Ns mainGlobals mg) (hb:s₁.heap.Ns builtinsNs mb) (hbb:∀ x:Str,x≠"__name__"→mb x=bootBuiltins x) (hlim:s₁.heap.NoLimit) (hg:s₁.gens=#[])
  (ha:s₁.heap.get? a=some { cls:=.type "list",data:=.seq vs.toArray }) (hi:IntsAre vs ns) (hl:ns.length≤sizeLine) (hr:Room k callerA)
  (F:∀ base:Heap,K.In base→base.Ns mainGlobals mg→FnOk P w K mg base CX k fa fd [x] sp) (hbind:∀ (s:Shared) (u:Value),BindsTo s fd ⟨[u],[]⟩ [(x,u)])
  (hsp:∀ H:Hp,XT H→SqL K H a (ns.map V.int)→sp [.ref a] H (fun v _=>v=.bl true) fun _ _ _=>False)
  (hCX:∀ H e s',CX [] H s₁ (fun _ _ _=>False) e s'→False):
  codeAny (model P w) callerA (.call (.ref fa) ⟨[.ref a],[]⟩) (fun r s'=>r=.ok (.ret (.bool true))∧OldK s₁.heap s'.heap∧s'.os=s₁.os∧AllBare s'.gens) s₁:=by
 have rv:=rb hi
 have lenV:=hi.length
 have core:∀ H:Hp,XT H→SqL K H a (ns.map V.int)→HOk P w H s₁.heap→(∀ b,H b≠none→b=a)→(H a≠none→K.lookup a=none)→
   codeAny (model P w) callerA (.call (.ref fa) ⟨[.ref a],[]⟩) (fun r s'=>r=.ok (.ret (.bool true))∧OldK s₁.heap s'.heap∧s'.os=s₁.os∧AllBare s'.gens) s₁:=by
  intro H hO hS hok hA hK
  have base_of:∀ {b:Addr} {o:Obj},s₁.heap.get? b=some o→H b=none→(qw s₁.heap H).get? b=some o:=fun e n=>jO e n
  have noA:∀ {b:Addr} {o:Obj} {es:Array DictEntry} {ep:Nat},s₁.heap.get? b=some o→o.data=.dict es ep→H b=none:=fun {b o es ep} e d=>by
   cases q:H b with
   | none=>rfl
   | some u=>
    have e':b=a:=hA b (by rw [q]; simp)
    subst e'
    rw [ha] at e; cases e
    have d':Data.seq vs.toArray _=Data.dict es ep:=d
    cases d'
  have nsK:∀ {b:Addr} {m:Str→Option Value},s₁.heap.Ns b m→(qw s₁.heap H).Ns b m:=fun {b m} ⟨o,es,ep,e,d,r⟩=>⟨o,es,ep,base_of e (noA e d),d,r⟩
  have hKb:K.In (qw s₁.heap H):=fun b o e=>base_of (KX b o e) (by
   cases q:H b with
   | none=>rfl
   | some u=>
    have e':b=a:=hA b (by rw [q]; simp)
    subst e'
    rw [hK (by rw [q]; simp)] at e; cases e)
  have hM:Mod K mg (qw s₁.heap H):=⟨hKb,nsK hns,⟨mb,nsK hb,hbb⟩,let ⟨mc,h1,h2⟩:=hlim; ⟨mc,nsK h1,h2⟩⟩
  have e0:Env0 P w K mg (qw s₁.heap H) callerA [] s₁ H:=⟨rfl,hM,fun b o e=>gx e,Nat.le_of_eq (ln _ _),trivial,fun b hb=>absurd (show b∈([]:List Addr) from hb) (by simp),hok,.of_eq hg⟩
  refine codeAny_mono ((F _ hKb (nsK hns)).run callerA [] s₁ H ⟨[.ref a],[]⟩ [.ref a] [.ref a] _ _ hr e0 (hbind s₁ (.ref a)) (.cons rfl .nil) (hsp H hO hS)) fun r s' h=>?_
  cases r with
  | error e=>exact (hCX H e s' h).elim
  | ok fl=>
   cases fl with
   | next=>exact False.elim h
   | brk=>exact False.elim h
   | cont=>exact False.elim h
   | ret u=>
    obtain ⟨v,H',os,bare,un,hok',r',q⟩:=h
    have q':v=.bl true:=q
    subst q'
    obtain rfl:u=Value.bool true:=r'
    refine ⟨rfl,OldK.of_keep fun b o e=>?_,os,bare⟩
    cases q:H b with
    | none=>exact un.keep b o e q (by intro z; exact absurd (show b∈([]:List Addr) from z) (by simp)) (by simp)
    | some u=>
     rcases hO b with z | ⟨ob,xs,z⟩
     ·rw [q] at z; cases z
     ·have z2:=un.frzs b ob _ z
      obtain ⟨e1,_⟩:=hok b _ z
      obtain ⟨e2,_⟩:=hok' b _ z2
      rw [e] at e1; cases e1
      exact e2
 cases hk:K.lookup a with
 | some o=>
  have e:=KX a o hk
  rw [ha] at e
  cases e
  refine core (fun _=>none) (fun _=>.inl rfl) (.inr ⟨_,vs.toArray,_,hk,rfl,rfl,rfl,by rw [List.size_toArray,lenV]; exact hl,by simpa using rv⟩) (fun b u z=>by have z':(none:Option HO)=some u:=z; cases z') (fun b z=>absurd rfl z) fun z=>absurd rfl z
 | none=>
  refine core (fun b=>if b=a then some (.frz { cls:=.type "list",data:=.seq vs.toArray } (.lst (ns.map V.int))) else none) (fun b=>?_) (.inl (.inr ⟨{ cls:=.type "list",data:=.seq vs.toArray },if_pos rfl⟩)) (fun b u z=>?_) (fun b z=>?_) fun _=>hk
  ·by_cases hb:b=a
   ·exact .inr ⟨_,_,if_pos hb⟩
   ·exact .inl (if_neg hb)
  ·by_cases hb:b=a
   ·have z':=(if_pos hb).symm.trans z
    cases z'
    subst hb
    exact ⟨ha,by rw [List.length_map]; exact hl,vs,_,rv,ha⟩
   ·have z':=(if_neg hb).symm.trans z
    cases z'
  ·by_cases hb:b=a
   ·exact hb
   ·exact absurd (if_neg hb) z
end L2
namespace L2
open PySem PySem.Spec PyProof.Rows
abbrev KOf {K:PySem.W.Frag} {h:Heap} (_:K.In h):PySem.W.Frag:=K
theorem walk_of {l:PySem.W.OpenLaw} {n k:Nat} {q:Program} {loose:List Str} {XP:(Str→Option Value)→Heap→Prop} {YP:World→Heap→Prop} {d:DefRec} {K:Params→PySem.W.Frag} {CX:World→CXT} {sp:World→Sp} {x:Str}
  (hn:l.most=some n) (hn2:n≤sizeLine) (hdf:d.params.defaults=[]) (hr:Room k callerA)
  (hY:∀ (w:World) (h:Heap),YP w h→(K w.params).In h)
  (F:∀ (w:World) (mg:Str→Option Value) (fa:Addr) (h:Heap),(K w.params).In h→h.Ns mainGlobals mg→mg d.name=some (.ref fa)→
   ∃ fd:FuncData,(∀ (s:Shared) (u:Value),BindsTo s fd ⟨[u],[]⟩ [(x,u)])∧
    ∀ base:Heap,(K w.params).In base→base.Ns mainGlobals mg→FnOk l.prog w (K w.params) mg base (CX w) k fa fd [x] (sp w))
  (hsp:∀ (w:World) (H:Hp) (a:Addr) (ns:List Int),ns.length≤n→XT H→SqL (K w.params) H a (ns.map V.int)→sp w [.ref a] H (fun v _=>v=.bl true) fun _ _ _=>False)
  (hCX:∀ (w:World) (H:Hp) (s:Shared) (e:Value) (s':Shared),CX w [] H s (fun _ _ _=>False) e s'→False):
  PySem.W.WalkO q loose XP YP l.row.toRowW d [] (fun f vs=>PySem.call f vs):=by
 refine Att.attach_call hn hdf fun w s₀ s₁ mg mb fa o pm cd doc a vs ns G Y ho hd hcd hmg hobj hints hlen hg=>?_
 have KX:=hY w _ Y
 obtain ⟨fd,hb,hF⟩:=F w mg fa _ KX G.T.g hmg
 exact jK KX G.T.g G.T.b G.T.builtins G.T.nolimit hg hobj hints (Nat.le_trans hlen hn2) hr hF hb (fun H hO hS=>hsp w H a ns hlen hO hS) fun H e s'=>hCX w H s₁ e s'
end L2
namespace L2
open PySem PySem.Spec PyProof.Rows
def inClass (s:Stmt) (j:Nat):Stmt:=match s with
 | .ClassDef _ _ _ body _ _ _ _ _ _ _=>body.getD j (.Pass ⟨0,0,0,0⟩)
 | _=>.Pass ⟨0,0,0,0⟩
def defArgs (s:Stmt):Arguments:=match s with
 | .FunctionDef _ a _ _ _ _ _ _ _ _=>a
 | _=>{ posonlyargs:=[],args:=[],vararg:=none,kwonlyargs:=[],kw_defaults:=[],kwarg:=none,defaults:=[] }
def defBody (s:Stmt):List Stmt:=match s with
 | .FunctionDef _ _ b _ _ _ _ _ _ _=>b
 | _=>[]
def defScope (s:Stmt):Scope:=match s with
 | .FunctionDef _ _ _ _ _ _ sc _ _ _=>sc
 | _=>{ kind:=.function,names:=[],isGenerator:=false,isCoroutine:=false }
abbrev CX0:CXT:=fun _ _ _ _ _ _=>False
abbrev E0:XK:=fun _ _ _=>False
theorem pD {X:Cx}:uA CX0 X E0:=fun _ _ _ _ _ _ _ h=>h.elim
structure Fun (K:PySem.W.Frag) (x qual:Str) (st:Stmt) (f:Addr) (fd:FuncData):Prop where
 ex:∃ (oc:Value) (od:Option Addr) (kV doc pm:Value) (an:Option Addr) (cdv ct:Value) (osl:Array (Option Value)),
  fd=PySem.W.fnOf x qual (defArgs st) (defBody st) (defScope st) .none kV doc pm an cdv ct∧K.lookup f=some ⟨oc,od,.func fd,osl⟩∧PySem.W.codeIn K cdv qual=true
 kp:PySem.W.keepIn K (.ref f)=true
section
variable {P:Program} {w:World} {K:PySem.W.Frag} {mg:Str→Option Value} {base:Heap}
theorem Fun.ok {x qual:Str} {st:Stmt} {f:Addr} {fd:FuncData} {N ps:List Str} {k:Nat} {sp:Sp} (F:Fun K x qual st f fd) (S:zi N ps (defScope st)) (len:∀ vs H Q E,sp vs H Q E→vs.length=ps.length)
  (hbody:∀ (cdv:Value) (A:Around) (outer:List Env) (s:Shared) (H:Hp) (vs:List V) (Q:VK) (E:XK),Room k (A.deeper (envOfC qual (defScope st) s.heap.objs.size f cdv))→sp vs H Q E→
   ∃ t,PSs (yQ CX0 P w K mg base N qual (defScope st) f cdv A outer s H E).nox (defBody st) t∧t { nx:=fun _ H'=>Q .non H',rt:=Q } (start N vs) H):FnOk P w K mg base CX0 (k+1) f fd ps sp:=by
 obtain ⟨oc,od,kV,doc,pm,an,cdv,ct,osl,rfl,lk,hcd⟩:=F.ex
 refine cH lk hcd S len fun A outer s H vs Q E hr hsp=>?_
 obtain ⟨t,h,q⟩:=hbody cdv A outer s H vs Q E hr hsp
 exact ⟨t,h.nox,q⟩
theorem Fun.binds {x qual:Str} {st:Stmt} {f:Addr} {fd:FuncData} {ps:List Str} (F:Fun K x qual st f fd)
  (h:∀ (kV doc pm:Value) (an:Option Addr) (cdv ct:Value) (us:List Value),us.length=ps.length→bindArgs (PySem.W.fnOf x qual (defArgs st) (defBody st) (defScope st) .none kV doc pm an cdv ct) ⟨us,[]⟩=pure (ps.zip us)):Binds K fd ps []:=by
 obtain ⟨oc,od,kV,doc,pm,an,cdv,ct,osl,rfl,lk,hcd⟩:=F.ex
 exact .all (h kV doc pm an cdv ct)
theorem nk {x qual:Str} {st:Stmt} {f:Addr} {oc:Value} {od an:Option Addr} {osl:Array (Option Value)} {kV doc pm cdv ct:Value} (l:K.lookup f=some ⟨oc,od,.func (PySem.W.fnOf x qual (defArgs st) (defBody st) (defScope st) .none kV doc pm an cdv ct),osl⟩)
  (c:PySem.W.codeIn K cdv qual=true) (k:PySem.W.keepIn K (.ref f)=true):Fun K x qual st f (PySem.W.fnOf x qual (defArgs st) (defBody st) (defScope st) .none kV doc pm an cdv ct):=⟨⟨oc,od,kV,doc,pm,an,cdv,ct,osl,rfl,l,c⟩,k⟩
end
section
variable {X:Cx}
theorem pv (i:Nat) {x:Str} {pos:Pos} (hN:X.N[i]? = some x:=by rfl) (hv:Vis X.env.scope x:=by first | exact Or.inl rfl | exact Or.inr (Or.inl rfl) | exact Or.inr (Or.inr rfl)) (hd:(x == ("__debug__":Str))=false:=by decide)
  (hcd:(x == ("__classdict__":Str))=false:=by decide):PE X (.Name x pos) (i6 i):=xb hN hv hd hcd
end
theorem Uu {A B:Prop} (h:B):if false=true then A else B:=by
 rw [if_neg Bool.false_ne_true]
 exact h
theorem Ut {A B:Prop} (h:A):if true=true then A else B:=by
 rw [if_pos rfl]
 exact h
theorem Vf {c A B:Prop} [Decidable c] (h1:c→A) (h2:¬ c→B):if c then A else B:=by
 by_cases h:c
 ·rw [if_pos h]
  exact h1 h
 ·rw [if_neg h]
  exact h2 h
def Same (H H':Hp):Prop:=∀ b o,H b=some o→H' b=some o
theorem Same.refl (H:Hp):Same H H:=fun _ _ h=>h
theorem Same.trans {H H1 H2:Hp} (a:Same H H1) (b:Same H1 H2):Same H H2:=fun c o h=>b c o (a c o h)
theorem Same.free {H H':Hp} (e:Same H H') {l:Addr} (h:H' l=Option.none):H l=Option.none:=by
 cases q:H l with
 | none=>rfl
 | some o=>
  rw [e l o q] at h
  cases h
theorem Same.seq {K:PySem.W.Frag} {H H':Hp} {a:Addr} {xs:List V} (e:Same H H') (h:SqL K H a xs):SqL K H' a xs:=by
 rcases h with (h | ⟨o,h⟩) | h
 ·exact .inl (.inl (e _ _ h))
 ·exact .inl (.inr ⟨o,e _ _ h⟩)
 ·exact .inr h
end L2
set_option maxRecDepth 1000000
set_option maxHeartbeats 0
open PySem in
def My.top (i:Nat):Stmt:=PySem.Challenge.pw_oddbases_k63_whole_by_carries.main.body.getD i (.Pass ⟨0,0,0,0⟩)
noncomputable section
open PySem My
namespace My
abbrev v_:Option Value:=some (.ref 6)
abbrev g_:Array GenState:=⟨[]⟩
abbrev d_:=@Drawn.mk 0 0 0 0
abbrev P_:=@Pos.mk
abbrev N_ (o:Params→Obj) (a b:Params→W.BT) (x:Params):W.BT:=.node (o x) (a x) (b x)
abbrev Z_ (_:Params):W.BT:=.nil
abbrev L_ (o:Params→Obj):=N_ o Z_ Z_
theorem sg_ {tb p w n₀ ann b} {n:Nat} {s s':W.SharedT} {t:Thread} {f:Flow} {c:Code} {q:Pos} (h:W.segRunT tb p w n₀ ann b n s t=some (f,s',c,q)):W.segRun tb p w n₀ ann b n s.abs t=some (f,s'.abs,c,q):=W.segRun_of h
abbrev p_ (a:String) (b:Nat):Value:=.str (.ofString a) b
abbrev j_ (a:Int) (b:Nat):Value:=.int a b
abbrev r_ (a:Nat):Value:=.ref a
abbrev e_ (x:Params) (a:String) (b:Nat) (v:Value):DictEntry:=⟨PyData.keyHash x (.ofString a),.str (.ofString a) b,v⟩
abbrev t0 (a1:String) (a3:Nat) (a7:String) (a8 a9:Nat) (x:Params):Obj:=(@Obj.mk (.type "function") none (@Data.func (@FuncData.mk (.ofString a1) (.ofString a1) (L2.defArgs (My.top a3)) (@FuncBody.stmts (L2.defBody (My.top a3))) (L2.defScope (My.top a3)) 3 (@List.nil (@Prod @Str @Nat)) .none .none .none (p_ a7 a8) none (r_ a9) .none 0)) #[])
abbrev t1 (a1:String) (a2 a4 a6:Nat) (a7 a9:Int) (a17 a20 a21:Nat) (a22:Int) (a27:Nat) (x:Params):Obj:=(@Obj.mk (.type "code") none (@Data.fields (List.toArray [(p_ a1 a2),(p_ a1 a4),(p_ "/claim/cut.py" a6),(j_ a7 0),(j_ a9 0),(j_ 0 0),(j_ 0 0),(j_ 3 0),(r_ a17),(.bool @Bool.true),(j_ 181 0),(r_ a20),.none,.none,.none,(r_ a21),(j_ a22 0),(j_ a7 0),(p_ "/claim/cut.py" a27)])) #[])
abbrev t2 (a0:String) (a2:Nat) (x:Params):Obj:=(@Obj.mk .none none (@Data.func (@FuncData.mk (.ofString a0) (.ofString a0) (L2.defArgs (My.top a2)) (@FuncBody.stmts (L2.defBody (My.top a2))) (L2.defScope (My.top a2)) 0 (@List.nil (@Prod @Str @Nat)) .none .none .none .none none .none .none 0)) #[])
abbrev t3 (x:Params):Obj:=(@Obj.mk .none none (@Data.fields #[]) #[])
abbrev t4 (x:Params):Obj:=(@Obj.mk (.type "tuple") none (@Data.seq #[] 0) #[])
abbrev t5 (a1:String) (a2:Nat) (a3:String) (a4 a6:Nat) (a7 a9:Int) (a17 a20 a21 a22 a23:Nat) (a24:Int) (a29:Nat) (x:Params):Obj:=(@Obj.mk (.type "code") none (@Data.fields (List.toArray [(p_ a1 a2),(p_ a3 a4),(p_ "/claim/cut.py" a6),(j_ a7 0),(j_ a9 0),(j_ 0 0),(j_ 0 0),(j_ 3 0),(r_ a17),(.bool @Bool.true),(j_ 181 0),(r_ a20),.none,(r_ a21),(r_ a22),(r_ a23),(j_ a24 0),(j_ a7 0),(p_ "/claim/cut.py" a29)])) #[])
abbrev t6 (a1:String) (a2:Nat) (a3:String) (a4:Nat) (a5:String) (a6:Nat) (a7:String) (a8:Nat) (a9:String) (a10:Nat) (a11:String) (a12:Nat) (a13:String) (a14:Nat) (x:Params):Obj:=(@Obj.mk (.type "tuple") none (@Data.seq (List.toArray [(p_ a1 a2),(p_ a3 a4),(p_ a5 a6),(p_ a7 a8),(p_ a9 a10),(p_ a11 a12),(p_ a13 a14)]) 0) #[])
abbrev t7 (a1:String) (a2:Nat) (a3:String) (a4:Nat) (a5:String) (a6:Nat) (a7:String) (a8:Nat) (a9:String) (a10:Nat) (a11:String) (a12:Nat) (x:Params):Obj:=(@Obj.mk (.type "tuple") none (@Data.seq (List.toArray [(p_ a1 a2),(p_ a3 a4),(p_ a5 a6),(p_ a7 a8),(p_ a9 a10),(p_ a11 a12)]) 0) #[])
abbrev t8 (a1:String) (a2:Nat) (a3:String) (a4:Nat) (a5:String) (a6:Nat) (a7:String) (a8:Nat) (a9:String) (a10:Nat) (x:Params):Obj:=(@Obj.mk (.type "tuple") none (@Data.seq (List.toArray [(p_ a1 a2),(p_ a3 a4),(p_ a5 a6),(p_ a7 a8),(p_ a9 a10)]) 0) #[])
abbrev t9 (a1:String) (a2:Nat) (a3:String) (a4:Nat) (x:Params):Obj:=(@Obj.mk (.type "tuple") none (@Data.seq (List.toArray [(p_ a1 a2),(p_ a3 a4)]) 0) #[])
abbrev t10 (a1:String) (a2:Nat) (x:Params):Obj:=(@Obj.mk (.type "tuple") none (@Data.seq (List.toArray [(p_ a1 a2)]) 0) #[])
abbrev t11 (a1:String) (a2:Nat) (a3:String) (a4:Nat) (a5:String) (a6:Nat) (x:Params):Obj:=(@Obj.mk (.type "tuple") none (@Data.seq (List.toArray [(p_ a1 a2),(p_ a3 a4),(p_ a5 a6)]) 0) #[])
abbrev t12 (a1:String) (a2:Nat) (a3:String) (a4:Nat) (a5:String) (a6:Nat) (a7:String) (a8:Nat) (x:Params):Obj:=(@Obj.mk (.type "tuple") none (@Data.seq (List.toArray [(p_ a1 a2),(p_ a3 a4),(p_ a5 a6),(p_ a7 a8)]) 0) #[])
abbrev t13 (a2:Nat) (x:Params):Obj:=(@Obj.mk (.type "builtin_function_or_method") none (@Data.fields (List.toArray [(.builtin "object.__init_subclass__"),(r_ a2)])) #[])
abbrev t14 (a1:Nat) (x:Params):Obj:=(@Obj.mk (.type "super") none (@Data.fields (List.toArray [(r_ a1),(r_ a1),(r_ a1)])) #[])
abbrev t15 (a1:String) (a3 a6 a8 a10 a12:Nat) (x:Params):Obj:=(@Obj.mk (.type "type") none (@Data.cls (@ClassData.mk (.ofString a1) [(r_ 202)] [(r_ a3),(r_ 202),(.type "object")] a6 (.ofString a1) @Bool.true [] [] @Bool.false (@Option.none @Bool) @Bool.false)) (@List.toArray (@Option @Value) [(some (r_ a8)),none,(some (p_ a1 a10)),(some (p_ a1 a12)),(some (.builtin "object.__new__")),(some (.bool @Bool.true))]))
abbrev t16 (a1 a2:String) (a3 a4 a12:Nat) (x:Params):Obj:=(@Obj.mk (.type "function") none (@Data.func (@FuncData.mk (.ofString a1) (.ofString a2) (L2.defArgs (L2.inClass (My.top a3) a4)) (@FuncBody.stmts (L2.defBody (L2.inClass (My.top a3) a4))) (L2.defScope (L2.inClass (My.top a3) a4)) 3 (@List.nil (@Prod @Str @Nat)) .none .none .none (p_ "oddbases.ways" 355) none (r_ a12) .none 0)) #[])
abbrev t17 (a0 a1:String) (a2 a3:Nat) (x:Params):Obj:=(@Obj.mk .none none (@Data.func (@FuncData.mk (.ofString a0) (.ofString a1) (L2.defArgs (L2.inClass (My.top a2) a3)) (@FuncBody.stmts (L2.defBody (L2.inClass (My.top a2) a3))) (L2.defScope (L2.inClass (My.top a2) a3)) 0 (@List.nil (@Prod @Str @Nat)) .none .none .none .none none .none .none 0)) #[])
abbrev t18 (a1 a3:Nat) (a4:String) (a5:Nat) (x:Params):Obj:=(@Obj.mk (.type "frame") none @Data.plain (@List.toArray (@Option @Value) [(some (r_ a1)),(some (r_ 3)),(some (r_ a3)),none,(some (p_ a4 a5)),none,(some (r_ 0))]))
abbrev t19 (a1:String) (a2 a4 a6:Nat) (a7:Int) (a17 a20:Nat) (a21:Int) (a26:Nat) (x:Params):Obj:=(@Obj.mk (.type "code") none (@Data.fields (List.toArray [(p_ a1 a2),(p_ a1 a4),(p_ "/claim/cut.py" a6),(j_ a7 0),(j_ 0 0),(j_ 0 0),(j_ 0 0),(j_ 0 0),(r_ a17),(.bool @Bool.false),(j_ 181 0),(r_ a20),.none,.none,.none,.none,(j_ a21 0),(j_ a7 0),(p_ "/claim/cut.py" a26)])) #[])
abbrev t20 (a0:Int) (a4:Nat) (a5:Int) (a9:Nat) (a10:Int) (a14:Nat) (a15:Int) (a19:Nat) (a20:Int) (a24:Nat) (a25:Int) (a29:Nat) (x:Params):Obj:=(@Obj.mk .none none (@Data.fields (List.toArray [(j_ a0 0),(j_ 4 0),(r_ a4),(j_ a5 0),(j_ 4 0),(r_ a9),(j_ a10 0),(j_ 4 0),(r_ a14),(j_ a15 0),(j_ 4 0),(r_ a19),(j_ a20 0),(j_ 4 0),(r_ a24),(j_ a25 0),(j_ 4 0),(r_ a29)])) #[])
abbrev t21 (a3 a8:Nat) (a9:String) (a10 a13:Nat) (a14:Int) (a15:Nat) (a16:String) (a18 a19:Nat) (a20:String) (a22 a23:Nat) (a24:String) (a26 a27:Nat) (a28:String) (a30 a31 a34 a35 a38 a39 a42 a43:Nat) (x:Params):Obj:=(@Obj.mk (.type "dict") none (@Data.dict (List.toArray [(e_ x "__module__" a3 (p_ "oddbases.ways" 355)),(e_ x "__qualname__" a8 (p_ a9 a10)),(e_ x "__firstlineno__" a13 (j_ a14 a15)),(e_ x a16 a18 (r_ a19)),(e_ x a20 a22 (r_ a23)),(e_ x a24 a26 (r_ a27)),(e_ x a28 a30 (r_ a31)),(e_ x "split" a34 (r_ a35)),(e_ x "has" a38 (r_ a39)),(e_ x "__static_attributes__" a42 (r_ a43))]) 10) #[])
abbrev t22 (x:Params):Obj:=(@Obj.mk (.type "builtin_function_or_method") none (@Data.fields (List.toArray [(.builtin "type.__prepare__"),(.type "type")])) #[])
abbrev t23 (a1:Nat) (x:Params):Obj:=(@Obj.mk (.type "tuple") none (@Data.seq (List.toArray [(r_ a1)]) 0) #[])
abbrev t24 (a3 a8:Nat) (a9:Int) (a10 a13 a14:Nat) (a15:String) (a17 a18:Nat) (a19:String) (a21 a22 a25 a26:Nat) (a27:String) (a29 a30 a33 a34 a37:Nat) (x:Params):Obj:=(@Obj.mk (.type "dict") none (@Data.dict (List.toArray [(e_ x "__module__" a3 (p_ "oddbases.ways" 355)),(e_ x "__firstlineno__" a8 (j_ a9 a10)),(e_ x "__init__" a13 (r_ a14)),(e_ x a15 a17 (r_ a18)),(e_ x a19 a21 (r_ a22)),(e_ x "ratio" a25 (r_ a26)),(e_ x a27 a29 (r_ a30)),(e_ x "__static_attributes__" a33 (r_ a34)),(e_ x "__doc__" a37 .none)]) 2) #[])
abbrev t25 (a0:Int) (a4:Nat) (a5:Int) (a9:Nat) (a10:Int) (a14:Nat) (a15:Int) (a19:Nat) (a20:Int) (a24:Nat) (x:Params):Obj:=(@Obj.mk .none none (@Data.fields (List.toArray [(j_ a0 0),(j_ 4 0),(r_ a4),(j_ a5 0),(j_ 4 0),(r_ a9),(j_ a10 0),(j_ 4 0),(r_ a14),(j_ a15 0),(j_ 4 0),(r_ a19),(j_ a20 0),(j_ 4 0),(r_ a24)])) #[])
abbrev t26 (a3 a8:Nat) (a9:String) (a10 a13:Nat) (a14:Int) (a15 a18 a19:Nat) (a20:String) (a22 a23:Nat) (a24:String) (a26 a27 a30 a31:Nat) (a32:String) (a34 a35 a38 a39:Nat) (x:Params):Obj:=(@Obj.mk (.type "dict") none (@Data.dict (List.toArray [(e_ x "__module__" a3 (p_ "oddbases.ways" 355)),(e_ x "__qualname__" a8 (p_ a9 a10)),(e_ x "__firstlineno__" a13 (j_ a14 a15)),(e_ x "__init__" a18 (r_ a19)),(e_ x a20 a22 (r_ a23)),(e_ x a24 a26 (r_ a27)),(e_ x "ratio" a30 (r_ a31)),(e_ x a32 a34 (r_ a35)),(e_ x "__static_attributes__" a38 (r_ a39))]) 9) #[])
abbrev t27 (a2 a3:Nat) (x:Params):Obj:=(@Obj.mk (.type "getset_descriptor") none (@Data.fields (List.toArray [(p_ "__weakref__" a2),(r_ a3),(.builtin "ExceptionGroup.__weakref__"),.none])) #[])
abbrev t28 (a1:String) (a3 a9 a11 a13 a15:Nat) (x:Params):Obj:=(@Obj.mk (.type "type") none (@Data.cls (@ClassData.mk (.ofString a1) [(r_ 31)] [(r_ a3),(r_ 31),(.type "ValueError"),(.type "Exception"),(.type "BaseException"),(.type "object")] a9 (.ofString a1) @Bool.true [] [] @Bool.false (@Option.none @Bool) @Bool.false)) (@List.toArray (@Option @Value) [(some (r_ a11)),none,(some (p_ a1 a13)),(some (p_ a1 a15)),(some (.builtin "ValueError.__new__")),(some (.bool @Bool.true))]))
abbrev t29 (a3 a8:Nat) (a9:Int) (a10 a13 a14 a17:Nat) (x:Params):Obj:=(@Obj.mk (.type "dict") none (@Data.dict (List.toArray [(e_ x "__module__" a3 (p_ "oddbases.errors" 194)),(e_ x "__firstlineno__" a8 (j_ a9 a10)),(e_ x "__static_attributes__" a13 (r_ a14)),(e_ x "__doc__" a17 .none)]) 2) #[])
abbrev t30 (a3 a8:Nat) (a9:String) (a10 a13:Nat) (a14:Int) (a15 a18 a19:Nat) (x:Params):Obj:=(@Obj.mk (.type "dict") none (@Data.dict (List.toArray [(e_ x "__module__" a3 (p_ "oddbases.errors" 194)),(e_ x "__qualname__" a8 (p_ a9 a10)),(e_ x "__firstlineno__" a13 (j_ a14 a15)),(e_ x "__static_attributes__" a18 (r_ a19))]) 4) #[])
abbrev U2 (x:Params):DictEntry:=(e_ x "__annotations__" 170 (r_ 6))
abbrev U1 (x:Params):DictEntry:=(e_ x "__file__" 173 (p_ "/claim/cut.py" 172))
abbrev U0 (x:Params):DictEntry:=(e_ x "__loader__" 168 (.builtin "__main__.__loader__#opaque"))
def bO:=t0 "law" 69 "law_oddbases_k63_whole_by_carries" 957 698
def bP:=t1 "law" 1098 1099 1100 401 1 695 696 697 1101 1102
def Wt:=t2 "law" 69
def zh:=t3
def zb:=t4
def bQ:=t0 "_law_right" 68 "law_oddbases_k63_whole_by_carries" 957 693
def bR:=t5 "_law_right" 1085 "_law_right" 1086 1087 391 5 688 689 690 691 692 1095 1096
def Wu:=t2 "_law_right" 68
def bS:=t6 "_law_way" 1088 "_law_kind" 1089 "_law_size_here" 1090 "_law_one" 1091 "_law_other" 1092 "_law_totals" 1093 "_law_figures" 1094
def bT:=t0 "_law_difference" 67 "law_oddbases_k63_whole_by_carries" 957 686
def bU:=t5 "_law_difference" 1072 "_law_difference" 1073 1074 385 5 681 682 683 684 685 1082 1083
def Wv:=t2 "_law_difference" 67
def bV:=t6 "_law_way" 1075 "_law_kind" 1076 "_law_size_here" 1077 "_law_one" 1078 "_law_other" 1079 "_law_totals" 1080 "_law_figures" 1081
def bW:=t0 "_law_less" 66 "law_oddbases_k63_whole_by_carries" 957 679
def bX:=t5 "_law_less" 1060 "_law_less" 1061 1062 373 4 674 675 676 677 678 1069 1070
def Ww:=t2 "_law_less" 66
def bY:=t7 "_law_way" 1063 "_law_one" 1064 "_law_other" 1065 "_law_totals" 1066 "_law_refused" 1067 "_law_again" 1068
def bZ:=t0 "_law_together" 65 "law_oddbases_k63_whole_by_carries" 957 672
def b_:=t5 "_law_together" 1048 "_law_together" 1049 1050 363 3 667 668 669 670 671 1057 1058
def Wx:=t2 "_law_together" 65
def aa:=t7 "_law_one" 1051 "_law_other" 1052 "_law_sign" 1053 "_law_totals" 1054 "_law_place" 1055 "_law_total" 1056
def ad:=t0 "_law_product" 64 "law_oddbases_k63_whole_by_carries" 957 665
def ae:=t5 "_law_product" 1037 "_law_product" 1038 1039 357 2 660 661 662 663 664 1045 1046
def Wz:=t2 "_law_product" 64
def af:=t8 "_law_one" 1040 "_law_other" 1041 "_law_totals" 1042 "_law_i" 1043 "_law_j" 1044
def ag:=t0 "_law_walked" 63 "law_oddbases_k63_whole_by_carries" 957 658
def ah:=t1 "_law_walked" 1031 1032 1033 340 4 655 656 657 1034 1035
def WA:=t2 "_law_walked" 63
def ai:=t0 "_law_is_carry" 62 "law_oddbases_k63_whole_by_carries" 957 653
def aj:=t5 "_law_is_carry" 1023 "_law_is_carry" 1024 1025 336 2 648 649 650 651 652 1028 1029
def WB:=t2 "_law_is_carry" 62
def ak:=t9 "_law_kind" 1026 "_law_found" 1027
def al:=t0 "_law_figure" 61 "law_oddbases_k63_whole_by_carries" 957 646
def ao:=t5 "_law_figure" 1012 "_law_figure" 1013 1014 330 5 641 642 643 644 645 1020 1021
def WC:=t2 "_law_figure" 61
def ap:=t8 "_law_kind" 1015 "_law_size_here" 1016 "_law_carry" 1017 "_law_thing" 1018 "_law_after" 1019
def aq:=t0 "_law_legal" 60 "law_oddbases_k63_whole_by_carries" 957 639
def au:=t5 "_law_legal" 998 "_law_legal" 999 1000 321 3 634 635 636 637 638 1009 1010
def WD:=t2 "_law_legal" 60
def av (x:Params):Obj:=(@Obj.mk (.type "tuple") none (@Data.seq (List.toArray [(p_ "_law_kind" 1001),(p_ "_law_size_here" 1002),(p_ "_law_numbers" 1003),(p_ "_law_row" 1004),(p_ "_law_least" 1005),(p_ "_law_greatest" 1006),(p_ "_law_number" 1007),(p_ "_law_some" 1008)]) 0) #[])
def aw:=t0 "_law_bounds" 59 "law_oddbases_k63_whole_by_carries" 957 632
def ax:=t5 "_law_bounds" 990 "_law_bounds" 991 992 319 2 627 628 629 630 631 995 996
def WE:=t2 "_law_bounds" 59
def ay:=t9 "_law_kind" 993 "_law_size_here" 994
def az:=t0 "_law_made" 58 "law_oddbases_k63_whole_by_carries" 957 625
def aA:=t5 "_law_made" 982 "_law_made" 983 984 311 2 620 621 622 623 624 987 988
def WF:=t2 "_law_made" 58
def aB:=t9 "_law_kind" 985 "_law_size_here" 986
def aC:=t0 "_law_size" 57 "law_oddbases_k63_whole_by_carries" 957 618
def aD:=t5 "_law_size" 974 "_law_size" 975 976 309 2 613 614 615 616 617 979 980
def WG:=t2 "_law_size" 57
def aE:=t9 "_law_kind" 977 "_law_number" 978
def aF:=t0 "_law_whole" 56 "law_oddbases_k63_whole_by_carries" 957 611
def aG:=t5 "_law_whole" 967 "_law_whole" 968 969 307 1 606 607 608 609 610 971 972
def WH:=t2 "_law_whole" 56
def aH:=t10 "_law_found" 970
def aI:=t0 "_law_cell_at" 55 "law_oddbases_k63_whole_by_carries" 957 604
def aJ:=t5 "_law_cell_at" 959 "_law_cell_at" 960 961 303 2 599 600 601 602 603 964 965
def WI:=t2 "_law_cell_at" 55
def aK:=t9 "_law_script" 962 "_law_k" 963
def aL:=t0 "times" 53 "oddbases.sums" 862 597
def aM:=t5 "times" 948 "times" 949 950 297 3 592 593 594 595 596 954 955
def WJ:=t2 "times" 53
def aN:=t11 "way" 951 "one" 952 "other" 953
def aO:=t0 "minus" 52 "oddbases.sums" 862 590
def aP:=t5 "minus" 938 "minus" 939 940 291 3 585 586 587 588 589 945 946
def WK:=t2 "minus" 52
def aQ:=t12 "way" 941 "one" 942 "other" 943 "difference" 944
def aR:=t0 "plus" 51 "oddbases.sums" 862 583
def aS:=t5 "plus" 929 "plus" 930 931 288 3 578 579 580 581 582 935 936
def WL:=t2 "plus" 51
def aU:=t11 "way" 932 "one" 933 "other" 934
def aV:=t0 "times_in_falling" 50 "oddbases.sums" 862 576
def aW:=t5 "times_in_falling" 916 "times_in_falling" 917 918 280 3 571 572 573 574 575 926 927
def WM:=t2 "times_in_falling" 50
def aX:=t6 "way" 919 "one" 920 "other" 921 "product" 922 "ahead" 923 "place" 924 "above" 925
def aY:=t0 "times_by_ratio" 49 "oddbases.sums" 862 569
def aZ:=t5 "times_by_ratio" 904 "times_by_ratio" 905 906 274 3 564 565 566 567 568 913 914
def WN:=t2 "times_by_ratio" 49
def a_:=t7 "way" 907 "one" 908 "other" 909 "product" 910 "place" 911 "above" 912
def Za:=t0 "without_debts" 48 "oddbases.sums" 862 562
def Zb:=t5 "without_debts" 894 "without_debts" 895 896 268 2 557 558 559 560 561 901 902
def WO:=t2 "without_debts" 48
def Zc:=t12 "way" 897 "row" 898 "things" 899 "place" 900
def Zd:=t0 "lend" 47 "oddbases.sums" 862 555
def Ze:=t5 "lend" 885 "lend" 886 887 261 3 550 551 552 553 554 891 892
def WP:=t2 "lend" 47
def Zf:=t11 "way" 888 "row" 889 "lender" 890
def Zg:=t0 "lender_above" 46 "oddbases.sums" 862 548
def Zh:=t5 "lender_above" 876 "lender_above" 877 878 256 2 543 544 545 546 547 882 883
def WQ:=t2 "lender_above" 46
def Zi:=t11 "row" 879 "place" 880 "lender" 881
def Zj:=t0 "row_times" 45 "oddbases.sums" 862 541
def Zk:=t1 "row_times" 870 871 872 254 2 538 539 540 873 874
def WR:=t2 "row_times" 45
def Zl:=t0 "row_plus" 44 "oddbases.sums" 862 536
def Zm:=t1 "row_plus" 864 865 866 251 2 533 534 535 867 868
def WS:=t2 "row_plus" 44
def Zo:=t0 "written_row" 42 "oddbases.writings" 816 531
def Zp:=t5 "written_row" 854 "written_row" 855 856 246 2 526 527 528 529 530 859 860
def WT:=t2 "written_row" 42
def Zq:=t9 "way" 857 "row" 858
def Zr:=t0 "held_to_be_writings" 41 "oddbases.writings" 816 524
def Zs:=t5 "held_to_be_writings" 845 "held_to_be_writings" 846 847 242 2 519 520 521 522 523 851 852
def WU:=t2 "held_to_be_writings" 41
def Zt:=t11 "way" 848 "rows" 849 "row" 850
def Zu:=t0 "is_writing" 40 "oddbases.writings" 816 517
def Zv:=t5 "is_writing" 837 "is_writing" 838 839 236 2 512 513 514 515 516 842 843
def WV:=t2 "is_writing" 40
def Zw:=t9 "way" 840 "row" 841
def Zy:=t0 "has_mosts_above_noughts_alone" 39 "oddbases.writings" 816 510
def Zz:=t5 "has_mosts_above_noughts_alone" 828 "has_mosts_above_noughts_alone" 829 830 231 2 505 506 507 508 509 834 835
def WW:=t2 "has_mosts_above_noughts_alone" 39
def ZA:=t11 "way" 831 "row" 832 "place" 833
def ZB:=t0 "has_figures_alone" 38 "oddbases.writings" 816 503
def ZC:=t5 "has_figures_alone" 818 "has_figures_alone" 819 820 226 2 498 499 500 501 502 825 826
def WX:=t2 "has_figures_alone" 38
def ZD:=t12 "way" 821 "row" 822 "place" 823 "thing" 824
def ZE:=t0 "fallen" 36 "oddbases.falls" 742 496
def ZF:=t5 "fallen" 808 "fallen" 809 810 223 2 491 492 493 494 495 813 814
def WY:=t2 "fallen" 36
def ZG:=t9 "way" 811 "heap" 812
def ZH:=t0 "steps_and_writing" 35 "oddbases.falls" 742 489
def ZI:=t5 "steps_and_writing" 795 "steps_and_writing" 796 797 208 2 484 485 486 487 488 805 806
def WZ:=t2 "steps_and_writing" 35
def ZJ:=t6 "way" 798 "heap" 799 "done" 800 "left" 801 "place" 802 "step" 803 "many" 804
def ZK:=t0 "how_often" 34 "oddbases.falls" 742 482
def ZL:=t5 "how_often" 785 "how_often" 786 787 203 3 477 478 479 480 481 792 793
def W5:=t2 "how_often" 34
def ZM:=t12 "way" 788 "heap" 789 "step" 790 "place" 791
def ZN:=t0 "step_at" 33 "oddbases.falls" 742 475
def ZO:=t5 "step_at" 776 "step_at" 777 778 197 3 470 471 472 473 474 782 783
def W6:=t2 "step_at" 33
def ZP:=t11 "way" 779 "heap" 780 "place" 781
def ZQ:=t0 "do_steps" 32 "oddbases.falls" 742 468
def ZR:=t5 "do_steps" 764 "do_steps" 765 766 192 4 463 464 465 466 467 773 774
def W7:=t2 "do_steps" 32
def ZS:=t7 "way" 767 "heap" 768 "step" 769 "many" 770 "place" 771 "things" 772
def ZT:=t0 "changes" 31 "oddbases.falls" 742 461
def ZU:=t5 "changes" 753 "changes" 754 755 180 2 456 457 458 459 460 761 762
def W8:=t2 "changes" 31
def ZV:=t8 "way" 756 "step" 757 "kind" 758 "place" 759 "parted" 760
def ZW:=t0 "held_to_be_a_heap" 30 "oddbases.falls" 742 454
def ZX:=t5 "held_to_be_a_heap" 744 "held_to_be_a_heap" 745 746 174 2 449 450 451 452 453 750 751
def W9:=t2 "held_to_be_a_heap" 30
def ZY:=t11 "way" 747 "heap" 748 "things" 749
def ZZ:=t0 "carries" 28 "oddbases.settling" 711 447
def Z0:=t5 "carries" 734 "carries" 735 736 171 2 442 443 444 445 446 739 740
def W_:=t2 "carries" 28
def Z1:=t9 "way" 737 "totals" 738
def Z2:=t0 "settled" 27 "oddbases.settling" 711 440
def Z3:=t5 "settled" 726 "settled" 727 728 169 2 435 436 437 438 439 731 732
def Va:=t2 "settled" 27
def Z4:=t9 "way" 729 "totals" 730
def Z5:=t0 "figures_and_carries" 26 "oddbases.settling" 711 433
def Z6:=t5 "figures_and_carries" 713 "figures_and_carries" 714 715 154 2 428 429 430 431 432 723 724
def Vb:=t2 "figures_and_carries" 26
def Z7:=t6 "way" 716 "totals" 717 "figures" 718 "carry" 719 "found" 720 "place" 721 "parts" 722
def Z8:=t13 425
def Z9:=t14 425
def gA:=t15 "Pairs" 425 424 374 642 650
def gB (x:Params):Obj:=(@Obj.mk (.type "dict") none (@Data.dict (List.toArray [(e_ x "__module__" 649 (p_ "oddbases.ways" 355)),(e_ x "__firstlineno__" 653 (j_ 130 652)),(e_ x "__init__" 661 (r_ 387)),(e_ x "nought" 668 (r_ 394)),(e_ x "high" 676 (r_ 401)),(e_ x "ratio" 684 (r_ 408)),(e_ x "split" 697 (r_ 415)),(e_ x "has" 705 (r_ 422)),(e_ x "__static_attributes__" 707 (r_ 423)),(e_ x "__doc__" 708 .none)]) 2) #[])
def gC:=t10 "most" 706
def gE:=t16 "has" "Pairs.has" 24 5 421
def gF:=t5 "has" 698 "Pairs.has" 699 700 151 2 416 417 418 419 420 703 704
def Yb:=t17 "has" "Pairs.has" 24 5
def gG:=t9 "self" 701 "number" 702
def gH:=t16 "split" "Pairs.split" 24 4 414
def gJ:=t5 "split" 685 "Pairs.split" 686 687 144 3 409 410 411 412 413 695 696
def Yc:=t17 "split" "Pairs.split" 24 4
def gK:=t6 "self" 688 "total" 689 "place" 690 "pair" 691 "figures" 692 "figure" 693 "turned" 694
def gL:=t16 "ratio" "Pairs.ratio" 24 3 407
def gM:=t5 "ratio" 677 "Pairs.ratio" 678 679 141 2 402 403 404 405 406 682 683
def Yd:=t17 "ratio" "Pairs.ratio" 24 3
def gN:=t9 "self" 680 "place" 681
def gO:=t16 "high" "Pairs.high" 24 2 400
def gP:=t5 "high" 669 "Pairs.high" 670 671 138 2 395 396 397 398 399 674 675
def Ye:=t17 "high" "Pairs.high" 24 2
def gQ:=t9 "self" 672 "place" 673
def gR:=t16 "nought" "Pairs.nought" 24 1 393
def gS:=t5 "nought" 662 "Pairs.nought" 663 664 135 1 388 389 390 391 392 666 667
def Yg:=t17 "nought" "Pairs.nought" 24 1
def gT:=t10 "self" 665
def gW:=t16 "__init__" "Pairs.__init__" 24 0 386
def gX:=t5 "__init__" 654 "Pairs.__init__" 655 656 132 2 381 382 383 384 385 659 660
def Yh:=t17 "__init__" "Pairs.__init__" 24 0
def gY:=t9 "self" 657 "most" 658
def Yi:=t18 379 376 "oddbases.ways" 355
def Yj:=t19 "Pairs" 644 645 646 130 377 378 647 648
def Yk:=t20 132 386 135 393 138 400 141 407 144 414 151 421
def Yl:=t21 649 651 "Pairs" 650 653 130 652 "__init__" 661 387 "nought" 668 394 "high" 676 401 "ratio" 684 408 697 415 705 422 707 423
def zR:=t22
def xF:=t23 202
def Ym:=t13 371
def Yn:=t14 371
def g6:=t15 "Falling" 371 370 327 584 592
def g7:=t24 591 595 114 594 603 340 "high" 611 347 "weights" 619 354 627 361 "split" 636 368 638 369 639
def g8:=t10 "most" 637
def g9:=t16 "split" "Falling.split" 23 4 367
def fb:=t5 "split" 628 "Falling.split" 629 630 128 3 362 363 364 365 366 634 635
def Yo:=t17 "split" "Falling.split" 23 4
def fc:=t11 "self" 631 "total" 632 "place" 633
def fe:=t16 "ratio" "Falling.ratio" 23 3 360
def ff:=t5 "ratio" 620 "Falling.ratio" 621 622 125 2 355 356 357 358 359 625 626
def Yp:=t17 "ratio" "Falling.ratio" 23 3
def fg:=t9 "self" 623 "place" 624
def fh:=t16 "weights" "Falling.weights" 23 2 353
def fj:=t5 "weights" 612 "Falling.weights" 613 614 122 2 348 349 350 351 352 617 618
def Yq:=t17 "weights" "Falling.weights" 23 2
def fk:=t9 "self" 615 "many" 616
def fm:=t16 "high" "Falling.high" 23 1 346
def fq:=t5 "high" 604 "Falling.high" 605 606 119 2 341 342 343 344 345 609 610
def Yr:=t17 "high" "Falling.high" 23 1
def ft:=t9 "self" 607 "place" 608
def fu:=t16 "__init__" "Falling.__init__" 23 0 339
def fv:=t5 "__init__" 596 "Falling.__init__" 597 598 116 2 334 335 336 337 338 601 602
def Ys:=t17 "__init__" "Falling.__init__" 23 0
def fw:=t9 "self" 599 "most" 600
def Yt:=t18 332 329 "oddbases.ways" 355
def Yu:=t19 "Falling" 586 587 588 114 330 331 589 590
def Yv:=t25 116 339 119 346 122 353 125 360 128 367
def Yw:=t26 591 593 "Falling" 592 595 114 594 603 340 "high" 611 347 "weights" 619 354 627 361 "split" 636 368 638 369
def Yx:=t13 324
def Yy:=t14 324
def fz:=t15 "Balanced" 324 323 280 527 535
def fA:=t24 534 538 98 537 546 293 "low" 554 300 "high" 562 307 570 314 "has" 578 321 580 322 581
def fB:=t10 "half" 579
def fC:=t16 "has" "Balanced.has" 22 4 320
def fD:=t5 "has" 571 "Balanced.has" 572 573 112 2 315 316 317 318 319 576 577
def Yz:=t17 "has" "Balanced.has" 22 4
def fE:=t9 "self" 574 "number" 575
def fF:=t16 "ratio" "Balanced.ratio" 22 3 313
def fG:=t5 "ratio" 563 "Balanced.ratio" 564 565 109 2 308 309 310 311 312 568 569
def YA:=t17 "ratio" "Balanced.ratio" 22 3
def fH:=t9 "self" 566 "place" 567
def fI:=t16 "high" "Balanced.high" 22 2 306
def fJ:=t5 "high" 555 "Balanced.high" 556 557 106 2 301 302 303 304 305 560 561
def YB:=t17 "high" "Balanced.high" 22 2
def fK:=t9 "self" 558 "place" 559
def fL:=t16 "low" "Balanced.low" 22 1 299
def fM:=t5 "low" 547 "Balanced.low" 548 549 103 2 294 295 296 297 298 552 553
def YC:=t17 "low" "Balanced.low" 22 1
def fN:=t9 "self" 550 "place" 551
def fO:=t16 "__init__" "Balanced.__init__" 22 0 292
def fP:=t5 "__init__" 539 "Balanced.__init__" 540 541 100 2 287 288 289 290 291 544 545
def YD:=t17 "__init__" "Balanced.__init__" 22 0
def fQ:=t9 "self" 542 "half" 543
def YE:=t18 285 282 "oddbases.ways" 355
def YF:=t19 "Balanced" 529 530 531 98 283 284 532 533
def YG:=t25 100 292 103 299 106 306 109 313 112 320
def YH:=t26 534 536 "Balanced" 535 538 98 537 546 293 "low" 554 300 "high" 562 307 570 314 "has" 578 321 580 322
def YI:=t13 277
def YJ:=t14 277
def fR:=t15 "Below" 277 276 240 478 486
def fS (x:Params):Obj:=(@Obj.mk (.type "dict") none (@Data.dict (List.toArray [(e_ x "__module__" 485 (p_ "oddbases.ways" 355)),(e_ x "__firstlineno__" 489 (j_ 85 488)),(e_ x "__init__" 497 (r_ 253)),(e_ x "high" 505 (r_ 260)),(e_ x "ratio" 513 (r_ 267)),(e_ x "has" 521 (r_ 274)),(e_ x "__static_attributes__" 523 (r_ 275)),(e_ x "__doc__" 524 .none)]) 2) #[])
def fU:=t10 "base" 522
def fV:=t16 "has" "Below.has" 21 3 273
def fW:=t5 "has" 514 "Below.has" 515 516 96 2 268 269 270 271 272 519 520
def YK:=t17 "has" "Below.has" 21 3
def fX:=t9 "self" 517 "number" 518
def fY:=t16 "ratio" "Below.ratio" 21 2 266
def fZ:=t5 "ratio" 506 "Below.ratio" 507 508 93 2 261 262 263 264 265 511 512
def YL:=t17 "ratio" "Below.ratio" 21 2
def f_:=t9 "self" 509 "place" 510
def eh:=t16 "high" "Below.high" 21 1 259
def ey:=t5 "high" 498 "Below.high" 499 500 90 2 254 255 256 257 258 503 504
def YM:=t17 "high" "Below.high" 21 1
def eA:=t9 "self" 501 "place" 502
def eB:=t16 "__init__" "Below.__init__" 21 0 252
def eD:=t5 "__init__" 490 "Below.__init__" 491 492 87 2 247 248 249 250 251 495 496
def YN:=t17 "__init__" "Below.__init__" 21 0
def eE:=t9 "self" 493 "base" 494
def YO:=t18 245 242 "oddbases.ways" 355
def YQ:=t19 "Below" 480 481 482 85 243 244 483 484
def YR (x:Params):Obj:=(@Obj.mk .none none (@Data.fields (List.toArray [(j_ 87 0),(j_ 4 0),(r_ 252),(j_ 90 0),(j_ 4 0),(r_ 259),(j_ 93 0),(j_ 4 0),(r_ 266),(j_ 96 0),(j_ 4 0),(r_ 273)])) #[])
def YS (x:Params):Obj:=(@Obj.mk (.type "dict") none (@Data.dict (List.toArray [(e_ x "__module__" 485 (p_ "oddbases.ways" 355)),(e_ x "__qualname__" 487 (p_ "Below" 486)),(e_ x "__firstlineno__" 489 (j_ 85 488)),(e_ x "__init__" 497 (r_ 253)),(e_ x "high" 505 (r_ 260)),(e_ x "ratio" 513 (r_ 267)),(e_ x "has" 521 (r_ 274)),(e_ x "__static_attributes__" 523 (r_ 275))]) 8) #[])
def YT:=t13 237
def YU:=t14 237
def eG:=t15 "Plain" 237 236 207 437 445
def eH (x:Params):Obj:=(@Obj.mk (.type "dict") none (@Data.dict (List.toArray [(e_ x "__module__" 444 (p_ "oddbases.ways" 355)),(e_ x "__firstlineno__" 448 (j_ 75 447)),(e_ x "__init__" 456 (r_ 220)),(e_ x "high" 464 (r_ 227)),(e_ x "ratio" 472 (r_ 234)),(e_ x "__static_attributes__" 474 (r_ 235)),(e_ x "__doc__" 475 .none)]) 2) #[])
def eI:=t10 "base" 473
def eJ:=t16 "ratio" "Plain.ratio" 20 2 233
def eK:=t5 "ratio" 465 "Plain.ratio" 466 467 83 2 228 229 230 231 232 470 471
def YV:=t17 "ratio" "Plain.ratio" 20 2
def eN:=t9 "self" 468 "place" 469
def eO:=t16 "high" "Plain.high" 20 1 226
def eP:=t5 "high" 457 "Plain.high" 458 459 80 2 221 222 223 224 225 462 463
def YW:=t17 "high" "Plain.high" 20 1
def eQ:=t9 "self" 460 "place" 461
def eS:=t16 "__init__" "Plain.__init__" 20 0 219
def eT:=t5 "__init__" 449 "Plain.__init__" 450 451 77 2 214 215 216 217 218 454 455
def YX:=t17 "__init__" "Plain.__init__" 20 0
def eV:=t9 "self" 452 "base" 453
def YY:=t18 212 209 "oddbases.ways" 355
def YZ:=t19 "Plain" 439 440 441 75 210 211 442 443
def Y5 (x:Params):Obj:=(@Obj.mk .none none (@Data.fields (List.toArray [(j_ 77 0),(j_ 4 0),(r_ 219),(j_ 80 0),(j_ 4 0),(r_ 226),(j_ 83 0),(j_ 4 0),(r_ 233)])) #[])
def Y6 (x:Params):Obj:=(@Obj.mk (.type "dict") none (@Data.dict (List.toArray [(e_ x "__module__" 444 (p_ "oddbases.ways" 355)),(e_ x "__qualname__" 446 (p_ "Plain" 445)),(e_ x "__firstlineno__" 448 (j_ 75 447)),(e_ x "__init__" 456 (r_ 220)),(e_ x "high" 464 (r_ 227)),(e_ x "ratio" 472 (r_ 234)),(e_ x "__static_attributes__" 474 (r_ 235))]) 7) #[])
def eW:=t13 202
def eX:=t14 202
def kB:=t27 432 202
def kC (x:Params):Obj:=(@Obj.mk (.type "getset_descriptor") none (@Data.fields (List.toArray [(p_ "__dict__" 430),(r_ 202),(.builtin "function.__dict__"),(.builtin "function.__dict__#set")])) #[])
def gZ (x:Params):Obj:=(@Obj.mk (.type "type") none (@Data.cls (@ClassData.mk (.ofString "Way") [(.type "object")] [(r_ 202),(.type "object")] 201 (.ofString "Way") @Bool.true [] [(r_ 237),(r_ 277),(r_ 324),(r_ 371),(r_ 425)] @Bool.false (@Option.none @Bool) @Bool.false)) (@List.toArray (@Option @Value) [none,none,(some (p_ "Way" 366)),(some (p_ "Way" 374)),(some (.builtin "object.__new__")),(some (.bool @Bool.true))]))
def kD (x:Params):Obj:=(@Obj.mk (.type "dict") none (@Data.dict (List.toArray [(e_ x "__module__" 373 (p_ "oddbases.ways" 355)),(e_ x "__firstlineno__" 377 (j_ 53 376)),(e_ x "nought" 384 (r_ 164)),(e_ x "low" 392 (r_ 171)),(e_ x "weights" 400 (r_ 178)),(e_ x "weight" 408 (r_ 185)),(e_ x "split" 420 (r_ 192)),(e_ x "has" 428 (r_ 199)),(e_ x "__static_attributes__" 429 (r_ 200)),(e_ x "__dict__" 431 (r_ 203)),(e_ x "__weakref__" 433 (r_ 204)),(e_ x "__doc__" 434 .none)]) 4) #[])
def kE:=t16 "has" "Way.has" 19 5 198
def kF:=t5 "has" 421 "Way.has" 422 423 73 2 193 194 195 196 197 426 427
def eY:=t17 "has" "Way.has" 19 5
def kG:=t9 "self" 424 "number" 425
def kH:=t16 "split" "Way.split" 19 4 191
def kI:=t5 "split" 409 "Way.split" 410 411 67 3 186 187 188 189 190 418 419
def eZ:=t17 "split" "Way.split" 19 4
def kJ:=t7 "self" 412 "total" 413 "place" 414 "low" 415 "figures" 416 "figure" 417
def kK:=t16 "weight" "Way.weight" 19 3 184
def kL:=t5 "weight" 401 "Way.weight" 402 403 64 2 179 180 181 182 183 406 407
def e7:=t17 "weight" "Way.weight" 19 3
def kM:=t9 "self" 404 "place" 405
def kN:=t16 "weights" "Way.weights" 19 2 177
def kO:=t5 "weights" 393 "Way.weights" 394 395 61 2 172 173 174 175 176 398 399
def e8:=t17 "weights" "Way.weights" 19 2
def kP:=t9 "self" 396 "many" 397
def kQ:=t16 "low" "Way.low" 19 1 170
def kR:=t5 "low" 385 "Way.low" 386 387 58 2 165 166 167 168 169 390 391
def e9:=t17 "low" "Way.low" 19 1
def kS:=t9 "self" 388 "place" 389
def kT:=t16 "nought" "Way.nought" 19 0 163
def kU:=t5 "nought" 378 "Way.nought" 379 380 55 1 158 159 160 161 162 382 383
def db:=t17 "nought" "Way.nought" 19 0
def kW:=t10 "self" 381
def df:=t18 156 153 "oddbases.ways" 355
def dj:=t19 "Way" 368 369 370 53 154 155 371 372
def dk:=t20 55 163 58 170 61 177 64 184 67 191 73 198
def dm:=t21 373 375 "Way" 374 377 53 376 "nought" 384 164 "low" 392 171 "weights" 400 178 "weight" 408 185 420 192 428 199 429 200
def kX:=t0 "bounded" 18 "oddbases.ways" 355 149
def kY:=t5 "bounded" 357 "bounded" 358 359 49 3 144 145 146 147 148 363 364
def dn:=t2 "bounded" 18
def kZ:=t11 "number" 360 "least" 361 "most" 362
def k_:=t0 "trimmed" 16 "oddbases.rows" 337 142
def ja:=t5 "trimmed" 347 "trimmed" 348 349 43 1 137 138 139 140 141 352 353
def dq:=t2 "trimmed" 16
def jb:=t9 "row" 350 "things" 351
def jc:=t0 "thing_at" 15 "oddbases.rows" 337 135
def jd:=t5 "thing_at" 339 "thing_at" 340 341 39 2 130 131 132 133 134 344 345
def dr:=t2 "thing_at" 15
def je:=t9 "row" 342 "place" 343
def jf:=t0 "multiplied" 13 "oddbases.pairs" 294 128
def jg:=t5 "multiplied" 327 "multiplied" 328 329 32 2 123 124 125 126 127 334 335
def du:=t2 "multiplied" 13
def jh:=t12 "one" 330 "other" 331 "left" 332 "right" 333
def ji:=t0 "added" 12 "oddbases.pairs" 294 121
def jk:=t5 "added" 317 "added" 318 319 26 2 116 117 118 119 120 324 325
def dw:=t2 "added" 12
def jl:=t12 "one" 320 "other" 321 "left" 322 "right" 323
def jm:=t0 "as_pair" 11 "oddbases.pairs" 294 114
def jn:=t5 "as_pair" 310 "as_pair" 311 312 22 1 109 110 111 112 113 314 315
def dz:=t2 "as_pair" 11
def jo:=t10 "number" 313
def jp:=t0 "is_pair" 10 "oddbases.pairs" 294 107
def jq:=t5 "is_pair" 303 "is_pair" 304 305 20 1 102 103 104 105 106 307 308
def dA:=t2 "is_pair" 10
def jr:=t10 "value" 306
def jt:=t0 "is_whole" 9 "oddbases.pairs" 294 100
def ju:=t5 "is_whole" 296 "is_whole" 297 298 18 1 95 96 97 98 99 300 301
def dB:=t2 "is_whole" 9
def jv:=t10 "value" 299
def dD:=t13 92
def dE:=t14 92
def jw:=t28 "NoFalling" 92 91 83 278 286
def jx:=t29 285 289 15 288 290 90 291
def dF:=t18 88 85 "oddbases.errors" 194
def dG:=t19 "NoFalling" 280 281 282 15 86 87 283 284
def dH:=t30 285 287 "NoFalling" 286 289 15 288 290 90
def yM:=t23 31
def dI:=t13 80
def dJ:=t14 80
def jz:=t28 "NoRatio" 80 79 71 262 270
def jA:=t29 269 273 13 272 274 78 275
def dL:=t18 76 73 "oddbases.errors" 194
def dM:=t19 "NoRatio" 264 265 266 13 74 75 267 268
def dN:=t30 269 271 "NoRatio" 270 273 13 272 274 78
def dO:=t13 68
def dP:=t14 68
def jB:=t28 "TooLess" 68 67 59 246 254
def jC:=t29 253 257 11 256 258 66 259
def dQ:=t18 64 61 "oddbases.errors" 194
def dR:=t19 "TooLess" 248 249 250 11 62 63 251 252
def dS:=t30 253 255 "TooLess" 254 257 11 256 258 66
def dU:=t13 56
def o99:=t14 56
def o98:=t28 "NoWriting" 56 55 47 230 238
def o97:=t29 237 241 9 240 242 54 243
def o95:=t18 52 49 "oddbases.errors" 194
def o94:=t19 "NoWriting" 232 233 234 9 50 51 235 236
def o91:=t30 237 239 "NoWriting" 238 241 9 240 242 54
def o85:=t13 44
def o84:=t14 44
def o83:=t28 "NoWay" 44 43 35 214 222
def o82:=t29 221 225 7 224 226 42 227
def o80:=t18 40 37 "oddbases.errors" 194
def o79:=t19 "NoWay" 216 217 218 7 38 39 219 220
def o76:=t30 221 223 "NoWay" 222 225 7 224 226 42
def o70:=t13 31
def o69:=t14 31
def o68:=t27 209 31
def jy (x:Params):Obj:=(@Obj.mk (.type "type") none (@Data.cls (@ClassData.mk (.ofString "OddError") [(.type "ValueError")] [(r_ 31),(.type "ValueError"),(.type "Exception"),(.type "BaseException"),(.type "object")] 30 (.ofString "OddError") @Bool.true [] [(r_ 44),(r_ 56),(r_ 68),(r_ 80),(r_ 92)] @Bool.false (@Option.none @Bool) @Bool.false)) (@List.toArray (@Option @Value) [(some (r_ 22)),none,(some (p_ "OddError" 196)),(some (p_ "OddError" 204)),(some (.builtin "ValueError.__new__")),(some (.bool @Bool.true))]))
def o66 (x:Params):Obj:=(@Obj.mk (.type "dict") none (@Data.dict (List.toArray [(e_ x "__module__" 203 (p_ "oddbases.errors" 194)),(e_ x "__firstlineno__" 207 (j_ 5 206)),(e_ x "__static_attributes__" 208 (r_ 29)),(e_ x "__weakref__" 210 (r_ 32)),(e_ x "__doc__" 211 .none)]) 3) #[])
def o64:=t18 27 24 "oddbases.errors" 194
def o63:=t19 "OddError" 198 199 200 5 25 26 201 202
def o60:=t30 203 205 "OddError" 204 207 5 206 208 29
def o58 (x:Params):Obj:=(@Obj.mk (.type "tuple") none (@Data.seq (List.toArray [(.type "ValueError")]) 0) #[])
def o57:=t0 "_wall" 0 "__main__" 164 20
def o56:=t5 "_wall" 187 "_wall" 188 189 1 1 15 16 17 18 19 191 192
def o55:=t2 "_wall" 0
def o53:=t10 "k" 190
def o46:=t18 13 3 "__main__" 164
def o45:=t19 "<module>" 182 183 184 1 11 12 185 186
def Wy (x:Params):Obj:=(@Obj.mk .none none (@Data.fields (List.toArray ((j_ 1 0)::(j_ 0 0)::(r_ 20)::(j_ 5 0)::(j_ 0 0)::(r_ 27)::(j_ 7 0)::(j_ 0 0)::(r_ 40)::(j_ 9 0)::(j_ 0 0)::(r_ 52)::(j_ 11 0)::(j_ 0 0)::(r_ 64)::(j_ 13 0)::(j_ 0 0)::(r_ 76)::(j_ 15 0)::(j_ 0 0)::(r_ 88)::(j_ 18 0)::(j_ 0 0)::(r_ 100)::(j_ 20 0)::(j_ 0 0)::(r_ 107)::(j_ 22 0)::(j_ 0 0)::(r_ 114)::(j_ 26 0)::(j_ 0 0)::(r_ 121)::(j_ 32 0)::(j_ 0 0)::(r_ 128)::(j_ 39 0)::(j_ 0 0)::(r_ 135)::(j_ 43 0)::(j_ 0 0)::(r_ 142)::(j_ 49 0)::(j_ 0 0)::(r_ 149)::(j_ 53 0)::(j_ 0 0)::(r_ 156)::(j_ 75 0)::(j_ 0 0)::(r_ 212)::(j_ 85 0)::(j_ 0 0)::(r_ 245)::(j_ 98 0)::(j_ 0 0)::(r_ 285)::(j_ 114 0)::(j_ 0 0)::(r_ 332)::(j_ 130 0)::(j_ 0 0)::(r_ 379)::(j_ 154 0)::(j_ 0 0)::(r_ 433)::(j_ 169 0)::(j_ 0 0)::(r_ 440)::(j_ 171 0)::(j_ 0 0)::(r_ 447)::(j_ 174 0)::(j_ 0 0)::(r_ 454)::(j_ 180 0)::(j_ 0 0)::(r_ 461)::(j_ 192 0)::(j_ 0 0)::(r_ 468)::(j_ 197 0)::(j_ 0 0)::(r_ 475)::(j_ 203 0)::(j_ 0 0)::(r_ 482)::(j_ 208 0)::(j_ 0 0)::(r_ 489)::(j_ 223 0)::(j_ 0 0)::(r_ 496)::(j_ 226 0)::(j_ 0 0)::(r_ 503)::(j_ 231 0)::(j_ 0 0)::(r_ 510)::(j_ 236 0)::(j_ 0 0)::(r_ 517)::(j_ 242 0)::(j_ 0 0)::(r_ 524)::(j_ 246 0)::(j_ 0 0)::(r_ 531)::(j_ 251 0)::(j_ 0 0)::(r_ 536)::(j_ 254 0)::(j_ 0 0)::(r_ 541)::(j_ 256 0)::(j_ 0 0)::(r_ 548)::(j_ 261 0)::(j_ 0 0)::(r_ 555)::(j_ 268 0)::(j_ 0 0)::(r_ 562)::(j_ 274 0)::(j_ 0 0)::(r_ 569)::(j_ 280 0)::(j_ 0 0)::(r_ 576)::(j_ 288 0)::(j_ 0 0)::(r_ 583)::(j_ 291 0)::(j_ 0 0)::(r_ 590)::(j_ 297 0)::(j_ 0 0)::(r_ 597)::(j_ 303 0)::(j_ 0 0)::(r_ 604)::(j_ 307 0)::(j_ 0 0)::(r_ 611)::(j_ 309 0)::(j_ 0 0)::(r_ 618)::(j_ 311 0)::(j_ 0 0)::(r_ 625)::(j_ 319 0)::(j_ 0 0)::(r_ 632)::(j_ 321 0)::(j_ 0 0)::(r_ 639)::(j_ 330 0)::(j_ 0 0)::(r_ 646)::(j_ 336 0)::(j_ 0 0)::(r_ 653)::(j_ 340 0)::(j_ 0 0)::(r_ 658)::(j_ 357 0)::(j_ 0 0)::(r_ 665)::(j_ 363 0)::(j_ 0 0)::(r_ 672)::(j_ 373 0)::(j_ 0 0)::(r_ 679)::(j_ 385 0)::(j_ 0 0)::(r_ 686)::(j_ 391 0)::(j_ 0 0)::(r_ 693)::(j_ 401 0)::(j_ 0 0)::(r_ 698)::[]))) #[])
def ac (x:Params):Obj:=(@Obj.mk (.type "dict") none (@Data.dict (List.toArray ((e_ x "__name__" 165 (p_ "law_oddbases_k63_whole_by_carries" 957))::(e_ x "__doc__" 166 .none)::(e_ x "__package__" 167 .none)::(U0 x)::(e_ x "__spec__" 169 .none)::(U2 x)::(e_ x "__builtins__" 171 (r_ 4))::(U1 x)::(e_ x "__cached__" 174 .none)::(e_ x "_wall" 193 (r_ 21))::(e_ x "OddError" 213 (r_ 31))::(e_ x "NoWay" 229 (r_ 44))::(e_ x "NoWriting" 245 (r_ 56))::(e_ x "TooLess" 261 (r_ 68))::(e_ x "NoRatio" 277 (r_ 80))::(e_ x "NoFalling" 293 (r_ 92))::(e_ x "is_whole" 302 (r_ 101))::(e_ x "is_pair" 309 (r_ 108))::(e_ x "as_pair" 316 (r_ 115))::(e_ x "added" 326 (r_ 122))::(e_ x "multiplied" 336 (r_ 129))::(e_ x "thing_at" 346 (r_ 136))::(e_ x "trimmed" 354 (r_ 143))::(e_ x "bounded" 365 (r_ 150))::(e_ x "Way" 436 (r_ 202))::(e_ x "Plain" 477 (r_ 237))::(e_ x "Below" 526 (r_ 277))::(e_ x "Balanced" 583 (r_ 324))::(e_ x "Falling" 641 (r_ 371))::(e_ x "Pairs" 710 (r_ 425))::(e_ x "figures_and_carries" 725 (r_ 434))::(e_ x "settled" 733 (r_ 441))::(e_ x "carries" 741 (r_ 448))::(e_ x "held_to_be_a_heap" 752 (r_ 455))::(e_ x "changes" 763 (r_ 462))::(e_ x "do_steps" 775 (r_ 469))::(e_ x "step_at" 784 (r_ 476))::(e_ x "how_often" 794 (r_ 483))::(e_ x "steps_and_writing" 807 (r_ 490))::(e_ x "fallen" 815 (r_ 497))::(e_ x "has_figures_alone" 827 (r_ 504))::(e_ x "has_mosts_above_noughts_alone" 836 (r_ 511))::(e_ x "is_writing" 844 (r_ 518))::(e_ x "held_to_be_writings" 853 (r_ 525))::(e_ x "written_row" 861 (r_ 532))::(e_ x "row_plus" 869 (r_ 537))::(e_ x "row_times" 875 (r_ 542))::(e_ x "lender_above" 884 (r_ 549))::(e_ x "lend" 893 (r_ 556))::(e_ x "without_debts" 903 (r_ 563))::(e_ x "times_by_ratio" 915 (r_ 570))::(e_ x "times_in_falling" 928 (r_ 577))::(e_ x "plus" 937 (r_ 584))::(e_ x "minus" 947 (r_ 591))::(e_ x "times" 956 (r_ 598))::(e_ x "_law_cell_at" 966 (r_ 605))::(e_ x "_law_whole" 973 (r_ 612))::(e_ x "_law_size" 981 (r_ 619))::(e_ x "_law_made" 989 (r_ 626))::(e_ x "_law_bounds" 997 (r_ 633))::(e_ x "_law_legal" 1011 (r_ 640))::(e_ x "_law_figure" 1022 (r_ 647))::(e_ x "_law_is_carry" 1030 (r_ 654))::(e_ x "_law_walked" 1036 (r_ 659))::(e_ x "_law_product" 1047 (r_ 666))::(e_ x "_law_together" 1059 (r_ 673))::(e_ x "_law_less" 1071 (r_ 680))::(e_ x "_law_difference" 1084 (r_ 687))::(e_ x "_law_right" 1097 (r_ 694))::(e_ x "law" 1103 (r_ 699))::[])) 70) #[])
def Uk (x:Params):Obj:=(@Obj.mk .none none (@Data.fields (List.toArray ((j_ 1 0)::(j_ 0 0)::(r_ 20)::(j_ 5 0)::(j_ 0 0)::(r_ 27)::(j_ 7 0)::(j_ 0 0)::(r_ 40)::(j_ 9 0)::(j_ 0 0)::(r_ 52)::(j_ 11 0)::(j_ 0 0)::(r_ 64)::(j_ 13 0)::(j_ 0 0)::(r_ 76)::(j_ 15 0)::(j_ 0 0)::(r_ 88)::(j_ 18 0)::(j_ 0 0)::(r_ 100)::(j_ 20 0)::(j_ 0 0)::(r_ 107)::(j_ 22 0)::(j_ 0 0)::(r_ 114)::(j_ 26 0)::(j_ 0 0)::(r_ 121)::(j_ 32 0)::(j_ 0 0)::(r_ 128)::(j_ 39 0)::(j_ 0 0)::(r_ 135)::(j_ 43 0)::(j_ 0 0)::(r_ 142)::(j_ 49 0)::(j_ 0 0)::(r_ 149)::(j_ 53 0)::(j_ 0 0)::(r_ 156)::(j_ 75 0)::(j_ 0 0)::(r_ 212)::(j_ 85 0)::(j_ 0 0)::(r_ 245)::(j_ 98 0)::(j_ 0 0)::(r_ 285)::(j_ 114 0)::(j_ 0 0)::(r_ 332)::(j_ 130 0)::(j_ 0 0)::(r_ 379)::[]))) #[])
def Ul (x:Params):Obj:=(@Obj.mk (.type "dict") none (@Data.dict (List.toArray [(e_ x "__name__" 165 (p_ "oddbases.ways" 355)),(e_ x "__doc__" 166 .none),(e_ x "__package__" 167 .none),(U0 x),(e_ x "__spec__" 169 .none),(U2 x),(e_ x "__builtins__" 171 (r_ 4)),(U1 x),(e_ x "__cached__" 174 .none),(e_ x "_wall" 193 (r_ 21)),(e_ x "OddError" 213 (r_ 31)),(e_ x "NoWay" 229 (r_ 44)),(e_ x "NoWriting" 245 (r_ 56)),(e_ x "TooLess" 261 (r_ 68)),(e_ x "NoRatio" 277 (r_ 80)),(e_ x "NoFalling" 293 (r_ 92)),(e_ x "is_whole" 302 (r_ 101)),(e_ x "is_pair" 309 (r_ 108)),(e_ x "as_pair" 316 (r_ 115)),(e_ x "added" 326 (r_ 122)),(e_ x "multiplied" 336 (r_ 129)),(e_ x "thing_at" 346 (r_ 136)),(e_ x "trimmed" 354 (r_ 143)),(e_ x "bounded" 365 (r_ 150)),(e_ x "Way" 436 (r_ 202)),(e_ x "Plain" 477 (r_ 237)),(e_ x "Below" 526 (r_ 277)),(e_ x "Balanced" 583 (r_ 324)),(e_ x "Falling" 641 (r_ 371)),(e_ x "Pairs" 710 (r_ 425))]) 30) #[])
def Um (x:Params):Obj:=(@Obj.mk (.type "type") none (@Data.cls (@ClassData.mk (.ofString "Way") [(.type "object")] [(r_ 202),(.type "object")] 201 (.ofString "Way") @Bool.true [] [] @Bool.false (@Option.none @Bool) @Bool.false)) (@List.toArray (@Option @Value) [none,none,(some (p_ "Way" 366)),(some (p_ "Way" 374)),(some (.builtin "object.__new__")),(some (.bool @Bool.true))]))
def Uo (x:Params):Obj:=(@Obj.mk .none none (@Data.fields (List.toArray [(j_ 1 0),(j_ 0 0),(r_ 20),(j_ 5 0),(j_ 0 0),(r_ 27),(j_ 7 0),(j_ 0 0),(r_ 40),(j_ 9 0),(j_ 0 0),(r_ 52),(j_ 11 0),(j_ 0 0),(r_ 64),(j_ 13 0),(j_ 0 0),(r_ 76),(j_ 15 0),(j_ 0 0),(r_ 88),(j_ 18 0),(j_ 0 0),(r_ 100),(j_ 20 0),(j_ 0 0),(r_ 107),(j_ 22 0),(j_ 0 0),(r_ 114),(j_ 26 0),(j_ 0 0),(r_ 121),(j_ 32 0),(j_ 0 0),(r_ 128),(j_ 39 0),(j_ 0 0),(r_ 135),(j_ 43 0),(j_ 0 0),(r_ 142),(j_ 49 0),(j_ 0 0),(r_ 149),(j_ 53 0),(j_ 0 0),(r_ 156)])) #[])
def Up (x:Params):Obj:=(@Obj.mk (.type "dict") none (@Data.dict (List.toArray [(e_ x "__name__" 165 (p_ "oddbases.ways" 355)),(e_ x "__doc__" 166 .none),(e_ x "__package__" 167 .none),(U0 x),(e_ x "__spec__" 169 .none),(U2 x),(e_ x "__builtins__" 171 (r_ 4)),(U1 x),(e_ x "__cached__" 174 .none),(e_ x "_wall" 193 (r_ 21)),(e_ x "OddError" 213 (r_ 31)),(e_ x "NoWay" 229 (r_ 44)),(e_ x "NoWriting" 245 (r_ 56)),(e_ x "TooLess" 261 (r_ 68)),(e_ x "NoRatio" 277 (r_ 80)),(e_ x "NoFalling" 293 (r_ 92)),(e_ x "is_whole" 302 (r_ 101)),(e_ x "is_pair" 309 (r_ 108)),(e_ x "as_pair" 316 (r_ 115)),(e_ x "added" 326 (r_ 122)),(e_ x "multiplied" 336 (r_ 129)),(e_ x "thing_at" 346 (r_ 136)),(e_ x "trimmed" 354 (r_ 143)),(e_ x "bounded" 365 (r_ 150)),(e_ x "Way" 436 (r_ 202))]) 25) #[])
abbrev Y4:=N_ zh (L_ zb) Z_
abbrev Y3:=N_ zh (L_ zh) Z_
abbrev Y2:=N_ zb (L_ zh) Z_
abbrev Y1:=N_ zb (L_ zb) Z_
abbrev Y0:=N_ zb (L_ zb) (L_ zh)
def myAs:List Nat:=((nat_lit 2)::(nat_lit 3)::(nat_lit 15)::(nat_lit 17)::(nat_lit 18)::(nat_lit 20)::(nat_lit 21)::(nat_lit 22)::(nat_lit 29)::(nat_lit 30)::(nat_lit 31)::(nat_lit 32)::(nat_lit 35)::(nat_lit 42)::(nat_lit 43)::(nat_lit 44)::(nat_lit 47)::(nat_lit 54)::(nat_lit 55)::(nat_lit 56)::(nat_lit 59)::(nat_lit 66)::(nat_lit 67)::(nat_lit 68)::(nat_lit 71)::(nat_lit 78)::(nat_lit 79)::(nat_lit 80)::(nat_lit 83)::(nat_lit 90)::(nat_lit 91)::(nat_lit 92)::(nat_lit 95)::(nat_lit 97)::(nat_lit 98)::(nat_lit 100)::(nat_lit 101)::(nat_lit 102)::(nat_lit 104)::(nat_lit 105)::(nat_lit 107)::(nat_lit 108)::(nat_lit 109)::(nat_lit 111)::(nat_lit 112)::(nat_lit 114)::(nat_lit 115)::(nat_lit 116)::(nat_lit 118)::(nat_lit 119)::(nat_lit 121)::(nat_lit 122)::(nat_lit 123)::(nat_lit 125)::(nat_lit 126)::(nat_lit 128)::(nat_lit 129)::(nat_lit 130)::(nat_lit 132)::(nat_lit 133)::(nat_lit 135)::(nat_lit 136)::(nat_lit 137)::(nat_lit 139)::(nat_lit 140)::(nat_lit 142)::(nat_lit 143)::(nat_lit 144)::(nat_lit 146)::(nat_lit 147)::(nat_lit 149)::(nat_lit 150)::(nat_lit 158)::(nat_lit 160)::(nat_lit 161)::(nat_lit 163)::(nat_lit 164)::(nat_lit 165)::(nat_lit 167)::(nat_lit 168)::(nat_lit 170)::(nat_lit 171)::(nat_lit 172)::(nat_lit 174)::(nat_lit 175)::(nat_lit 177)::(nat_lit 178)::(nat_lit 179)::(nat_lit 181)::(nat_lit 182)::(nat_lit 184)::(nat_lit 185)::(nat_lit 186)::(nat_lit 188)::(nat_lit 189)::(nat_lit 191)::(nat_lit 192)::(nat_lit 193)::(nat_lit 195)::(nat_lit 196)::(nat_lit 198)::(nat_lit 199)::(nat_lit 200)::(nat_lit 201)::(nat_lit 202)::(nat_lit 203)::(nat_lit 204)::(nat_lit 207)::(nat_lit 214)::(nat_lit 216)::(nat_lit 217)::(nat_lit 219)::(nat_lit 220)::(nat_lit 221)::(nat_lit 223)::(nat_lit 224)::(nat_lit 226)::(nat_lit 227)::(nat_lit 228)::(nat_lit 230)::(nat_lit 231)::(nat_lit 233)::(nat_lit 234)::(nat_lit 235)::(nat_lit 236)::(nat_lit 237)::(nat_lit 240)::(nat_lit 247)::(nat_lit 249)::(nat_lit 250)::(nat_lit 252)::(nat_lit 253)::(nat_lit 254)::(nat_lit 256)::(nat_lit 257)::(nat_lit 259)::(nat_lit 260)::(nat_lit 261)::(nat_lit 263)::(nat_lit 264)::(nat_lit 266)::(nat_lit 267)::(nat_lit 268)::(nat_lit 270)::(nat_lit 271)::(nat_lit 273)::(nat_lit 274)::(nat_lit 275)::(nat_lit 276)::(nat_lit 277)::(nat_lit 280)::(nat_lit 287)::(nat_lit 289)::(nat_lit 290)::(nat_lit 292)::(nat_lit 293)::(nat_lit 294)::(nat_lit 296)::(nat_lit 297)::(nat_lit 299)::(nat_lit 300)::(nat_lit 301)::(nat_lit 303)::(nat_lit 304)::(nat_lit 306)::(nat_lit 307)::(nat_lit 308)::(nat_lit 310)::(nat_lit 311)::(nat_lit 313)::(nat_lit 314)::(nat_lit 315)::(nat_lit 317)::(nat_lit 318)::(nat_lit 320)::(nat_lit 321)::(nat_lit 322)::(nat_lit 323)::(nat_lit 324)::(nat_lit 327)::(nat_lit 334)::(nat_lit 336)::(nat_lit 337)::(nat_lit 339)::(nat_lit 340)::(nat_lit 341)::(nat_lit 343)::(nat_lit 344)::(nat_lit 346)::(nat_lit 347)::(nat_lit 348)::(nat_lit 350)::(nat_lit 351)::(nat_lit 353)::(nat_lit 354)::(nat_lit 355)::(nat_lit 357)::(nat_lit 358)::(nat_lit 360)::(nat_lit 361)::(nat_lit 362)::(nat_lit 364)::(nat_lit 365)::(nat_lit 367)::(nat_lit 368)::(nat_lit 369)::(nat_lit 370)::(nat_lit 371)::(nat_lit 374)::(nat_lit 381)::(nat_lit 383)::(nat_lit 384)::(nat_lit 386)::(nat_lit 387)::(nat_lit 388)::(nat_lit 390)::(nat_lit 391)::(nat_lit 393)::(nat_lit 394)::(nat_lit 395)::(nat_lit 397)::(nat_lit 398)::(nat_lit 400)::(nat_lit 401)::(nat_lit 402)::(nat_lit 404)::(nat_lit 405)::(nat_lit 407)::(nat_lit 408)::(nat_lit 409)::(nat_lit 411)::(nat_lit 412)::(nat_lit 414)::(nat_lit 415)::(nat_lit 416)::(nat_lit 418)::(nat_lit 419)::(nat_lit 421)::(nat_lit 422)::(nat_lit 423)::(nat_lit 424)::(nat_lit 425)::(nat_lit 428)::(nat_lit 430)::(nat_lit 431)::(nat_lit 433)::(nat_lit 434)::(nat_lit 435)::(nat_lit 437)::(nat_lit 438)::(nat_lit 440)::(nat_lit 441)::(nat_lit 442)::(nat_lit 444)::(nat_lit 445)::(nat_lit 447)::(nat_lit 448)::(nat_lit 449)::(nat_lit 451)::(nat_lit 452)::(nat_lit 454)::(nat_lit 455)::(nat_lit 456)::(nat_lit 458)::(nat_lit 459)::(nat_lit 461)::(nat_lit 462)::(nat_lit 463)::(nat_lit 465)::(nat_lit 466)::(nat_lit 468)::(nat_lit 469)::(nat_lit 470)::(nat_lit 472)::(nat_lit 473)::(nat_lit 475)::(nat_lit 476)::(nat_lit 477)::(nat_lit 479)::(nat_lit 480)::(nat_lit 482)::(nat_lit 483)::(nat_lit 484)::(nat_lit 486)::(nat_lit 487)::(nat_lit 489)::(nat_lit 490)::(nat_lit 491)::(nat_lit 493)::(nat_lit 494)::(nat_lit 496)::(nat_lit 497)::(nat_lit 498)::(nat_lit 500)::(nat_lit 501)::(nat_lit 503)::(nat_lit 504)::(nat_lit 505)::(nat_lit 507)::(nat_lit 508)::(nat_lit 510)::(nat_lit 511)::(nat_lit 512)::(nat_lit 514)::(nat_lit 515)::(nat_lit 517)::(nat_lit 518)::(nat_lit 519)::(nat_lit 521)::(nat_lit 522)::(nat_lit 524)::(nat_lit 525)::(nat_lit 526)::(nat_lit 528)::(nat_lit 529)::(nat_lit 531)::(nat_lit 532)::(nat_lit 533)::(nat_lit 536)::(nat_lit 537)::(nat_lit 538)::(nat_lit 541)::(nat_lit 542)::(nat_lit 543)::(nat_lit 545)::(nat_lit 546)::(nat_lit 548)::(nat_lit 549)::(nat_lit 550)::(nat_lit 552)::(nat_lit 553)::(nat_lit 555)::(nat_lit 556)::(nat_lit 557)::(nat_lit 559)::(nat_lit 560)::(nat_lit 562)::(nat_lit 563)::(nat_lit 564)::(nat_lit 566)::(nat_lit 567)::(nat_lit 569)::(nat_lit 570)::(nat_lit 571)::(nat_lit 573)::(nat_lit 574)::(nat_lit 576)::(nat_lit 577)::(nat_lit 578)::(nat_lit 580)::(nat_lit 581)::(nat_lit 583)::(nat_lit 584)::(nat_lit 585)::(nat_lit 587)::(nat_lit 588)::(nat_lit 590)::(nat_lit 591)::(nat_lit 592)::(nat_lit 594)::(nat_lit 595)::(nat_lit 597)::(nat_lit 598)::(nat_lit 599)::(nat_lit 601)::(nat_lit 602)::(nat_lit 604)::(nat_lit 605)::(nat_lit 606)::(nat_lit 608)::(nat_lit 609)::(nat_lit 611)::(nat_lit 612)::(nat_lit 613)::(nat_lit 615)::(nat_lit 616)::(nat_lit 618)::(nat_lit 619)::(nat_lit 620)::(nat_lit 622)::(nat_lit 623)::(nat_lit 625)::(nat_lit 626)::(nat_lit 627)::(nat_lit 629)::(nat_lit 630)::(nat_lit 632)::(nat_lit 633)::(nat_lit 634)::(nat_lit 636)::(nat_lit 637)::(nat_lit 639)::(nat_lit 640)::(nat_lit 641)::(nat_lit 643)::(nat_lit 644)::(nat_lit 646)::(nat_lit 647)::(nat_lit 648)::(nat_lit 650)::(nat_lit 651)::(nat_lit 653)::(nat_lit 654)::(nat_lit 655)::(nat_lit 658)::(nat_lit 659)::(nat_lit 660)::(nat_lit 662)::(nat_lit 663)::(nat_lit 665)::(nat_lit 666)::(nat_lit 667)::(nat_lit 669)::(nat_lit 670)::(nat_lit 672)::(nat_lit 673)::(nat_lit 674)::(nat_lit 676)::(nat_lit 677)::(nat_lit 679)::(nat_lit 680)::(nat_lit 681)::(nat_lit 683)::(nat_lit 684)::(nat_lit 686)::(nat_lit 687)::(nat_lit 688)::(nat_lit 690)::(nat_lit 691)::(nat_lit 693)::(nat_lit 694)::(nat_lit 695)::(nat_lit 698)::(nat_lit 699)::[])
def h_heap_39:PySem.Params→PySem.W.Frag:=fun x=>
(nat_lit 2,(@W.boot_o_2 x))::
(nat_lit 3,(ac x))::
(nat_lit 15,(zb x))::
(nat_lit 17,(o53 x))::
(nat_lit 18,(zb x))::
(nat_lit 20,(o56 x))::
(nat_lit 21,(o57 x))::
(nat_lit 22,(o58 x))::
(nat_lit 29,(zb x))::
(nat_lit 30,(o66 x))::
(nat_lit 31,(jy x))::
(nat_lit 32,(o68 x))::
(nat_lit 35,(yM x))::
(nat_lit 42,(zb x))::
(nat_lit 43,(o82 x))::
(nat_lit 44,(o83 x))::
(nat_lit 47,(yM x))::
(nat_lit 54,(zb x))::
(nat_lit 55,(o97 x))::
(nat_lit 56,(o98 x))::
(nat_lit 59,(yM x))::
(nat_lit 66,(zb x))::
(nat_lit 67,(jC x))::
(nat_lit 68,(jB x))::
(nat_lit 71,(yM x))::
(nat_lit 78,(zb x))::
(nat_lit 79,(jA x))::
(nat_lit 80,(jz x))::
(nat_lit 83,(yM x))::
(nat_lit 90,(zb x))::
(nat_lit 91,(jx x))::
(nat_lit 92,(jw x))::
(nat_lit 95,(zb x))::
(nat_lit 97,(jv x))::
(nat_lit 98,(zb x))::
(nat_lit 100,(ju x))::
(nat_lit 101,(jt x))::
(nat_lit 102,(zb x))::
(nat_lit 104,(jr x))::
(nat_lit 105,(zb x))::
(nat_lit 107,(jq x))::
(nat_lit 108,(jp x))::
(nat_lit 109,(zb x))::
(nat_lit 111,(jo x))::
(nat_lit 112,(zb x))::
(nat_lit 114,(jn x))::
(nat_lit 115,(jm x))::
(nat_lit 116,(zb x))::
(nat_lit 118,(jl x))::
(nat_lit 119,(zb x))::
(nat_lit 121,(jk x))::
(nat_lit 122,(ji x))::
(nat_lit 123,(zb x))::
(nat_lit 125,(jh x))::
(nat_lit 126,(zb x))::
(nat_lit 128,(jg x))::
(nat_lit 129,(jf x))::
(nat_lit 130,(zb x))::
(nat_lit 132,(je x))::
(nat_lit 133,(zb x))::
(nat_lit 135,(jd x))::
(nat_lit 136,(jc x))::
(nat_lit 137,(zb x))::
(nat_lit 139,(jb x))::
(nat_lit 140,(zb x))::
(nat_lit 142,(ja x))::
(nat_lit 143,(k_ x))::
(nat_lit 144,(zb x))::
(nat_lit 146,(kZ x))::
(nat_lit 147,(zb x))::
(nat_lit 149,(kY x))::
(nat_lit 150,(kX x))::
(nat_lit 158,(zb x))::
(nat_lit 160,(kW x))::
(nat_lit 161,(zb x))::
(nat_lit 163,(kU x))::
(nat_lit 164,(kT x))::
(nat_lit 165,(zb x))::
(nat_lit 167,(kS x))::
(nat_lit 168,(zb x))::
(nat_lit 170,(kR x))::
(nat_lit 171,(kQ x))::
(nat_lit 172,(zb x))::
(nat_lit 174,(kP x))::
(nat_lit 175,(zb x))::
(nat_lit 177,(kO x))::
(nat_lit 178,(kN x))::
(nat_lit 179,(zb x))::
(nat_lit 181,(kM x))::
(nat_lit 182,(zb x))::
(nat_lit 184,(kL x))::
(nat_lit 185,(kK x))::
(nat_lit 186,(zb x))::
(nat_lit 188,(kJ x))::
(nat_lit 189,(zb x))::
(nat_lit 191,(kI x))::
(nat_lit 192,(kH x))::
(nat_lit 193,(zb x))::
(nat_lit 195,(kG x))::
(nat_lit 196,(zb x))::
(nat_lit 198,(kF x))::
(nat_lit 199,(kE x))::
(nat_lit 200,(zb x))::
(nat_lit 201,(kD x))::
(nat_lit 202,(gZ x))::
(nat_lit 203,(kC x))::
(nat_lit 204,(kB x))::
(nat_lit 207,(xF x))::
(nat_lit 214,(zb x))::
(nat_lit 216,(eV x))::
(nat_lit 217,(zb x))::
(nat_lit 219,(eT x))::
(nat_lit 220,(eS x))::
(nat_lit 221,(zb x))::
(nat_lit 223,(eQ x))::
(nat_lit 224,(zb x))::
(nat_lit 226,(eP x))::
(nat_lit 227,(eO x))::
(nat_lit 228,(zb x))::
(nat_lit 230,(eN x))::
(nat_lit 231,(zb x))::
(nat_lit 233,(eK x))::
(nat_lit 234,(eJ x))::
(nat_lit 235,(eI x))::
(nat_lit 236,(eH x))::
(nat_lit 237,(eG x))::
(nat_lit 240,(xF x))::
(nat_lit 247,(zb x))::
(nat_lit 249,(eE x))::
(nat_lit 250,(zb x))::
(nat_lit 252,(eD x))::
(nat_lit 253,(eB x))::
(nat_lit 254,(zb x))::
(nat_lit 256,(eA x))::
(nat_lit 257,(zb x))::
(nat_lit 259,(ey x))::
(nat_lit 260,(eh x))::
(nat_lit 261,(zb x))::
(nat_lit 263,(f_ x))::
(nat_lit 264,(zb x))::
(nat_lit 266,(fZ x))::
(nat_lit 267,(fY x))::
(nat_lit 268,(zb x))::
(nat_lit 270,(fX x))::
(nat_lit 271,(zb x))::
(nat_lit 273,(fW x))::
(nat_lit 274,(fV x))::
(nat_lit 275,(fU x))::
(nat_lit 276,(fS x))::
(nat_lit 277,(fR x))::
(nat_lit 280,(xF x))::
(nat_lit 287,(zb x))::
(nat_lit 289,(fQ x))::
(nat_lit 290,(zb x))::
(nat_lit 292,(fP x))::
(nat_lit 293,(fO x))::
(nat_lit 294,(zb x))::
(nat_lit 296,(fN x))::
(nat_lit 297,(zb x))::
(nat_lit 299,(fM x))::
(nat_lit 300,(fL x))::
(nat_lit 301,(zb x))::
(nat_lit 303,(fK x))::
(nat_lit 304,(zb x))::
(nat_lit 306,(fJ x))::
(nat_lit 307,(fI x))::
(nat_lit 308,(zb x))::
(nat_lit 310,(fH x))::
(nat_lit 311,(zb x))::
(nat_lit 313,(fG x))::
(nat_lit 314,(fF x))::
(nat_lit 315,(zb x))::
(nat_lit 317,(fE x))::
(nat_lit 318,(zb x))::
(nat_lit 320,(fD x))::
(nat_lit 321,(fC x))::
(nat_lit 322,(fB x))::
(nat_lit 323,(fA x))::
(nat_lit 324,(fz x))::
(nat_lit 327,(xF x))::
(nat_lit 334,(zb x))::
(nat_lit 336,(fw x))::
(nat_lit 337,(zb x))::
(nat_lit 339,(fv x))::
(nat_lit 340,(fu x))::
(nat_lit 341,(zb x))::
(nat_lit 343,(ft x))::
(nat_lit 344,(zb x))::
(nat_lit 346,(fq x))::
(nat_lit 347,(fm x))::
(nat_lit 348,(zb x))::
(nat_lit 350,(fk x))::
(nat_lit 351,(zb x))::
(nat_lit 353,(fj x))::
(nat_lit 354,(fh x))::
(nat_lit 355,(zb x))::
(nat_lit 357,(fg x))::
(nat_lit 358,(zb x))::
(nat_lit 360,(ff x))::
(nat_lit 361,(fe x))::
(nat_lit 362,(zb x))::
(nat_lit 364,(fc x))::
(nat_lit 365,(zb x))::
(nat_lit 367,(fb x))::
(nat_lit 368,(g9 x))::
(nat_lit 369,(g8 x))::
(nat_lit 370,(g7 x))::
(nat_lit 371,(g6 x))::
(nat_lit 374,(xF x))::
(nat_lit 381,(zb x))::
(nat_lit 383,(gY x))::
(nat_lit 384,(zb x))::
(nat_lit 386,(gX x))::
(nat_lit 387,(gW x))::
(nat_lit 388,(zb x))::
(nat_lit 390,(gT x))::
(nat_lit 391,(zb x))::
(nat_lit 393,(gS x))::
(nat_lit 394,(gR x))::
(nat_lit 395,(zb x))::
(nat_lit 397,(gQ x))::
(nat_lit 398,(zb x))::
(nat_lit 400,(gP x))::
(nat_lit 401,(gO x))::
(nat_lit 402,(zb x))::
(nat_lit 404,(gN x))::
(nat_lit 405,(zb x))::
(nat_lit 407,(gM x))::
(nat_lit 408,(gL x))::
(nat_lit 409,(zb x))::
(nat_lit 411,(gK x))::
(nat_lit 412,(zb x))::
(nat_lit 414,(gJ x))::
(nat_lit 415,(gH x))::
(nat_lit 416,(zb x))::
(nat_lit 418,(gG x))::
(nat_lit 419,(zb x))::
(nat_lit 421,(gF x))::
(nat_lit 422,(gE x))::
(nat_lit 423,(gC x))::
(nat_lit 424,(gB x))::
(nat_lit 425,(gA x))::
(nat_lit 428,(zb x))::
(nat_lit 430,(Z7 x))::
(nat_lit 431,(zb x))::
(nat_lit 433,(Z6 x))::
(nat_lit 434,(Z5 x))::
(nat_lit 435,(zb x))::
(nat_lit 437,(Z4 x))::
(nat_lit 438,(zb x))::
(nat_lit 440,(Z3 x))::
(nat_lit 441,(Z2 x))::
(nat_lit 442,(zb x))::
(nat_lit 444,(Z1 x))::
(nat_lit 445,(zb x))::
(nat_lit 447,(Z0 x))::
(nat_lit 448,(ZZ x))::
(nat_lit 449,(zb x))::
(nat_lit 451,(ZY x))::
(nat_lit 452,(zb x))::
(nat_lit 454,(ZX x))::
(nat_lit 455,(ZW x))::
(nat_lit 456,(zb x))::
(nat_lit 458,(ZV x))::
(nat_lit 459,(zb x))::
(nat_lit 461,(ZU x))::
(nat_lit 462,(ZT x))::
(nat_lit 463,(zb x))::
(nat_lit 465,(ZS x))::
(nat_lit 466,(zb x))::
(nat_lit 468,(ZR x))::
(nat_lit 469,(ZQ x))::
(nat_lit 470,(zb x))::
(nat_lit 472,(ZP x))::
(nat_lit 473,(zb x))::
(nat_lit 475,(ZO x))::
(nat_lit 476,(ZN x))::
(nat_lit 477,(zb x))::
(nat_lit 479,(ZM x))::
(nat_lit 480,(zb x))::
(nat_lit 482,(ZL x))::
(nat_lit 483,(ZK x))::
(nat_lit 484,(zb x))::
(nat_lit 486,(ZJ x))::
(nat_lit 487,(zb x))::
(nat_lit 489,(ZI x))::
(nat_lit 490,(ZH x))::
(nat_lit 491,(zb x))::
(nat_lit 493,(ZG x))::
(nat_lit 494,(zb x))::
(nat_lit 496,(ZF x))::
(nat_lit 497,(ZE x))::
(nat_lit 498,(zb x))::
(nat_lit 500,(ZD x))::
(nat_lit 501,(zb x))::
(nat_lit 503,(ZC x))::
(nat_lit 504,(ZB x))::
(nat_lit 505,(zb x))::
(nat_lit 507,(ZA x))::
(nat_lit 508,(zb x))::
(nat_lit 510,(Zz x))::
(nat_lit 511,(Zy x))::
(nat_lit 512,(zb x))::
(nat_lit 514,(Zw x))::
(nat_lit 515,(zb x))::
(nat_lit 517,(Zv x))::
(nat_lit 518,(Zu x))::
(nat_lit 519,(zb x))::
(nat_lit 521,(Zt x))::
(nat_lit 522,(zb x))::
(nat_lit 524,(Zs x))::
(nat_lit 525,(Zr x))::
(nat_lit 526,(zb x))::
(nat_lit 528,(Zq x))::
(nat_lit 529,(zb x))::
(nat_lit 531,(Zp x))::
(nat_lit 532,(Zo x))::
(nat_lit 533,(zb x))::
(nat_lit 536,(Zm x))::
(nat_lit 537,(Zl x))::
(nat_lit 538,(zb x))::
(nat_lit 541,(Zk x))::
(nat_lit 542,(Zj x))::
(nat_lit 543,(zb x))::
(nat_lit 545,(Zi x))::
(nat_lit 546,(zb x))::
(nat_lit 548,(Zh x))::
(nat_lit 549,(Zg x))::
(nat_lit 550,(zb x))::
(nat_lit 552,(Zf x))::
(nat_lit 553,(zb x))::
(nat_lit 555,(Ze x))::
(nat_lit 556,(Zd x))::
(nat_lit 557,(zb x))::
(nat_lit 559,(Zc x))::
(nat_lit 560,(zb x))::
(nat_lit 562,(Zb x))::
(nat_lit 563,(Za x))::
(nat_lit 564,(zb x))::
(nat_lit 566,(a_ x))::
(nat_lit 567,(zb x))::
(nat_lit 569,(aZ x))::
(nat_lit 570,(aY x))::
(nat_lit 571,(zb x))::
(nat_lit 573,(aX x))::
(nat_lit 574,(zb x))::
(nat_lit 576,(aW x))::
(nat_lit 577,(aV x))::
(nat_lit 578,(zb x))::
(nat_lit 580,(aU x))::
(nat_lit 581,(zb x))::
(nat_lit 583,(aS x))::
(nat_lit 584,(aR x))::
(nat_lit 585,(zb x))::
(nat_lit 587,(aQ x))::
(nat_lit 588,(zb x))::
(nat_lit 590,(aP x))::
(nat_lit 591,(aO x))::
(nat_lit 592,(zb x))::
(nat_lit 594,(aN x))::
(nat_lit 595,(zb x))::
(nat_lit 597,(aM x))::
(nat_lit 598,(aL x))::
(nat_lit 599,(zb x))::
(nat_lit 601,(aK x))::
(nat_lit 602,(zb x))::
(nat_lit 604,(aJ x))::
(nat_lit 605,(aI x))::
(nat_lit 606,(zb x))::
(nat_lit 608,(aH x))::
(nat_lit 609,(zb x))::
(nat_lit 611,(aG x))::
(nat_lit 612,(aF x))::
(nat_lit 613,(zb x))::
(nat_lit 615,(aE x))::
(nat_lit 616,(zb x))::
(nat_lit 618,(aD x))::
(nat_lit 619,(aC x))::
(nat_lit 620,(zb x))::
(nat_lit 622,(aB x))::
(nat_lit 623,(zb x))::
(nat_lit 625,(aA x))::
(nat_lit 626,(az x))::
(nat_lit 627,(zb x))::
(nat_lit 629,(ay x))::
(nat_lit 630,(zb x))::
(nat_lit 632,(ax x))::
(nat_lit 633,(aw x))::
(nat_lit 634,(zb x))::
(nat_lit 636,(av x))::
(nat_lit 637,(zb x))::
(nat_lit 639,(au x))::
(nat_lit 640,(aq x))::
(nat_lit 641,(zb x))::
(nat_lit 643,(ap x))::
(nat_lit 644,(zb x))::
(nat_lit 646,(ao x))::
(nat_lit 647,(al x))::
(nat_lit 648,(zb x))::
(nat_lit 650,(ak x))::
(nat_lit 651,(zb x))::
(nat_lit 653,(aj x))::
(nat_lit 654,(ai x))::
(nat_lit 655,(zb x))::
(nat_lit 658,(ah x))::
(nat_lit 659,(ag x))::
(nat_lit 660,(zb x))::
(nat_lit 662,(af x))::
(nat_lit 663,(zb x))::
(nat_lit 665,(ae x))::
(nat_lit 666,(ad x))::
(nat_lit 667,(zb x))::
(nat_lit 669,(aa x))::
(nat_lit 670,(zb x))::
(nat_lit 672,(b_ x))::
(nat_lit 673,(bZ x))::
(nat_lit 674,(zb x))::
(nat_lit 676,(bY x))::
(nat_lit 677,(zb x))::
(nat_lit 679,(bX x))::
(nat_lit 680,(bW x))::
(nat_lit 681,(zb x))::
(nat_lit 683,(bV x))::
(nat_lit 684,(zb x))::
(nat_lit 686,(bU x))::
(nat_lit 687,(bT x))::
(nat_lit 688,(zb x))::
(nat_lit 690,(bS x))::
(nat_lit 691,(zb x))::
(nat_lit 693,(bR x))::
(nat_lit 694,(bQ x))::
(nat_lit 695,(zb x))::
(nat_lit 698,(bP x))::
(nat_lit 699,(bO x))::[]
def h_view_39:PySem.Program:={ PySem.Challenge.pw_oddbases_k63_whole_by_carries with main:={ PySem.Challenge.pw_oddbases_k63_whole_by_carries.main with body:=[My.top 0,My.top 2,My.top 3,My.top 4,My.top 5,My.top 6,My.top 7,My.top 9,My.top 10,My.top 11,My.top 12,My.top 13,My.top 15,My.top 16,My.top 18,My.top 19,My.top 20,My.top 21,My.top 22,My.top 23,My.top 24,My.top 26,My.top 27,My.top 28,My.top 30,My.top 31,My.top 32,My.top 33,My.top 34,My.top 35,My.top 36,My.top 38,My.top 39,My.top 40,My.top 41,My.top 42,My.top 44,My.top 45,My.top 46,My.top 47,My.top 48,My.top 49,My.top 50,My.top 51,My.top 52,My.top 53,My.top 55,My.top 56,My.top 57,My.top 58,My.top 59,My.top 60,My.top 61,My.top 62,My.top 63,My.top 64,My.top 65,My.top 66,My.top 67,My.top 68,My.top 69] } }
def xg:((x:@Params)→@Heap):=(fun x=>(@Heap.mk (@Array.mk @Obj ((@W.boot_o_0 x)::(@W.boot_o_1 x)::(@W.boot_o_2 x)::(ac x)::(@W.boot_o_4 x)::(@W.boot_o_5 x)::(@W.boot_o_6 x)::(@W.boot_o_7 x)::(@W.boot_o_8 x)::(@W.boot_o_9 x)::(@W.boot_o_10 x)::(zb x)::(Wy x)::(o45 x)::(o46 x)::(zb x)::(zh x)::(o53 x)::(zb x)::(o55 x)::(o56 x)::(o57 x)::(o58 x)::(zR x)::(o60 x)::(zb x)::(zh x)::(o63 x)::(o64 x)::(zb x)::(o66 x)::(jy x)::(o68 x)::(o69 x)::(o70 x)::(yM x)::(zR x)::(o76 x)::(zb x)::(zh x)::(o79 x)::(o80 x)::(zb x)::(o82 x)::(o83 x)::(o84 x)::(o85 x)::(yM x)::(zR x)::(o91 x)::(zb x)::(zh x)::(o94 x)::(o95 x)::(zb x)::(o97 x)::(o98 x)::(o99 x)::(dU x)::(yM x)::(zR x)::(dS x)::(zb x)::(zh x)::(dR x)::(dQ x)::(zb x)::(jC x)::(jB x)::(dP x)::(dO x)::(yM x)::(zR x)::(dN x)::(zb x)::(zh x)::(dM x)::(dL x)::(zb x)::(jA x)::(jz x)::(dJ x)::(dI x)::(yM x)::(zR x)::(dH x)::(zb x)::(zh x)::(dG x)::(dF x)::(zb x)::(jx x)::(jw x)::(dE x)::(dD x)::(zb x)::(zh x)::(jv x)::(zb x)::(dB x)::(ju x)::(jt x)::(zb x)::(zh x)::(jr x)::(zb x)::(dA x)::(jq x)::(jp x)::(zb x)::(zh x)::(jo x)::(zb x)::(dz x)::(jn x)::(jm x)::(zb x)::(zh x)::(jl x)::(zb x)::(dw x)::(jk x)::(ji x)::(zb x)::(zh x)::(jh x)::(zb x)::(du x)::(jg x)::(jf x)::(zb x)::(zh x)::(je x)::(zb x)::(dr x)::(jd x)::(jc x)::(zb x)::(zh x)::(jb x)::(zb x)::(dq x)::(ja x)::(k_ x)::(zb x)::(zh x)::(kZ x)::(zb x)::(dn x)::(kY x)::(kX x)::(zb x)::(zR x)::(dm x)::(zb x)::(dk x)::(dj x)::(df x)::(zb x)::(zh x)::(kW x)::(zb x)::(db x)::(kU x)::(kT x)::(zb x)::(zh x)::(kS x)::(zb x)::(e9 x)::(kR x)::(kQ x)::(zb x)::(zh x)::(kP x)::(zb x)::(e8 x)::(kO x)::(kN x)::(zb x)::(zh x)::(kM x)::(zb x)::(e7 x)::(kL x)::(kK x)::(zb x)::(zh x)::(kJ x)::(zb x)::(eZ x)::(kI x)::(kH x)::(zb x)::(zh x)::(kG x)::(zb x)::(eY x)::(kF x)::(kE x)::(zb x)::(kD x)::(gZ x)::(kC x)::(kB x)::(eX x)::(eW x)::(xF x)::(zR x)::(Y6 x)::(zb x)::(Y5 x)::(YZ x)::(YY x)::(zb x)::(zh x)::(eV x)::(zb x)::(YX x)::(eT x)::(eS x)::(zb x)::(zh x)::(eQ x)::(zb x)::(YW x)::(eP x)::(eO x)::(zb x)::(zh x)::(eN x)::(zb x)::(YV x)::(eK x)::(eJ x)::(eI x)::(eH x)::(eG x)::(YU x)::(YT x)::(xF x)::(zR x)::(YS x)::(zb x)::(YR x)::(YQ x)::(YO x)::(zb x)::(zh x)::(eE x)::(zb x)::(YN x)::(eD x)::(eB x)::(zb x)::(zh x)::(eA x)::(zb x)::(YM x)::(ey x)::(eh x)::(zb x)::(zh x)::(f_ x)::(zb x)::(YL x)::(fZ x)::(fY x)::(zb x)::(zh x)::(fX x)::(zb x)::(YK x)::(fW x)::(fV x)::(fU x)::(fS x)::(fR x)::(YJ x)::(YI x)::(xF x)::(zR x)::(YH x)::(zb x)::(YG x)::(YF x)::(YE x)::(zb x)::(zh x)::(fQ x)::(zb x)::(YD x)::(fP x)::(fO x)::(zb x)::(zh x)::(fN x)::(zb x)::(YC x)::(fM x)::(fL x)::(zb x)::(zh x)::(fK x)::(zb x)::(YB x)::(fJ x)::(fI x)::(zb x)::(zh x)::(fH x)::(zb x)::(YA x)::(fG x)::(fF x)::(zb x)::(zh x)::(fE x)::(zb x)::(Yz x)::(fD x)::(fC x)::(fB x)::(fA x)::(fz x)::(Yy x)::(Yx x)::(xF x)::(zR x)::(Yw x)::(zb x)::(Yv x)::(Yu x)::(Yt x)::(zb x)::(zh x)::(fw x)::(zb x)::(Ys x)::(fv x)::(fu x)::(zb x)::(zh x)::(ft x)::(zb x)::(Yr x)::(fq x)::(fm x)::(zb x)::(zh x)::(fk x)::(zb x)::(Yq x)::(fj x)::(fh x)::(zb x)::(zh x)::(fg x)::(zb x)::(Yp x)::(ff x)::(fe x)::(zb x)::(zh x)::(fc x)::(zb x)::(Yo x)::(fb x)::(g9 x)::(g8 x)::(g7 x)::(g6 x)::(Yn x)::(Ym x)::(xF x)::(zR x)::(Yl x)::(zb x)::(Yk x)::(Yj x)::(Yi x)::(zb x)::(zh x)::(gY x)::(zb x)::(Yh x)::(gX x)::(gW x)::(zb x)::(zh x)::(gT x)::(zb x)::(Yg x)::(gS x)::(gR x)::(zb x)::(zh x)::(gQ x)::(zb x)::(Ye x)::(gP x)::(gO x)::(zb x)::(zh x)::(gN x)::(zb x)::(Yd x)::(gM x)::(gL x)::(zb x)::(zh x)::(gK x)::(zb x)::(Yc x)::(gJ x)::(gH x)::(zb x)::(zh x)::(gG x)::(zb x)::(Yb x)::(gF x)::(gE x)::(gC x)::(gB x)::(gA x)::(Z9 x)::(Z8 x)::(zb x)::(zh x)::(Z7 x)::(zb x)::(Vb x)::(Z6 x)::(Z5 x)::(zb x)::(zh x)::(Z4 x)::(zb x)::(Va x)::(Z3 x)::(Z2 x)::(zb x)::(zh x)::(Z1 x)::(zb x)::(W_ x)::(Z0 x)::(ZZ x)::(zb x)::(zh x)::(ZY x)::(zb x)::(W9 x)::(ZX x)::(ZW x)::(zb x)::(zh x)::(ZV x)::(zb x)::(W8 x)::(ZU x)::(ZT x)::(zb x)::(zh x)::(ZS x)::(zb x)::(W7 x)::(ZR x)::(ZQ x)::(zb x)::(zh x)::(ZP x)::(zb x)::(W6 x)::(ZO x)::(ZN x)::(zb x)::(zh x)::(ZM x)::(zb x)::(W5 x)::(ZL x)::(ZK x)::(zb x)::(zh x)::(ZJ x)::(zb x)::(WZ x)::(ZI x)::(ZH x)::(zb x)::(zh x)::(ZG x)::(zb x)::(WY x)::(ZF x)::(ZE x)::(zb x)::(zh x)::(ZD x)::(zb x)::(WX x)::(ZC x)::(ZB x)::(zb x)::(zh x)::(ZA x)::(zb x)::(WW x)::(Zz x)::(Zy x)::(zb x)::(zh x)::(Zw x)::(zb x)::(WV x)::(Zv x)::(Zu x)::(zb x)::(zh x)::(Zt x)::(zb x)::(WU x)::(Zs x)::(Zr x)::(zb x)::(zh x)::(Zq x)::(zb x)::(WT x)::(Zp x)::(Zo x)::(zb x)::(zh x)::(WS x)::(Zm x)::(Zl x)::(zb x)::(zh x)::(WR x)::(Zk x)::(Zj x)::(zb x)::(zh x)::(Zi x)::(zb x)::(WQ x)::(Zh x)::(Zg x)::(zb x)::(zh x)::(Zf x)::(zb x)::(WP x)::(Ze x)::(Zd x)::(zb x)::(zh x)::(Zc x)::(zb x)::(WO x)::(Zb x)::(Za x)::(zb x)::(zh x)::(a_ x)::(zb x)::(WN x)::(aZ x)::(aY x)::(zb x)::(zh x)::(aX x)::(zb x)::(WM x)::(aW x)::(aV x)::(zb x)::(zh x)::(aU x)::(zb x)::(WL x)::(aS x)::(aR x)::(zb x)::(zh x)::(aQ x)::(zb x)::(WK x)::(aP x)::(aO x)::(zb x)::(zh x)::(aN x)::(zb x)::(WJ x)::(aM x)::(aL x)::(zb x)::(zh x)::(aK x)::(zb x)::(WI x)::(aJ x)::(aI x)::(zb x)::(zh x)::(aH x)::(zb x)::(WH x)::(aG x)::(aF x)::(zb x)::(zh x)::(aE x)::(zb x)::(WG x)::(aD x)::(aC x)::(zb x)::(zh x)::(aB x)::(zb x)::(WF x)::(aA x)::(az x)::(zb x)::(zh x)::(ay x)::(zb x)::(WE x)::(ax x)::(aw x)::(zb x)::(zh x)::(av x)::(zb x)::(WD x)::(au x)::(aq x)::(zb x)::(zh x)::(ap x)::(zb x)::(WC x)::(ao x)::(al x)::(zb x)::(zh x)::(ak x)::(zb x)::(WB x)::(aj x)::(ai x)::(zb x)::(zh x)::(WA x)::(ah x)::(ag x)::(zb x)::(zh x)::(af x)::(zb x)::(Wz x)::(ae x)::(ad x)::(zb x)::(zh x)::(aa x)::(zb x)::(Wx x)::(b_ x)::(bZ x)::(zb x)::(zh x)::(bY x)::(zb x)::(Ww x)::(bX x)::(bW x)::(zb x)::(zh x)::(bV x)::(zb x)::(Wv x)::(bU x)::(bT x)::(zb x)::(zh x)::(bS x)::(zb x)::(Wu x)::(bR x)::(bQ x)::(zb x)::(zh x)::(Wt x)::(bP x)::(bO x)::[])) (@Life.mk [] [] [] 0 (@List.nil (@Prod @Nat @Nat)) [] @Bool.false #[] [] 0 @Bool.false @Bool.false @Bool.false (0:Int) [(2000:Int),(10:Int),(10:Int)] @Bool.false 0 @Bool.true [] [] 0 @Bool.false)))
def yn:@Env:=(@Env.mk (@Module.scope (@Program.main ((@W.OpenRow.toRowW (@W.OpenLaw.row @Challenge.rw_oddbases_k63_whole_by_carries))).1)) @mainNs @mainNs (@List.nil (@Prod @Str @Addr)) @Str.empty (@Option.none @Addr) (r_ 13) (@some @Addr (@OfNat.ofNat @Addr 14 (@instOfNatNat 14))) (@OfNat.ofNat @Addr 0 (@instOfNatNat 0)))
def ng:=N_ W.boot_o_0 (N_ W.boot_o_1 (N_ ac (N_ W.boot_o_7 (N_ zb (N_ jy (N_ zh (N_ du (N_ zh (L_ Zy) Z_) (N_ gY (L_ au) Z_)) (N_ kI (N_ Yz (L_ WM) Z_) (L_ Z0))) (N_ zb (N_ zh Y1 (N_ gH (L_ Wx) Z_)) (N_ eQ Y2 (L_ ZM)))) (N_ yM (N_ jA (N_ k_ Y2 (N_ Ye (L_ zb) Z_)) (N_ xF (N_ zh (L_ aO) Z_) (L_ zb))) (N_ jo (N_ zb (N_ fK (L_ Zc) Z_) (N_ zb (L_ bT) Z_)) (N_ YT (N_ fb (L_ zb) Z_) (L_ WY))))) (N_ zR (N_ zh (N_ yM (N_ jd (N_ f_ (L_ zb) Z_) (N_ zb (L_ al) Z_)) (N_ kE (N_ xF (L_ aS) Z_) (L_ ZW))) (N_ zh (N_ kS Y3 (N_ gC (L_ bX) Z_)) (N_ zb (N_ Yp (L_ aE) Z_) (L_ zb)))) (N_ o97 (N_ zh (N_ zb (N_ YI (L_ WS) Z_) (N_ gM (L_ zb) Z_)) (N_ zh (N_ ft (L_ zb) Z_) (L_ zh))) (N_ zb (N_ e7 Y1 (N_ Va (L_ zb) Z_)) (N_ zb (N_ zR (L_ WE) Z_) (L_ ZC)))))) (N_ zb (N_ o55 (N_ yM (N_ jC (N_ zh (N_ ey (L_ zb) Z_) (N_ gW (L_ ap) Z_)) (N_ kG (N_ fA (L_ zh) Z_) (L_ ZY))) (N_ dB (N_ kU (N_ YD (L_ WQ) Z_) Y2) (N_ eO (N_ zb (L_ aG) Z_) (L_ ZK)))) (N_ zh (N_ yM (N_ zb (N_ fU (L_ Zp) Z_) (N_ zh (L_ ag) Z_)) (N_ Y5 (N_ fv (L_ zb) Z_) (L_ W7))) (N_ jm (N_ zb (N_ fI (L_ Za) Z_) Y1) (N_ zb (N_ g6 (L_ zb) Z_) (L_ zh))))) (N_ o63 (N_ o82 (N_ zh (N_ jb (N_ fY (L_ WU) Z_) Y1) (N_ kC (N_ Yv (L_ aQ) Z_) (L_ zb))) (N_ jq (N_ kQ (N_ fM (L_ Ze) Z_) (N_ Z8 (L_ bV) Z_)) (N_ eI (N_ zh (L_ aC) Z_) (L_ zb)))) (N_ yM (N_ jx (N_ dk Y2 (N_ gK (L_ zb) Z_)) (N_ eT (N_ fm (L_ WI) Z_) (L_ ZO))) (N_ zb (N_ zh Y1 (N_ zh (L_ bO) Z_)) (N_ YN (N_ Yj (L_ zh) Z_) (L_ ZA))))))) (N_ W.boot_o_5 (N_ W.boot_o_9 (N_ o53 (N_ o69 (N_ dQ (N_ jf Y2 (N_ Yh (L_ zb) Z_)) (N_ zb (N_ fC (L_ aV) Z_) (L_ zb))) (N_ jv (N_ zb (N_ fQ (L_ Zi) Z_) (N_ zh (L_ bZ) Z_)) (N_ YW (N_ fj (L_ zb) Z_) (L_ W5)))) (N_ o91 (N_ dJ (N_ zh (N_ fW (L_ zb) Z_) (N_ gO (L_ WA) Z_)) (N_ Y6 Y2 (L_ ZS))) (N_ dz (N_ kO (N_ YB (L_ WO) Z_) (N_ Z6 (L_ zh) Z_)) (N_ zR (N_ g8 (L_ aA) Z_) (L_ ZE))))) (N_ zb (N_ o80 (N_ dN (N_ zb (N_ YL (L_ Zt) Z_) (N_ gS (L_ zh) Z_)) (N_ kD (N_ Yw (L_ zb) Z_) (L_ zh))) (N_ zb (N_ e9 Y1 (N_ gA (L_ zb) Z_)) (N_ eK (N_ fe (L_ WG) Z_) (L_ ZI)))) (N_ o99 (N_ dF (N_ dm (N_ zR (L_ Zl) Z_) (N_ zb (L_ ae) Z_)) (N_ zb (N_ Yr (L_ aK) Z_) (L_ zb))) (N_ jk (N_ kK (N_ fG (L_ aZ) Z_) (N_ Z2 (L_ Wt) Z_)) (N_ eE (N_ zb (L_ aw) Z_) (L_ zb)))))) (N_ o45 (N_ o57 (N_ o76 (N_ dP (N_ zb (N_ zb (L_ Zv) Z_) (N_ zh (L_ WC) Z_)) (N_ eY (N_ Yy (L_ zb) Z_) (L_ W9))) (N_ jt (N_ zb (N_ fO (L_ Zg) Z_) (N_ gF (L_ zb) Z_)) (N_ zh (N_ fg (L_ zb) Z_) (L_ zh)))) (N_ o95 (N_ dH (N_ kY (N_ fR (L_ zb) Z_) Y2) (N_ YY (N_ zb (L_ aM) Z_) (L_ ZQ))) (N_ zh (N_ kM Y3 (N_ Z4 (L_ bR) Z_)) (N_ YQ (N_ Ym (L_ ay) Z_) (L_ zb))))) (N_ zb (N_ o84 (N_ dL (N_ dq (N_ zh (L_ Zr) Z_) (N_ gQ (L_ aj) Z_)) (N_ eX (N_ Yt (L_ WK) Z_) (L_ ZU))) (N_ zb (N_ zh Y1 (N_ zh (L_ Wv) Z_)) (N_ eG Y2 (L_ ZG)))) (N_ dS (N_ dE (N_ df (N_ YF (L_ Zk) Z_) (N_ Yc (L_ aa) Z_)) (N_ zb (N_ zh (L_ aI) Z_) (L_ zb))) (N_ jh (N_ zb (N_ fE (L_ aX) Z_) (L_ zb)) (N_ eB Y1 (L_ WW)))))))) (N_ W.boot_o_2 (N_ W.boot_o_4 (N_ W.boot_o_8 (N_ zh (N_ o68 (N_ dR (N_ jg (N_ eA (L_ zb) Z_) (N_ zb (L_ aq) Z_)) (N_ kH (N_ fD (L_ aW) Z_) (L_ ZZ))) (N_ zh (N_ kW Y3 (N_ zb (L_ b_) Z_)) (N_ zb (N_ Yq (L_ aH) Z_) (L_ zb)))) (N_ zR (N_ jz (N_ zb (N_ YK (L_ Zq) Z_) (N_ gP (L_ zh) Z_)) (N_ zR (N_ fw (L_ zb) Z_) (L_ zh))) (N_ zb (N_ e8 Y1 (N_ Vb (L_ zb) Z_)) (N_ xF (N_ g9 (L_ WF) Z_) (L_ ZF))))) (N_ o60 (N_ o79 (N_ zR (N_ jc Y2 (N_ Yg (L_ zb) Z_)) (N_ zb (N_ zR (L_ aR) Z_) (L_ zb))) (N_ jr (N_ zb (N_ fN (L_ Zf) Z_) (N_ gB (L_ bW) Z_)) (N_ YV (N_ ff (L_ zb) Z_) (L_ WZ)))) (N_ o98 (N_ dG (N_ zR (N_ xF (L_ Zm) Z_) (N_ gL (L_ Wz) Z_)) (N_ eV Y2 (L_ ZP))) (N_ dw (N_ kL (N_ YA (L_ WN) Z_) (N_ Z3 (L_ zh) Z_)) (N_ zh (N_ Yl (L_ ax) Z_) (L_ ZB)))))) (N_ Wy (N_ o56 (N_ zR (N_ jB (N_ je (N_ eh (L_ WV) Z_) Y1) (N_ zb (N_ fz (L_ aU) Z_) (L_ zb))) (N_ ju (N_ kT (N_ fP (L_ Zh) Z_) (N_ Yb (L_ bY) Z_)) (N_ zb (N_ zh (L_ aF) Z_) (L_ zb)))) (N_ o94 (N_ zR (N_ dn (N_ fS (L_ Zo) Z_) (N_ gN (L_ zb) Z_)) (N_ YZ (N_ fu (L_ WJ) Z_) (L_ ZR))) (N_ zb (N_ zh Y1 (N_ zh (L_ Wu) Z_)) (N_ YR (N_ Yn (L_ zh) Z_) (L_ ZD))))) (N_ o64 (N_ o83 (N_ dM (N_ zb (N_ zb (L_ Zs) Z_) (N_ zh (L_ WB) Z_)) (N_ kB (N_ Yu (L_ zb) Z_) (L_ W8))) (N_ jp (N_ zb (N_ fL (L_ Zd) Z_) Y1) (N_ eH (N_ fc (L_ zb) Z_) (L_ zh)))) (N_ zR (N_ jw (N_ dj (N_ YG (L_ WR) Z_) Y2) (N_ eS (N_ zb (L_ aJ) Z_) (L_ ZN))) (N_ zh (N_ kJ Y3 (L_ Z1)) (N_ eD (N_ Yi (L_ av) Z_) (L_ zb))))))) (N_ W.boot_o_6 (N_ W.boot_o_10 (N_ zb (N_ o70 (N_ zb (N_ zb (N_ YM (L_ Zw) Z_) (N_ gX (L_ zh) Z_)) (N_ zh (N_ fB (L_ zb) Z_) (L_ zh))) (N_ zb (N_ db Y1 (N_ gG (L_ zb) Z_)) (N_ eP (N_ fh (L_ WH) Z_) (L_ ZL)))) (N_ zb (N_ dI (N_ kZ (N_ fV (L_ WT) Z_) (N_ zb (L_ ah) Z_)) (N_ zb (N_ Ys (L_ aN) Z_) (L_ zb))) (N_ jn (N_ kN (N_ fJ (L_ Zb) Z_) (N_ Z5 (L_ bS) Z_)) (N_ YS (N_ g7 (L_ az) Z_) (L_ zb))))) (N_ zh (N_ zb (N_ zb (N_ zh (N_ fZ (L_ zb) Z_) (N_ gR (L_ ak) Z_)) (N_ gZ Y2 (L_ ZV))) (N_ dA (N_ kR (N_ YC (L_ WP) Z_) (N_ Z9 (L_ zh) Z_)) (N_ eJ (N_ zb (L_ aD) Z_) (L_ ZH)))) (N_ dU (N_ zb (N_ zb (N_ YH (L_ zb) Z_) (N_ zh (L_ ad) Z_)) (N_ YX (N_ fq (L_ zb) Z_) (L_ W6))) (N_ ji (N_ zb (N_ fF (L_ aY) Z_) (N_ zb (L_ bP) Z_)) (N_ zb (N_ Yk (L_ zb) Z_) (L_ zh)))))) (N_ o46 (N_ o58 (N_ zb (N_ dO (N_ dr (N_ zh (L_ Zu) Z_) (N_ gT (L_ ao) Z_)) (N_ kF (N_ Yx (L_ WL) Z_) (L_ ZX))) (N_ zb (N_ zh Y1 (N_ gE (L_ Ww) Z_)) (N_ eN Y2 (L_ ZJ)))) (N_ zb (N_ zb (N_ kX (N_ YJ (L_ zh) Z_) (N_ Yd (L_ af) Z_)) (N_ zb (N_ zh (L_ aL) Z_) (L_ zb))) (N_ jl (N_ zb (N_ fH (L_ a_) Z_) (N_ zb (L_ bQ) Z_)) (N_ YO (N_ xF (L_ zb) Z_) (L_ WX))))) (N_ o66 (N_ o85 (N_ zb (N_ ja (N_ fX (L_ zb) Z_) (N_ zb (L_ ai) Z_)) (N_ eW (N_ zb (L_ aP) Z_) (L_ ZT))) (N_ zh (N_ kP Y3 (N_ Z7 (L_ bU) Z_)) (N_ YU (N_ Yo (L_ aB) Z_) (L_ zb)))) (N_ zb (N_ dD (N_ zb (N_ YE (L_ Zj) Z_) (N_ gJ (L_ zb) Z_)) (N_ zh (N_ fk (L_ zb) Z_) (L_ zh))) (N_ zb (N_ eZ Y1 (L_ W_)) (N_ zb (N_ zh (L_ WD) Z_) (L_ Zz))))))))
def wH:(@List @Stmt):=[My.top 25,My.top 26,My.top 27,My.top 28,My.top 29,My.top 30,My.top 31,My.top 32,My.top 33,My.top 34,My.top 35,My.top 36,My.top 37,My.top 38,My.top 39,My.top 40,My.top 41,My.top 42,My.top 43,My.top 44,My.top 45,My.top 46,My.top 47,My.top 48,My.top 49,My.top 50,My.top 51,My.top 52,My.top 53,My.top 54,My.top 55,My.top 56,My.top 57,My.top 58,My.top 59,My.top 60,My.top 61,My.top 62,My.top 63,My.top 64,My.top 65,My.top 66,My.top 67,My.top 68,My.top 69]
def nh:=N_ W.boot_o_0 (N_ W.boot_o_1 (N_ Ul (N_ W.boot_o_7 (N_ zb (N_ jy (N_ zh (N_ du (L_ zh) (L_ gY)) (N_ kI (L_ Yz) Z_)) (N_ zb (N_ zh (L_ zb) (L_ gH)) (N_ eQ (L_ zb) Z_))) (N_ yM (N_ jA (N_ k_ (L_ zb) (L_ Ye)) (N_ xF (L_ zh) Z_)) (N_ jo (N_ zb (L_ fK) Z_) (N_ YT (L_ fb) Z_)))) (N_ zR (N_ zh (N_ yM (N_ jd (L_ f_) (L_ zb)) (N_ kE (L_ xF) Z_)) (N_ zh (N_ kS (L_ zh) (L_ gC)) (N_ zb (L_ Yp) Z_))) (N_ o97 (N_ zh (N_ zb (L_ YI) (L_ gM)) (N_ zh (L_ ft) Z_)) (N_ zb (N_ e7 (L_ zb) Z_) (N_ zb (L_ zR) Z_))))) (N_ zb (N_ o55 (N_ yM (N_ jC (N_ zh (L_ ey) (L_ gW)) (N_ kG (L_ fA) Z_)) (N_ dB (N_ kU (L_ YD) (L_ zb)) (N_ eO (L_ zb) Z_))) (N_ zh (N_ yM (N_ zb (L_ fU) (L_ zh)) (N_ Y5 (L_ fv) Z_)) (N_ jm (N_ zb (L_ fI) Z_) (N_ zb (L_ g6) Z_)))) (N_ o63 (N_ o82 (N_ zh (N_ jb (L_ fY) (L_ zb)) (N_ kC (L_ Yv) Z_)) (N_ jq (N_ kQ (L_ fM) (L_ Z8)) (N_ eI (L_ zh) Z_))) (N_ yM (N_ jx (N_ dk (L_ zb) (L_ gK)) (N_ eT (L_ fm) Z_)) (N_ zb Y4 (N_ YN (L_ Yj) Z_)))))) (N_ W.boot_o_5 (N_ W.boot_o_9 (N_ o53 (N_ o69 (N_ dQ (N_ jf (L_ zb) (L_ Yh)) (N_ zb (L_ fC) Z_)) (N_ jv (N_ zb (L_ fQ) (L_ zh)) (N_ YW (L_ fj) Z_))) (N_ o91 (N_ dJ (N_ zh (L_ fW) (L_ gO)) (N_ Y6 (L_ zb) Z_)) (N_ dz (N_ kO (L_ YB) Z_) (N_ zR (L_ g8) Z_)))) (N_ zb (N_ o80 (N_ dN (N_ zb (L_ YL) (L_ gS)) (N_ kD (L_ Yw) Z_)) (N_ zb (N_ e9 (L_ zb) (L_ gA)) (N_ eK (L_ fe) Z_))) (N_ o99 (N_ dF (N_ dm (L_ zR) (L_ zb)) (N_ zb (L_ Yr) Z_)) (N_ jk (N_ kK (L_ fG) Z_) (N_ eE (L_ zb) Z_))))) (N_ o45 (N_ o57 (N_ o76 (N_ dP Y0 (N_ eY (L_ Yy) Z_)) (N_ jt (N_ zb (L_ fO) (L_ gF)) (N_ zh (L_ fg) Z_))) (N_ o95 (N_ dH (N_ kY (L_ fR) (L_ zb)) (N_ YY (L_ zb) Z_)) (N_ zh (N_ kM (L_ zh) Z_) (N_ YQ (L_ Ym) Z_)))) (N_ zb (N_ o84 (N_ dL (N_ dq (L_ zh) (L_ gQ)) (N_ eX (L_ Yt) Z_)) (N_ zb Y4 (N_ eG (L_ zb) Z_))) (N_ dS (N_ dE (N_ df (L_ YF) (L_ Yc)) Y2) (N_ jh (N_ zb (L_ fE) Z_) (N_ eB (L_ zb) Z_))))))) (N_ W.boot_o_2 (N_ W.boot_o_4 (N_ W.boot_o_8 (N_ zh (N_ o68 (N_ dR (N_ jg (L_ eA) (L_ zb)) (N_ kH (L_ fD) Z_)) (N_ zh (N_ kW (L_ zh) (L_ zb)) (N_ zb (L_ Yq) Z_))) (N_ zR (N_ jz (N_ zb (L_ YK) (L_ gP)) (N_ zR (L_ fw) Z_)) (N_ zb (N_ e8 (L_ zb) Z_) (N_ xF (L_ g9) Z_)))) (N_ o60 (N_ o79 (N_ zR (N_ jc (L_ zb) (L_ Yg)) (N_ zb (L_ zR) Z_)) (N_ jr (N_ zb (L_ fN) (L_ gB)) (N_ YV (L_ ff) Z_))) (N_ o98 (N_ dG (N_ zR (L_ xF) (L_ gL)) (N_ eV (L_ zb) Z_)) (N_ dw (N_ kL (L_ YA) Z_) (N_ zh (L_ Yl) Z_))))) (N_ Uk (N_ o56 (N_ zR (N_ jB (N_ je (L_ eh) (L_ zb)) (N_ zb (L_ fz) Z_)) (N_ ju (N_ kT (L_ fP) (L_ Yb)) Y2)) (N_ o94 (N_ zR (N_ dn (L_ fS) (L_ gN)) (N_ YZ (L_ fu) Z_)) (N_ zb Y4 (N_ YR (L_ Yn) Z_)))) (N_ o64 (N_ o83 (N_ dM Y0 (N_ kB (L_ Yu) Z_)) (N_ jp (N_ zb (L_ fL) Z_) (N_ eH (L_ fc) Z_))) (N_ zR (N_ jw (N_ dj (L_ YG) (L_ zb)) (N_ eS (L_ zb) Z_)) (N_ zh (N_ kJ (L_ zh) Z_) (N_ eD (L_ Yi) Z_)))))) (N_ W.boot_o_6 (N_ W.boot_o_10 (N_ zb (N_ o70 (N_ zb (N_ zb (L_ YM) (L_ gX)) (N_ zh (L_ fB) Z_)) (N_ zb (N_ db (L_ zb) (L_ gG)) (N_ eP (L_ fh) Z_))) (N_ zb (N_ dI (N_ kZ (L_ fV) (L_ zb)) (N_ zb (L_ Ys) Z_)) (N_ jn (N_ kN (L_ fJ) Z_) (N_ YS (L_ g7) Z_)))) (N_ zh (N_ zb (N_ zb (N_ zh (L_ fZ) (L_ gR)) (N_ gZ (L_ zb) Z_)) (N_ dA (N_ kR (L_ YC) (L_ Z9)) (N_ eJ (L_ zb) Z_))) (N_ dU (N_ zb (N_ zb (L_ YH) (L_ zh)) (N_ YX (L_ fq) Z_)) (N_ ji (N_ zb (L_ fF) Z_) (N_ zb (L_ Yk) Z_))))) (N_ o46 (N_ o58 (N_ zb (N_ dO (N_ dr (L_ zh) (L_ gT)) (N_ kF (L_ Yx) Z_)) (N_ zb (N_ zh (L_ zb) (L_ gE)) (N_ eN (L_ zb) Z_))) (N_ zb (N_ zb (N_ kX (L_ YJ) (L_ Yd)) Y2) (N_ jl (N_ zb (L_ fH) Z_) (N_ YO (L_ xF) Z_)))) (N_ o66 (N_ o85 (N_ zb (N_ ja (L_ fX) (L_ zb)) (N_ eW (L_ zb) Z_)) (N_ zh (N_ kP (L_ zh) Z_) (N_ YU (L_ Yo) Z_))) (N_ zb (N_ dD (N_ zb (L_ YE) (L_ gJ)) (N_ zh (L_ fk) Z_)) (N_ zb (N_ eZ (L_ zb) Z_) Y2))))))
def uq:(@List @Stmt):=[My.top 20,My.top 21,My.top 22,My.top 23,My.top 24]
def ni:=N_ W.boot_o_0 (N_ W.boot_o_1 (N_ Up (N_ W.boot_o_7 (N_ zb (N_ jy (N_ zh (L_ du) (L_ kI)) Y2) (N_ yM (N_ jA (L_ k_) Z_) (N_ jo (L_ zb) Z_))) (N_ zR (N_ zh (N_ yM (L_ jd) (L_ kE)) (N_ zh (L_ kS) Z_)) (N_ o97 Y4 (N_ zb (L_ e7) Z_)))) (N_ zb (N_ o55 (N_ yM (N_ jC (L_ zh) (L_ kG)) (N_ dB (L_ kU) Z_)) (N_ zh (N_ yM (L_ zb) Z_) (N_ jm (L_ zb) Z_))) (N_ o63 (N_ o82 (N_ zh (L_ jb) (L_ kC)) (N_ jq (L_ kQ) Z_)) (N_ yM (N_ jx (L_ dk) Z_) Y2)))) (N_ W.boot_o_5 (N_ W.boot_o_9 (N_ o53 (N_ o69 (N_ dQ (L_ jf) (L_ zb)) (N_ jv (L_ zb) Z_)) (N_ o91 (N_ dJ (L_ zh) Z_) (N_ dz (L_ kO) Z_))) (N_ zb (N_ o80 (N_ dN (L_ zb) (L_ kD)) (N_ zb (L_ e9) Z_)) (N_ o99 (N_ dF (L_ dm) Z_) (N_ jk (L_ kK) Z_)))) (N_ o45 (N_ o57 (N_ o76 (N_ dP (L_ zb) (L_ eY)) (N_ jt (L_ zb) Z_)) (N_ o95 (N_ dH (L_ kY) Z_) (N_ zh (L_ kM) Z_))) (N_ zb (N_ o84 (N_ dL (L_ dq) (L_ eX)) Y2) (N_ dS (N_ dE (L_ df) Z_) (N_ jh (L_ zb) Z_)))))) (N_ W.boot_o_2 (N_ W.boot_o_4 (N_ W.boot_o_8 (N_ zh (N_ o68 (N_ dR (L_ jg) (L_ kH)) (N_ zh (L_ kW) Z_)) (N_ zR (N_ jz (L_ zb) Z_) (N_ zb (L_ e8) Z_))) (N_ o60 (N_ o79 (N_ zR (L_ jc) (L_ zb)) (N_ jr (L_ zb) Z_)) (N_ o98 (N_ dG (L_ zR) Z_) (N_ dw (L_ kL) Z_)))) (N_ Uo (N_ o56 (N_ zR (N_ jB (L_ je) (L_ zb)) (N_ ju (L_ kT) Z_)) (N_ o94 (N_ zR (L_ dn) Z_) Y2)) (N_ o64 (N_ o83 (N_ dM (L_ zb) (L_ kB)) (N_ jp (L_ zb) Z_)) (N_ zR (N_ jw (L_ dj) Z_) (N_ zh (L_ kJ) Z_))))) (N_ W.boot_o_6 (N_ W.boot_o_10 (N_ zb (N_ o70 Y0 (N_ zb (L_ db) Z_)) (N_ zb (N_ dI (L_ kZ) Z_) (N_ jn (L_ kN) Z_))) (N_ zh (N_ zb (N_ zb (L_ zh) (L_ Um)) (N_ dA (L_ kR) Z_)) (N_ dU Y1 (N_ ji (L_ zb) Z_)))) (N_ o46 (N_ o58 (N_ zb (N_ dO (L_ dr) (L_ kF)) Y2) (N_ zb (N_ zb (L_ kX) Z_) (N_ jl (L_ zb) Z_))) (N_ o66 (N_ o85 (N_ zb (L_ ja) (L_ eW)) (N_ zh (L_ kP) Z_)) (N_ zb (N_ dD (L_ zb) Z_) (N_ zb (L_ eZ) Z_))))))
def pZ:(@List @Stmt):=[My.top 0,My.top 1,My.top 2,My.top 3,My.top 4,My.top 5,My.top 6,My.top 7,My.top 8,My.top 9,My.top 10,My.top 11,My.top 12,My.top 13,My.top 14,My.top 15,My.top 16,My.top 17,My.top 18,My.top 19]
def lq:=N_ W.boot_o_0 (N_ W.boot_o_1 (N_ W.boot_o_3 (L_ W.boot_o_7) (L_ zb)) (N_ W.boot_o_5 (L_ W.boot_o_9) (L_ o45))) (N_ W.boot_o_2 (N_ W.boot_o_4 (L_ W.boot_o_8) (L_ zh)) (N_ W.boot_o_6 (L_ W.boot_o_10) (L_ o46)))
def ls:((x:@Params)→@Heap):=(fun x=>(@Heap.mk (@Array.mk @Obj [(@W.boot_o_0 x),(@W.boot_o_1 x),(@W.boot_o_2 x),(@W.boot_o_3 x),(@W.boot_o_4 x),(@W.boot_o_5 x),(@W.boot_o_6 x),(@W.boot_o_7 x),(@W.boot_o_8 x),(@W.boot_o_9 x),(@W.boot_o_10 x),(zb x),(zh x),(o45 x),(o46 x)]) (@Life.mk [] [] [] 0 (@List.nil (@Prod @Nat @Nat)) [] @Bool.false #[] [] 0 @Bool.false @Bool.false @Bool.false (0:Int) [(2000:Int),(10:Int),(10:Int)] @Bool.false 0 @Bool.true [] [] 0 @Bool.false)))
abbrev k3:=(@Life.mk [] [] [] 0 (@List.nil (@Prod @Nat @Nat)) [] @Bool.false #[] [] 0 @Bool.false @Bool.false @Bool.false (0:Int) [(2000:Int),(10:Int),(10:Int)] @Bool.false 0 @Bool.true [] [] 0 @Bool.false)
abbrev S_ (t:Params→W.BT) (n k:Nat) (w:World) (o:OsState):W.SharedT:=W.SharedT.mk (t w.params) n k3 g_ d_ k o
abbrev k0 (x0:World) (x1:OsState):=(@Shared.mk (@xg x0.params) g_ d_ 1104 x1)
abbrev k1:=(@W.OpenRow.toRowW (@W.OpenLaw.row @Challenge.rw_oddbases_k63_whole_by_carries))
abbrev k2:=(@Prod (@Prod (@List (@Option @FnShape)) @Bool) (@Prod (@List (@Option @PyProof.Rows.PlainShape)) (@Prod (@List (@Option (@Prod @PyProof.Rows.PlainShape @Bool))) (@Prod (@Prod (@List (@Option @FnShape)) @Bool) (@List (@Prod (@Option (@Prod (@List (@Option @FnShape)) @Bool)) (@Option (@Prod @PyProof.Rows.PlainShape @Bool))))))))
abbrev k4 (x0:World) (x1:OsState):=(@ite @Bool (@Eq @Bool @Bool.true @Bool.true) (@instDecidableEqBool @Bool.true @Bool.true) (@BEq.beq @Nat (@instBEqOfDecidableEq @Nat @instDecidableEqNat) (@Array.size @GenState (@Shared.gens (k0 x0 x1))) 0) (@Bool.not (@leftWithCleanup (@Shared.gens (k0 x0 x1)))))
abbrev k5:=(@Bool.true,((@pinGoodD (@PyProof.Rows.drecsOf @h_view_39)),((@PyProof.Rows.plainGoodE @h_view_39 (@W.looseW @h_view_39 [])),((@PyProof.Rows.plainGoodD @h_view_39 []),((@W.wideGood @h_view_39),(@W.clsGoodW @h_view_39 []))))))
abbrev k6:=(@List (@Prod (@Option (@Prod (@List (@Option @FnShape)) @Bool)) (@Option (@Prod @PyProof.Rows.PlainShape @Bool))))
abbrev k7 (x0:World) (x1:OsState):=(@Bool.and (@Bool.and (@Bool.and (@W.staticsOk (@importedModules (@Module.body (@Program.main (k1).1))) (@W.boot_heap x0.params) (@xg x0.params)) (@W.namesBound (k1).1 (@xg x0.params))) (@W.gensDone (k0 x0 x1))) (@W.laidKept (@W.boot_heap x0.params) (@xg x0.params)))
abbrev k8:=(@Code.body (@W.behindTheImports (k1).1) @yn)
abbrev k9:=(@Prod (@Prod (@Option @Str) (@List (@Prod @Str @Value))) (@Prod @Bool (@Prod @Bool k2)))
abbrev k10 (x0:World) (x1:OsState):=(@PyProof.Rows.plainSeenE @h_view_39 (@W.looseW @h_view_39 []) (k0 x0 x1))
abbrev k11:=(@Eq.refl (@List @Addr) My.myAs)
abbrev k12:=(@importedModules (@Module.body (@Program.main (k1).1)))
abbrev k13 (x0:World) (x1:OsState):=(@pinSeenD @h_view_39 (@PyProof.Rows.drecsOf @h_view_39) (k0 x0 x1))
abbrev k14 (x0:World) (x1:OsState):=(@PyProof.Rows.plainSeenD @h_view_39 [] (k0 x0 x1))
abbrev k15:=(@Prod (@List (@Option @FnShape)) @Bool)
abbrev k16 (x0:World) (x1:OsState):=(@W.clsSeenW @h_view_39 [] (k0 x0 x1))
abbrev k17:=(@List.nil (@Prod @Str @W.WData))
abbrev k18 (x0:World) (x1:OsState):=(@W.wideSeen @h_view_39 (k0 x0 x1))
abbrev k19:=(@List (@Option (@Prod @PyProof.Rows.PlainShape @Bool)))
abbrev k20:=(@PyProof.Rows.plainGoodE @h_view_39 (@W.looseW @h_view_39 []))
abbrev k21:=(@Nat.add 12 (@Nat.add 1 (@Nat.add 1950 (@Nat.add 1811 (@Nat.add 1304 2)))))
abbrev k22 (x0:World) (x1:OsState):=(S_ ni 207 437 x0 x1)
abbrev k23 (x0:World) (x1:OsState):=(S_ nh 428 711 x0 x1)
abbrev k24:=(@PyProof.Rows.clssOf @h_view_39 (@W.looseW @h_view_39 []))
abbrev k25 (x0:World) (x1:OsState):=(S_ lq 15 187 x0 x1)
abbrev k26:=(@Prod @Flow (@Prod @W.SharedT (@Prod @Code @Pos)))
abbrev k27 (x0:World) (x1:OsState):=(@Shared.mk (@ls x0.params) g_ d_ 187 x1)
abbrev k28 (x0:World) (x1:OsState):=(@PyProof.Rows.tablesOk @h_view_39 (@Shared.heap (k0 x0 x1)))
abbrev k29 (x0:World) (x1:OsState):=(@PyProof.Rows.tabsOk @h_view_39 (k0 x0 x1))
abbrev k30:=(@PyProof.Rows.plainGoodD @h_view_39 [])
abbrev k31 (x0:World) (x1:OsState):=(@Heap.accountedOkI (@Shared.heap (k0 x0 x1)) k12)
abbrev k32 (x0:World) (x1:OsState):=(S_ ng 700 1104 x0 x1)
abbrev k33 (x0:World) (x1:OsState):=(@Heap.isNs (@Shared.heap (k0 x0 x1)) @mainGlobals)
abbrev k34 (x0:World) (x1:OsState):=(@Heap.isNs (@Shared.heap (k0 x0 x1)) @builtinsNs)
abbrev k35 (x0:World) (x1:OsState):=(@Shared.mk (@W.boot_heap x0.params) g_ @W.boot_drawn @W.boot_toks x1)
abbrev k36:=(@Thread.mk (@denote @treeTable k8) k8 (P_ 0 0 0 0) [(@W.topFrame (P_ 0 0 0 0))])
abbrev k37:=(@Prod @Flow (@Prod @Shared (@Prod @Code @Pos)))
abbrev kh0:=(@W.kHook @h_heap_39 My.myAs (fun x0=>(@id (@Eq (@List @Addr) My.myAs (@List.map (@Prod @Addr @Obj) @Addr (fun (x1:(@Prod @Addr @Obj))=>(@Prod.fst @Addr @Obj x1)) (@h_heap_39 x0))) k11)))
theorem pf_813:((x0:World)→(@Eq ((x1:OsState)→(@W.Hook.α kh0)) (fun x1=>(@W.Hook.obs kh0 (k0 x0 x1))) (fun x1=>(@W.Hook.val kh0 x0)))):=by intros; kernel_rfl
theorem pf_803:((x0:World)→(@Eq ((x1:OsState)→k6) (fun x1=>(k16 x0 x1)) (fun x1=>(@W.clsGoodW @h_view_39 [])))):=by intros; kernel_rfl
theorem pf_801:((x0:World)→(@Eq ((x1:OsState)→k15) (fun x1=>(k18 x0 x1)) (fun x1=>(@W.wideGood @h_view_39)))):=by intros; kernel_rfl
theorem pf_804:((x0:World)→((x1:OsState)→(@Eq (@Prod k15 k6) ((k18 x0 x1),(k16 x0 x1)) ((@W.wideGood @h_view_39),(@W.clsGoodW @h_view_39 []))))):=(fun x0=>(fun x1=>(@W.looks_pair k15 k6 (k18 x0 x1) (@W.wideGood @h_view_39) (k16 x0 x1) (@W.clsGoodW @h_view_39 []) ((fun x2=>(fun x3=>(congrFun (My.pf_801 x2) x3))) x0 x1) ((fun x2=>(fun x3=>(congrFun (My.pf_803 x2) x3))) x0 x1))))
theorem pf_799:((x0:World)→(@Eq ((x1:OsState)→k19) (fun x1=>(k14 x0 x1)) (fun x1=>k30))):=by intros; kernel_rfl
theorem pf_805:((x0:World)→((x1:OsState)→(@Eq (@Prod k19 (@Prod k15 k6)) ((k14 x0 x1),((k18 x0 x1),(k16 x0 x1))) (k30,((@W.wideGood @h_view_39),(@W.clsGoodW @h_view_39 [])))))):=(fun x0=>(fun x1=>(@W.looks_pair k19 (@Prod k15 k6) (k14 x0 x1) k30 ((k18 x0 x1),(k16 x0 x1)) ((@W.wideGood @h_view_39),(@W.clsGoodW @h_view_39 [])) ((fun x2=>(fun x3=>(congrFun (My.pf_799 x2) x3))) x0 x1) (@My.pf_804 x0 x1))))
theorem pf_797:((x0:World)→(@Eq ((x1:OsState)→(@List (@Option @PyProof.Rows.PlainShape))) (fun x1=>(k10 x0 x1)) (fun x1=>k20))):=by intros; kernel_rfl
theorem pf_806:((x0:World)→((x1:OsState)→(@Eq (@Prod (@List (@Option @PyProof.Rows.PlainShape)) (@Prod k19 (@Prod k15 k6))) ((k10 x0 x1),((k14 x0 x1),((k18 x0 x1),(k16 x0 x1)))) (k20,(k30,((@W.wideGood @h_view_39),(@W.clsGoodW @h_view_39 []))))))):=(fun x0=>(fun x1=>(@W.looks_pair (@List (@Option @PyProof.Rows.PlainShape)) (@Prod k19 (@Prod k15 k6)) (k10 x0 x1) k20 ((k14 x0 x1),((k18 x0 x1),(k16 x0 x1))) (k30,((@W.wideGood @h_view_39),(@W.clsGoodW @h_view_39 []))) ((fun x2=>(fun x3=>(congrFun (My.pf_797 x2) x3))) x0 x1) (@My.pf_805 x0 x1))))
theorem pf_795:((x0:World)→(@Eq ((x1:OsState)→k15) (fun x1=>(k13 x0 x1)) (fun x1=>(@pinGoodD (@PyProof.Rows.drecsOf @h_view_39))))):=by intros; kernel_rfl
theorem pf_807:((x0:World)→((x1:OsState)→(@Eq k2 ((k13 x0 x1),((k10 x0 x1),((k14 x0 x1),((k18 x0 x1),(k16 x0 x1))))) ((@pinGoodD (@PyProof.Rows.drecsOf @h_view_39)),(k20,(k30,((@W.wideGood @h_view_39),(@W.clsGoodW @h_view_39 [])))))))):=(fun x0=>(fun x1=>(@W.looks_pair k15 (@Prod (@List (@Option @PyProof.Rows.PlainShape)) (@Prod k19 (@Prod k15 k6))) (k13 x0 x1) (@pinGoodD (@PyProof.Rows.drecsOf @h_view_39)) ((k10 x0 x1),((k14 x0 x1),((k18 x0 x1),(k16 x0 x1)))) (k20,(k30,((@W.wideGood @h_view_39),(@W.clsGoodW @h_view_39 [])))) ((fun x2=>(fun x3=>(congrFun (My.pf_795 x2) x3))) x0 x1) (@My.pf_806 x0 x1))))
theorem pf_793:((x0:World)→(@Eq ((x1:OsState)→@Bool) (fun x1=>(k29 x0 x1)) (fun x1=>@Bool.true))):=by intros; kernel_rfl
theorem pf_808:((x0:World)→((x1:OsState)→(@Eq (@Prod @Bool k2) ((k29 x0 x1),((k13 x0 x1),((k10 x0 x1),((k14 x0 x1),((k18 x0 x1),(k16 x0 x1)))))) k5))):=(fun x0=>(fun x1=>(@W.looks_pair @Bool k2 (k29 x0 x1) @Bool.true ((k13 x0 x1),((k10 x0 x1),((k14 x0 x1),((k18 x0 x1),(k16 x0 x1))))) ((@pinGoodD (@PyProof.Rows.drecsOf @h_view_39)),(k20,(k30,((@W.wideGood @h_view_39),(@W.clsGoodW @h_view_39 []))))) ((fun x2=>(fun x3=>(congrFun (My.pf_793 x2) x3))) x0 x1) (@My.pf_807 x0 x1))))
theorem pf_791:((x0:World)→(@Eq ((x1:OsState)→@Bool) (fun x1=>(@Bool.and (@Bool.and (@Bool.and (@Bool.and (@Bool.and (@Bool.and (@Heap.keysOk (@Shared.heap (k0 x0 x1)) (@W.looseW @h_view_39 []) (@List.map @DefRec @Str (fun (x2:@DefRec)=>(@DefRec.name x2)) (@PyProof.Rows.recsOf @h_view_39)) (@List.map (@Prod @Str @PyData) @Str (fun (x2:(@Prod @Str @PyData))=>(@Prod.fst @Str @PyData x2)) (@PyProof.Rows.litsOf @h_view_39)) (@List.map @ClsRec @Str (fun (x2:@ClsRec)=>(@ClsRec.name x2)) k24)) (k31 x0 x1)) (k33 x0 x1)) (k34 x0 x1)) (k28 x0 x1)) ((fun (x2:@Shared)=>(@Bool.and (@W.xlAt @h_view_39 k17 x2) (@W.recOk (@W.RowW.records k1) x2))) (k0 x0 x1))) (k4 x0 x1))) (fun x1=>@Bool.true))):=by intros; kernel_rfl
theorem pf_809:((x0:World)→((x1:OsState)→(@Eq (@Prod @Bool (@Prod @Bool k2)) ((@Bool.and (@Bool.and (@Bool.and (@Bool.and (@Bool.and (@Bool.and (@Heap.keysOk (@Shared.heap (k0 x0 x1)) (@W.looseW @h_view_39 []) (@List.map @DefRec @Str (fun (x2:@DefRec)=>(@DefRec.name x2)) (@PyProof.Rows.recsOf @h_view_39)) (@List.map (@Prod @Str @PyData) @Str (fun (x2:(@Prod @Str @PyData))=>(@Prod.fst @Str @PyData x2)) (@PyProof.Rows.litsOf @h_view_39)) (@List.map @ClsRec @Str (fun (x2:@ClsRec)=>(@ClsRec.name x2)) k24)) (k31 x0 x1)) (k33 x0 x1)) (k34 x0 x1)) (k28 x0 x1)) ((fun (x2:@Shared)=>(@Bool.and (@W.xlAt @h_view_39 k17 x2) (@W.recOk (@W.RowW.records k1) x2))) (k0 x0 x1))) (k4 x0 x1)),((k29 x0 x1),((k13 x0 x1),((k10 x0 x1),((k14 x0 x1),((k18 x0 x1),(k16 x0 x1))))))) (@Bool.true,k5)))):=(fun x0=>(fun x1=>(@W.looks_pair @Bool (@Prod @Bool k2) (@Bool.and (@Bool.and (@Bool.and (@Bool.and (@Bool.and (@Bool.and (@Heap.keysOk (@Shared.heap (k0 x0 x1)) (@W.looseW @h_view_39 []) (@List.map @DefRec @Str (fun (x2:@DefRec)=>(@DefRec.name x2)) (@PyProof.Rows.recsOf @h_view_39)) (@List.map (@Prod @Str @PyData) @Str (fun (x2:(@Prod @Str @PyData))=>(@Prod.fst @Str @PyData x2)) (@PyProof.Rows.litsOf @h_view_39)) (@List.map @ClsRec @Str (fun (x2:@ClsRec)=>(@ClsRec.name x2)) k24)) (k31 x0 x1)) (k33 x0 x1)) (k34 x0 x1)) (k28 x0 x1)) ((fun (x2:@Shared)=>(@Bool.and (@W.xlAt @h_view_39 k17 x2) (@W.recOk (@W.RowW.records k1) x2))) (k0 x0 x1))) (k4 x0 x1)) @Bool.true ((k29 x0 x1),((k13 x0 x1),((k10 x0 x1),((k14 x0 x1),((k18 x0 x1),(k16 x0 x1)))))) k5 ((fun x2=>(fun x3=>(congrFun (My.pf_791 x2) x3))) x0 x1) (@My.pf_808 x0 x1))))
theorem pf_789:((x0:World)→(@Eq ((x1:OsState)→(@Prod (@Option @Str) (@List (@Prod @Str @Value)))) (fun x1=>(@Heap.bltView (@Shared.heap (k0 x0 x1)))) (fun x1=>@bltViewBooted))):=by intros; kernel_rfl
theorem pf_810:((x0:World)→((x1:OsState)→(@Eq k9 ((@Heap.bltView (@Shared.heap (k0 x0 x1))),((@Bool.and (@Bool.and (@Bool.and (@Bool.and (@Bool.and (@Bool.and (@Heap.keysOk (@Shared.heap (k0 x0 x1)) (@W.looseW @h_view_39 []) (@List.map @DefRec @Str (fun (x2:@DefRec)=>(@DefRec.name x2)) (@PyProof.Rows.recsOf @h_view_39)) (@List.map (@Prod @Str @PyData) @Str (fun (x2:(@Prod @Str @PyData))=>(@Prod.fst @Str @PyData x2)) (@PyProof.Rows.litsOf @h_view_39)) (@List.map @ClsRec @Str (fun (x2:@ClsRec)=>(@ClsRec.name x2)) k24)) (k31 x0 x1)) (k33 x0 x1)) (k34 x0 x1)) (k28 x0 x1)) ((fun (x2:@Shared)=>(@Bool.and (@W.xlAt @h_view_39 k17 x2) (@W.recOk (@W.RowW.records k1) x2))) (k0 x0 x1))) (k4 x0 x1)),((k29 x0 x1),((k13 x0 x1),((k10 x0 x1),((k14 x0 x1),((k18 x0 x1),(k16 x0 x1)))))))) (@bltViewBooted,(@Bool.true,k5))))):=(fun x0=>(fun x1=>(@W.looks_pair (@Prod (@Option @Str) (@List (@Prod @Str @Value))) (@Prod @Bool (@Prod @Bool k2)) (@Heap.bltView (@Shared.heap (k0 x0 x1))) @bltViewBooted ((@Bool.and (@Bool.and (@Bool.and (@Bool.and (@Bool.and (@Bool.and (@Heap.keysOk (@Shared.heap (k0 x0 x1)) (@W.looseW @h_view_39 []) (@List.map @DefRec @Str (fun (x2:@DefRec)=>(@DefRec.name x2)) (@PyProof.Rows.recsOf @h_view_39)) (@List.map (@Prod @Str @PyData) @Str (fun (x2:(@Prod @Str @PyData))=>(@Prod.fst @Str @PyData x2)) (@PyProof.Rows.litsOf @h_view_39)) (@List.map @ClsRec @Str (fun (x2:@ClsRec)=>(@ClsRec.name x2)) k24)) (k31 x0 x1)) (k33 x0 x1)) (k34 x0 x1)) (k28 x0 x1)) ((fun (x2:@Shared)=>(@Bool.and (@W.xlAt @h_view_39 k17 x2) (@W.recOk (@W.RowW.records k1) x2))) (k0 x0 x1))) (k4 x0 x1)),((k29 x0 x1),((k13 x0 x1),((k10 x0 x1),((k14 x0 x1),((k18 x0 x1),(k16 x0 x1))))))) (@Bool.true,k5) ((fun x2=>(fun x3=>(congrFun (My.pf_789 x2) x3))) x0 x1) (@My.pf_809 x0 x1))))
theorem pf_787:((x0:World)→(@Eq ((x1:OsState)→@PyProof.Rows.Seen) (fun x1=>(@PyProof.Rows.seen (@List.map @DefRec @Str (fun (x2:@DefRec)=>(@DefRec.name x2)) (@PyProof.Rows.recsOf @h_view_39)) (@PyProof.Rows.ownsOf @h_view_39) [] (@Shared.mk (@Shared.heap (k0 x0 x1)) #[] (@Shared.drawn (k0 x0 x1)) (@Shared.toks (k0 x0 x1)) (@Shared.os (k0 x0 x1))))) (fun x1=>(@PyProof.Rows.expectedOf @h_view_39)))):=by intros; kernel_rfl
theorem pf_811:((x0:World)→((x1:OsState)→(@Eq (@Prod @PyProof.Rows.Seen k9) (@W.openSeen @h_view_39 [] k12 (fun (x2:@Shared)=>(@Bool.and (@W.xlAt @h_view_39 k17 x2) (@W.recOk (@W.RowW.records k1) x2))) @Bool.true (k0 x0 x1)) (@W.openGood @h_view_39 [])))):=(fun x0=>(fun x1=>(@W.looks_pair @PyProof.Rows.Seen k9 (@PyProof.Rows.seen (@List.map @DefRec @Str (fun (x2:@DefRec)=>(@DefRec.name x2)) (@PyProof.Rows.recsOf @h_view_39)) (@PyProof.Rows.ownsOf @h_view_39) [] (@Shared.mk (@Shared.heap (k0 x0 x1)) #[] (@Shared.drawn (k0 x0 x1)) (@Shared.toks (k0 x0 x1)) (@Shared.os (k0 x0 x1)))) (@PyProof.Rows.expectedOf @h_view_39) ((@Heap.bltView (@Shared.heap (k0 x0 x1))),((@Bool.and (@Bool.and (@Bool.and (@Bool.and (@Bool.and (@Bool.and (@Heap.keysOk (@Shared.heap (k0 x0 x1)) (@W.looseW @h_view_39 []) (@List.map @DefRec @Str (fun (x2:@DefRec)=>(@DefRec.name x2)) (@PyProof.Rows.recsOf @h_view_39)) (@List.map (@Prod @Str @PyData) @Str (fun (x2:(@Prod @Str @PyData))=>(@Prod.fst @Str @PyData x2)) (@PyProof.Rows.litsOf @h_view_39)) (@List.map @ClsRec @Str (fun (x2:@ClsRec)=>(@ClsRec.name x2)) k24)) (k31 x0 x1)) (k33 x0 x1)) (k34 x0 x1)) (k28 x0 x1)) ((fun (x2:@Shared)=>(@Bool.and (@W.xlAt @h_view_39 k17 x2) (@W.recOk (@W.RowW.records k1) x2))) (k0 x0 x1))) (k4 x0 x1)),((k29 x0 x1),((k13 x0 x1),((k10 x0 x1),((k14 x0 x1),((k18 x0 x1),(k16 x0 x1)))))))) (@bltViewBooted,(@Bool.true,k5)) ((fun x2=>(fun x3=>(congrFun (My.pf_787 x2) x3))) x0 x1) (@My.pf_810 x0 x1))))
theorem pf_814:((x0:World)→((x1:OsState)→(@Eq (@Prod (@Prod @PyProof.Rows.Seen k9) (@W.Hook.α kh0)) ((@W.openSeen @h_view_39 [] k12 (fun (x2:@Shared)=>(@Bool.and (@W.xlAt @h_view_39 k17 x2) (@W.recOk (@W.RowW.records k1) x2))) @Bool.true (k0 x0 x1)),(@W.Hook.obs kh0 (k0 x0 x1))) ((@W.openGood @h_view_39 []),(@W.Hook.val kh0 x0))))):=(fun x0=>(fun x1=>(@W.looks_pair (@Prod @PyProof.Rows.Seen k9) (@W.Hook.α kh0) (@W.openSeen @h_view_39 [] k12 (fun (x2:@Shared)=>(@Bool.and (@W.xlAt @h_view_39 k17 x2) (@W.recOk (@W.RowW.records k1) x2))) @Bool.true (k0 x0 x1)) (@W.openGood @h_view_39 []) (@W.Hook.obs kh0 (k0 x0 x1)) (@W.Hook.val kh0 x0) (@My.pf_811 x0 x1) ((fun x2=>(fun x3=>(congrFun (My.pf_813 x2) x3))) x0 x1))))
theorem pf_785:((x0:World)→(@Eq ((x1:OsState)→@Bool) (fun x1=>(k7 x0 x1)) (fun x1=>@Bool.true))):=by intros; kernel_rfl
theorem pf_815:((x0:World)→((x1:OsState)→(@Eq (@Prod @Bool (@Prod (@Prod @PyProof.Rows.Seen k9) (@W.Hook.α kh0))) ((k7 x0 x1),((@W.openSeen @h_view_39 [] k12 (fun (x2:@Shared)=>(@Bool.and (@W.xlAt @h_view_39 k17 x2) (@W.recOk (@W.RowW.records k1) x2))) @Bool.true (k0 x0 x1)),(@W.Hook.obs kh0 (k0 x0 x1)))) (@Bool.true,((@W.openGood @h_view_39 []),(@W.Hook.val kh0 x0)))))):=(fun x0=>(fun x1=>(@W.looks_pair @Bool (@Prod (@Prod @PyProof.Rows.Seen k9) (@W.Hook.α kh0)) (k7 x0 x1) @Bool.true ((@W.openSeen @h_view_39 [] k12 (fun (x2:@Shared)=>(@Bool.and (@W.xlAt @h_view_39 k17 x2) (@W.recOk (@W.RowW.records k1) x2))) @Bool.true (k0 x0 x1)),(@W.Hook.obs kh0 (k0 x0 x1))) ((@W.openGood @h_view_39 []),(@W.Hook.val kh0 x0)) ((fun x2=>(fun x3=>(congrFun (My.pf_785 x2) x3))) x0 x1) (@My.pf_814 x0 x1))))
theorem pf_780:((x0:World)→(@Eq ((x1:OsState)→(@Option @Shared)) (fun x1=>(@W.topRun @treeTable (k1).1 x0 11 v_ 2 (@W.SharedT.abs (k32 x0 x1)) (@Thread.mk (@W.doneF @Flow.next) k8 (P_ 401 0 414 15) [(@W.topFrame (P_ 0 0 0 0))]))) (fun x1=>(@some @Shared (k0 x0 x1))))):=by intros; kernel_rfl
theorem pf_49:((x0:World)→(@Eq ((x1:OsState)→(@Option k37)) (fun x1=>(@W.segRun @treeTable (k1).1 x0 11 v_ 1 1 (k27 x0 x1) (@W.blockOf (@W.behindTheImports (k1).1) @yn k8 (P_ 0 0 0 0) [(@W.topFrame (P_ 0 0 0 0))]))) (fun x1=>(@some k37 (@Flow.next,((@W.SharedT.abs (k25 x0 x1)),(k8,(P_ 0 0 0 0)))))))):=by intros; kernel_rfl
theorem pf_47:((x0:World)→(@Eq ((x1:OsState)→(@Option (@Prod @Shared @Thread))) (fun x1=>(@W.topGo @treeTable (k1).1 x0 11 v_ 12 (k35 x0 x1) (@W.topStub (k1).1))) (fun x1=>(@some (@Prod @Shared @Thread) ((k27 x0 x1),k36))))):=by intros; kernel_rfl
theorem pf_262:((x0:World)→(@Eq ((x1:OsState)→(@Option k26)) (fun x1=>(@W.segRunT @treeTable (k1).1 x0 11 v_ 1 1950 (k25 x0 x1) (@W.piecesOf @pZ @yn k8 (P_ 0 0 0 0) [(@W.topFrame (P_ 0 0 0 0))]))) (fun x1=>(@some k26 (@Flow.next,((k22 x0 x1),(k8,(P_ 53 0 74 47)))))))):=by intros; kernel_rfl
theorem pf_498:((x0:World)→(@Eq ((x1:OsState)→(@Option k26)) (fun x1=>(@W.segRunT @treeTable (k1).1 x0 11 v_ 1 1811 (k22 x0 x1) (@W.piecesOf @uq @yn k8 (P_ 53 0 74 47) [(@W.topFrame (P_ 0 0 0 0))]))) (fun x1=>(@some k26 (@Flow.next,((k23 x0 x1),(k8,(P_ 130 0 152 30)))))))):=by intros; kernel_rfl
theorem pf_778:((x0:World)→(@Eq ((x1:OsState)→(@Option k26)) (fun x1=>(@W.segRunT @treeTable (k1).1 x0 11 v_ 1 1304 (k23 x0 x1) (@W.piecesOf @wH @yn k8 (P_ 130 0 152 30) [(@W.topFrame (P_ 0 0 0 0))]))) (fun x1=>(@some k26 (@Flow.next,((k32 x0 x1),(k8,(P_ 401 0 414 15)))))))):=by intros; kernel_rfl
theorem pf_781:((x0:World)→((x1:OsState)→(@Eq (@Option @Shared) (@W.topRun @treeTable (k1).1 x0 11 v_ k21 (k35 x0 x1) (@W.topStub (k1).1)) (@some @Shared (k0 x0 x1))))):=(fun x0=>(fun x1=>(@W.go_top @treeTable (k1).1 x0 11 v_ 12 (@Nat.add 1 (@Nat.add 1950 (@Nat.add 1811 (@Nat.add 1304 2)))) (k35 x0 x1) (k27 x0 x1) (k0 x0 x1) (@W.topStub (k1).1) k36 (congrFun (My.pf_47 x0) x1) (@W.piece_block @treeTable (k1).1 x0 11 v_ @yn (P_ 0 0 0 0) 1 (@Nat.add 1950 (@Nat.add 1811 (@Nat.add 1304 2))) (k27 x0 x1) (@W.SharedT.abs (k25 x0 x1)) (k0 x0 x1) (@W.behindTheImports (k1).1) k8 (P_ 0 0 0 0) (P_ 0 0 0 0) (congrFun (My.pf_49 x0) x1) (@W.piece_app @treeTable (k1).1 x0 11 v_ @yn (P_ 0 0 0 0) 1950 (@Nat.add 1811 (@Nat.add 1304 2)) (@W.SharedT.abs (k25 x0 x1)) (@W.SharedT.abs (k22 x0 x1)) (k0 x0 x1) @pZ (@HAppend.hAppend (@List @Stmt) (@List @Stmt) (@List @Stmt) (@instHAppendOfAppend (@List @Stmt) (@List.instAppend @Stmt)) @uq (@HAppend.hAppend (@List @Stmt) (@List @Stmt) (@List @Stmt) (@instHAppendOfAppend (@List @Stmt) (@List.instAppend @Stmt)) @wH [])) k8 (P_ 0 0 0 0) (P_ 53 0 74 47) (My.sg_ (congrFun (My.pf_262 x0) x1)) (@W.piece_app @treeTable (k1).1 x0 11 v_ @yn (P_ 0 0 0 0) 1811 (@Nat.add 1304 2) (@W.SharedT.abs (k22 x0 x1)) (@W.SharedT.abs (k23 x0 x1)) (k0 x0 x1) @uq (@HAppend.hAppend (@List @Stmt) (@List @Stmt) (@List @Stmt) (@instHAppendOfAppend (@List @Stmt) (@List.instAppend @Stmt)) @wH []) k8 (P_ 53 0 74 47) (P_ 130 0 152 30) (My.sg_ (congrFun (My.pf_498 x0) x1)) (@W.piece_app @treeTable (k1).1 x0 11 v_ @yn (P_ 0 0 0 0) 1304 2 (@W.SharedT.abs (k23 x0 x1)) (@W.SharedT.abs (k32 x0 x1)) (k0 x0 x1) @wH [] k8 (P_ 130 0 152 30) (P_ 401 0 414 15) (My.sg_ (congrFun (My.pf_778 x0) x1)) (congrFun (My.pf_780 x0) x1))))))))
theorem pf_783:((x0:World)→(@Eq (@Prod @Bool (@Prod @Nat (@Option @Value))) ((@Bool.and (@Heap.isNs (@W.boot_heap x0.params) @mainGlobals) (@BEq.beq @Nat (@instBEqOfDecidableEq @Nat @instDecidableEqNat) (@Array.size @GenState g_) 0)),((@Array.size @Obj (@Heap.objs (@W.boot_heap x0.params))),(@Heap.nsMap (@W.boot_heap x0.params) @mainGlobals (.ofString "__annotations__")))) (@Bool.true,(11,v_)))):=by intros; kernel_rfl
theorem pf_43:((x0:@Shared)→(@Eq (@Option @Shared) (@fenceModules? (k1).1 x0) (@some @Shared x0))):=by intros; kernel_rfl
theorem pf_42:(@Eq @Program (@W.opening (k1).1) (@W.plainProg (@Scope.names (@Module.scope (@Program.main (k1).1))))):=by intros; kernel_rfl
theorem left:(@W.LeftO (k1).1 @h_view_39 [] (fun (x0:@Shared)=>(@Bool.and (@W.xlAt @h_view_39 k17 x0) (@W.recOk (@W.RowW.records k1) x0))) (@W.Hook.α kh0) (@W.Hook.obs kh0) (@W.Hook.val kh0) 10222 @Bool.true):=(@W.LeftO.of_pieces (k1).1 @h_view_39 [] (fun (x0:@Shared)=>(@Bool.and (@W.xlAt @h_view_39 k17 x0) (@W.recOk (@W.RowW.records k1) x0))) (@W.Hook.α kh0) (@W.Hook.obs kh0) (@W.Hook.val kh0) 10222 @Bool.true @W.boot_heap @xg g_ g_ @W.boot_drawn d_ @W.boot_toks 1104 11 v_ k21 (@W.boot_open (k1).1 10222 @My.pf_42 (@of_decide_eq_true (@Eq @Bool (@Nat.ble 600 10222) @Bool.true) (@instDecidableEqBool (@Nat.ble 600 10222) @Bool.true) (@id (@Eq @Bool (@Decidable.decide (@Eq @Bool (@Nat.ble 600 10222) @Bool.true) (@instDecidableEqBool (@Nat.ble 600 10222) @Bool.true)) @Bool.true) (@Eq.refl @Bool @Bool.true))) @My.pf_43) @My.pf_783 @My.pf_781 (@of_decide_eq_true (@Eq @Bool (@Nat.ble k21 10222) @Bool.true) (@instDecidableEqBool (@Nat.ble k21 10222) @Bool.true) (@id (@Eq @Bool (@Decidable.decide (@Eq @Bool (@Nat.ble k21 10222) @Bool.true) (@instDecidableEqBool (@Nat.ble k21 10222) @Bool.true)) @Bool.true) (@Eq.refl @Bool @Bool.true))) (fun x0=>(@funext @OsState (fun x1=>(@Prod @Bool (@Prod (@Prod @PyProof.Rows.Seen k9) (@W.Hook.α kh0)))) (fun x1=>((k7 x0 x1),((@W.openSeen @h_view_39 [] k12 (fun (x2:@Shared)=>(@Bool.and (@W.xlAt @h_view_39 k17 x2) (@W.recOk (@W.RowW.records k1) x2))) @Bool.true (k0 x0 x1)),(@W.Hook.obs kh0 (k0 x0 x1))))) (fun x1=>(@Bool.true,((@W.openGood @h_view_39 []),(@W.Hook.val kh0 x0)))) (fun x1=>(@My.pf_815 x0 x1)))))
end My
end
theorem My.myE:∀ P,My.myAs=(My.h_heap_39 P).map (·.1):=fun _=>by kernel_rfl
set_option maxRecDepth 100000
set_option maxHeartbeats 4000000
namespace OD
open PySem PySem.Spec PyProof.Rows L2
abbrev St:=L2.St
noncomputable def Zx (X:Cx):Hp:=if X.stack.length=X.outer.length∨X.fn ""=false then (fun _=>none) else X.H₀
theorem lD {CX:CXT} {P:Program} {w:World} {K:PySem.W.Frag} {mg:Str→Option Value} {base:Heap} {N:List Str} {qual:Str} {scope:Scope} {f:Addr} {cd:Value} {A:Around} {outer:List Env} {s:Shared} {H:Hp} {E:XK}:Zx (yQ CX P w K mg base N qual scope f cd A outer s H E)=H:=if_neg (fun z=>z.elim (Nat.succ_ne_self _) (fun z=>Bool.noConfusion z))
theorem rO {X:Cx} (h:X.stack.length≠X.outer.length) (hf:X.fn ""=true:=by rfl):Zx X=X.H₀:=if_neg (fun z=>z.elim h (fun z=>by rw [hf] at z; cases z))
variable {Z:Hp}
inductive Dt where
 | non | bl (b:Bool) | int (i:Int) | str (x:Str) | tup (ds:List Dt) | lst (ds:List Dt) | scr (ns:List Int) | way (C:Addr) (f:Str) (n:Int) | exc (C:Addr)
def cI (a C:Addr):Heap→Prop:=fun h=>∃ o,h.get? a=some o∧o.cls=.ref C
mutual
def Is (K:PySem.W.Frag) (H:Hp):Dt→V→Prop
 | .non,v=>v=.non
 | .bl b,v=>v=.bl b
 | .int i,v=>v=.int i
 | .str x,v=>v=.str x
 | .tup ds,v=>∃ a xs,v=.ref a∧H a=some (.tup xs)∧AllIs K H ds xs
 | .lst ds,v=>∃ a xs,v=.ref a∧H a=some (.lst xs)∧AllIs K H ds xs
 | .scr ns,v=>∃ a,v=.ref a∧SqL K H a (ns.map V.int)
 | .way C f n,v=>∃ a dx,v=.ref a∧H a=some (.ins C dx [(f,.int n)])
 | .exc C,v=>∃ a,v=.ref a∧H a=some (.ext (cI a C))
def AllIs (K:PySem.W.Frag) (H:Hp):List Dt→List V→Prop
 | [],xs=>xs=[]
 | d::ds,xs=>∃ x r,xs=x::r∧Is K H d x∧AllIs K H ds r
end
variable {K:PySem.W.Frag} {H H' H1 H2:Hp}
theorem is_non {v:V}:Is K H .non v↔v=.non:=by unfold Is; exact Iff.rfl
theorem is_bl {b:Bool} {v:V}:Is K H (.bl b) v↔v=.bl b:=by unfold Is; exact Iff.rfl
theorem is_int {i:Int} {v:V}:Is K H (.int i) v↔v=.int i:=by unfold Is; exact Iff.rfl
theorem is_str {x:Str} {v:V}:Is K H (.str x) v↔v=.str x:=by unfold Is; exact Iff.rfl
theorem is_tup {ds:List Dt} {v:V}:Is K H (.tup ds) v↔∃ a xs,v=.ref a∧H a=some (.tup xs)∧AllIs K H ds xs:=by
 constructor
 ·intro h; unfold Is at h; exact h
 ·intro h; unfold Is; exact h
theorem is_lst {ds:List Dt} {v:V}:Is K H (.lst ds) v↔∃ a xs,v=.ref a∧H a=some (.lst xs)∧AllIs K H ds xs:=by
 constructor
 ·intro h; unfold Is at h; exact h
 ·intro h; unfold Is; exact h
theorem is_scr {ns:List Int} {v:V}:Is K H (.scr ns) v↔∃ a,v=.ref a∧SqL K H a (ns.map V.int):=by
 constructor
 ·intro h; unfold Is at h; exact h
 ·intro h; unfold Is; exact h
theorem is_way {C:Addr} {f:Str} {n:Int} {v:V}:Is K H (.way C f n) v↔∃ a dx,v=.ref a∧H a=some (.ins C dx [(f,.int n)]):=by
 constructor
 ·intro h; unfold Is at h; exact h
 ·intro h; unfold Is; exact h
theorem is_exc {C:Addr} {v:V}:Is K H (.exc C) v↔∃ a,v=.ref a∧H a=some (.ext (cI a C)):=by
 constructor
 ·intro h; unfold Is at h; exact h
 ·intro h; unfold Is; exact h
theorem allIs_nil {xs:List V}:AllIs K H [] xs↔xs=[]:=by unfold AllIs; exact Iff.rfl
theorem allIs_cons {d:Dt} {ds:List Dt} {xs:List V}:AllIs K H (d::ds) xs↔∃ x r,xs=x::r∧Is K H d x∧AllIs K H ds r:=by
 constructor
 ·intro h; unfold AllIs at h; exact h
 ·intro h; unfold AllIs; exact h
mutual
theorem Is.mono0 (s:Same H H'):∀ {d:Dt} {v:V},Is K H d v→Is K H' d v
 | .non,_,h=>is_non.mpr (is_non.mp h)
 | .bl _,_,h=>is_bl.mpr (is_bl.mp h)
 | .int _,_,h=>is_int.mpr (is_int.mp h)
 | .str _,_,h=>is_str.mpr (is_str.mp h)
 | .tup ds,_,h=>by
  obtain ⟨a,xs,e,h1,h2⟩:=is_tup.mp h
  exact is_tup.mpr ⟨a,xs,e,s _ _ h1,AllIs.mono0 s h2⟩
 | .lst ds,_,h=>by
  obtain ⟨a,xs,e,h1,h2⟩:=is_lst.mp h
  exact is_lst.mpr ⟨a,xs,e,s _ _ h1,AllIs.mono0 s h2⟩
 | .scr ns,_,h=>by
  obtain ⟨a,e,h1⟩:=is_scr.mp h
  exact is_scr.mpr ⟨a,e,s.seq h1⟩
 | .way C f n,_,h=>by
  obtain ⟨a,dx,e,h1⟩:=is_way.mp h
  exact is_way.mpr ⟨a,dx,e,s _ _ h1⟩
 | .exc C,_,h=>by
  obtain ⟨a,e,h1⟩:=is_exc.mp h
  exact is_exc.mpr ⟨a,e,s _ _ h1⟩
theorem AllIs.mono0 (s:Same H H'):∀ {ds:List Dt} {xs:List V},AllIs K H ds xs→AllIs K H' ds xs
 | [],_,h=>allIs_nil.mpr (allIs_nil.mp h)
 | d::ds,_,h=>by
  obtain ⟨x,r,e,h1,h2⟩:=allIs_cons.mp h
  exact allIs_cons.mpr ⟨x,r,e,Is.mono0 s h1,AllIs.mono0 s h2⟩
end
theorem AllIs.length:∀ {ds:List Dt} {xs:List V},AllIs K H ds xs→ds.length=xs.length
 | [],_,h=>by rw [allIs_nil.mp h]; rfl
 | d::ds,_,h=>by
  obtain ⟨x,r,rfl,_,h2⟩:=allIs_cons.mp h
  rw [List.length_cons,List.length_cons,AllIs.length h2]
theorem AllIs.get:∀ {ds:List Dt} {xs:List V} {i:Nat} {d:Dt},AllIs K H ds xs→ds[i]? = some d→∃ v,xs[i]? = some v∧Is K H d v
 | [],_,_,_,_,e=>by simp at e
 | d::ds,_,0,d',h,e=>by
  obtain ⟨x,r,rfl,h1,h2⟩:=allIs_cons.mp h
  simp at e; subst e
  exact ⟨x,rfl,h1⟩
 | d::ds,_,i+1,d',h,e=>by
  obtain ⟨x,r,rfl,h1,h2⟩:=allIs_cons.mp h
  obtain ⟨v,e1,e2⟩:=AllIs.get (i:=i) h2 (by simpa using e)
  exact ⟨v,by simpa using e1,e2⟩
theorem AllIs.get':∀ {ds:List Dt} {xs:List V} {i:Nat} {v:V},AllIs K H ds xs→xs[i]? = some v→∃ d,ds[i]? = some d∧Is K H d v
 | [],_,_,_,h,e=>by rw [allIs_nil.mp h] at e; simp at e
 | d::ds,_,0,v,h,e=>by
  obtain ⟨x,r,rfl,h1,h2⟩:=allIs_cons.mp h
  simp at e; subst e
  exact ⟨d,rfl,h1⟩
 | d::ds,_,i+1,v,h,e=>by
  obtain ⟨x,r,rfl,h1,h2⟩:=allIs_cons.mp h
  obtain ⟨v,e1,e2⟩:=AllIs.get' (i:=i) h2 (by simpa using e)
  exact ⟨v,by simpa using e1,e2⟩
theorem AllIs.append:∀ {ds es:List Dt} {xs ys:List V},AllIs K H ds xs→AllIs K H es ys→AllIs K H (ds++es) (xs++ys)
 | [],_,_,_,h,h'=>by rw [allIs_nil.mp h]; exact h'
 | d::ds,_,_,_,h,h'=>by
  obtain ⟨x,r,rfl,h1,h2⟩:=allIs_cons.mp h
  exact allIs_cons.mpr ⟨x,_,rfl,h1,AllIs.append h2 h'⟩
theorem AllIs.drop:∀ {ds:List Dt} {xs:List V} (n:Nat),AllIs K H ds xs→AllIs K H (ds.drop n) (xs.drop n)
 | _,_,0,h=>h
 | [],_,n+1,h=>by rw [allIs_nil.mp h]; exact allIs_nil.mpr rfl
 | d::ds,_,n+1,h=>by
  obtain ⟨x,r,rfl,h1,h2⟩:=allIs_cons.mp h
  exact AllIs.drop n h2
theorem AllIs.take:∀ {ds:List Dt} {xs:List V} (n:Nat),AllIs K H ds xs→AllIs K H (ds.take n) (xs.take n)
 | _,_,0,_=>allIs_nil.mpr rfl
 | [],_,n+1,h=>by rw [allIs_nil.mp h]; exact allIs_nil.mpr rfl
 | d::ds,_,n+1,h=>by
  obtain ⟨x,r,rfl,h1,h2⟩:=allIs_cons.mp h
  exact allIs_cons.mpr ⟨x,_,rfl,h1,AllIs.take n h2⟩
theorem AllIs.ints:∀ {ns:List Int},AllIs K H (ns.map Dt.int) (ns.map V.int)
 | []=>allIs_nil.mpr rfl
 | n::ns=>allIs_cons.mpr ⟨.int n,_,rfl,is_int.mpr rfl,AllIs.ints⟩
theorem AllIs.atI {ds:List Dt} {xs:List V} {i:Int} {d:Dt} (h:AllIs K H ds xs) (e:L2.atI ds i=some d):∃ v,L2.atI xs i=some v∧Is K H d v:=by
 unfold L2.atI at e ⊢
 rw [← h.length]
 cases q:ixN ds.length i with
 | none=>rw [q] at e; cases e
 | some j=>
  rw [q] at e
  exact h.get e
theorem AllIs.one {d:Dt} {xs:List V} (h:AllIs K H [d] xs):∃ v,xs=[v]∧Is K H d v:=by
 obtain ⟨x,r,rfl,h1,h2⟩:=allIs_cons.mp h
 rw [allIs_nil.mp h2]
 exact ⟨x,rfl,h1⟩
theorem AllIs.two {d e:Dt} {xs:List V} (h:AllIs K H [d,e] xs):∃ v u,xs=[v,u]∧Is K H d v∧Is K H e u:=by
 obtain ⟨x,r,rfl,h1,h2⟩:=allIs_cons.mp h
 obtain ⟨u,rfl,h3⟩:=h2.one
 exact ⟨x,u,rfl,h1,h3⟩
theorem zM {p:Addr} (h:H p=none) (o:HO):Same H (upd H p o):=fun b u q=>by rw [zr (zS q h)]; exact q
structure Vw where
 g:Hp
 h:Hp
 sub:Same g h
structure Le (W W':Vw):Prop where
 g:Same W.g W'.g
 h:Same W.h W'.h
 n:∀ a,W.h a≠none→W.g a=none→W'.g a=none
theorem Le.refl (W:Vw):Le W W:=⟨Same.refl _,Same.refl _,fun _ _ h=>h⟩
theorem Le.trans {W W1 W2:Vw} (a:Le W W1) (b:Le W1 W2):Le W W2:=
 ⟨a.g.trans b.g,a.h.trans b.h,fun c h1 h2=>b.n c (fun z=>h1 (a.h.free z)) (a.n c h1 h2)⟩
theorem Is.mono {W W':Vw} {d:Dt} {v:V} (h:Is K W.g d v) (s:Le W W'):Is K W'.g d v:=Is.mono0 s.g h
theorem AllIs.mono {W W':Vw} {d:List Dt} {v:List V} (h:AllIs K W.g d v) (s:Le W W'):AllIs K W'.g d v:=AllIs.mono0 s.g h
def Vw.new (W:Vw) (p:Addr) (o:HO):Vw:=⟨upd W.g p o,upd W.h p o,fun b u q=>by
 by_cases e:b=p
 ·subst e; rw [zp] at q ⊢; exact q
 ·rw [zr e] at q ⊢; exact W.sub _ _ q⟩
theorem ul {W:Vw} {p:Addr} (hp:W.h p=none) (o:HO):Le W (W.new p o):=
 ⟨zM (W.sub.free hp) o,zM hp o,fun a h1 h2=>by
  have:a≠p:=fun e=>h1 (e ▸ hp)
  show upd W.g p o a=none
  rw [zr this]; exact h2⟩
def Vw.mine (W:Vw) (p:Addr) (o:HO) (hp:W.g p=none):Vw:=⟨W.g,upd W.h p o,fun b u q=>by
 have:b≠p:=fun e=>by rw [e,hp] at q; cases q
 rw [zr this]; exact W.sub _ _ q⟩
theorem uU {W:Vw} {p:Addr} (hp:W.h p=none) (o:HO):Le W (W.mine p o (W.sub.free hp)):=
 ⟨Same.refl _,zM hp o,fun _ _ h=>h⟩
def Vw.frz (W:Vw) (p:Addr) (o:HO) (hp:W.h p=some o):Vw:=⟨upd W.g p o,W.h,fun b u q=>by
 by_cases e:b=p
 ·subst e; rw [zp] at q; rw [hp]; exact q
 ·rw [zr e] at q; exact W.sub _ _ q⟩
inductive Sl where | none | some (d:Dt) | own (ds:List Dt) | arg (a:Addr) (ds:List Dt)
abbrev DS:=List Sl
structure Rl (K:PySem.W.Frag) (Z F:Hp) (W:Vw) (ρ:DS) (σ:St):Prop where
 len:ρ.length=σ.length
 at_:∀ (i:Nat) (d:Dt),ρ[i]? = some (.some d)→∃ v,σ[i]? = some (some v)∧Is K W.g d v
 ow:∀ (i:Nat) (ds:List Dt),ρ[i]? = some (.own ds)→∃ a xs,σ[i]? = some (some (.ref a))∧W.h a=some (.lst xs)∧W.g a=none∧F a=none∧AllIs K W.g ds xs
 ne:∀ (i j:Nat) (ds es:List Dt),i≠j→ρ[i]? = some (.own ds)→ρ[j]? = some (.own es)→σ[i]?≠σ[j]?
 fr:Same F W.h
 z:Same Z F
 ar:∀ (i:Nat) (a:Addr) (ds:List Dt),ρ[i]? = some (.arg a ds)→(∃ xs,σ[i]? = some (some (.ref a))∧W.h a=some (.lst xs)∧W.g a=none∧F a=none∧AllIs K W.g ds xs)∧(∀ (j:Nat) (es:List Dt),ρ[j]? = some (.own es)→σ[j]?≠some (some (.ref a)))∧∀ (j:Nat) (b:Addr) (es:List Dt),ρ[j]? = some (.arg b es)→j=i
variable {F:Hp} {W W':Vw}
theorem Rl.mono {ρ:DS} {σ:St} (r:Rl K Z F W ρ σ) (s:Le W W'):Rl K Z F W' ρ σ:=
 ⟨r.len,fun i d e=>let ⟨v,h1,h2⟩:=r.at_ i d e; ⟨v,h1,h2.mono s⟩,
  fun i ds e=>let ⟨a,xs,h1,h2,h3,h4,h5⟩:=r.ow i ds e; ⟨a,xs,h1,s.h _ _ h2,s.n a (by rw [h2]; intro z; cases z) h3,h4,h5.mono s⟩,r.ne,r.fr.trans s.h,r.z,
  fun i a ds e=>let ⟨⟨xs,h1,h2,h3,h4,h5⟩,k1,k2⟩:=r.ar i a ds e; ⟨⟨xs,h1,s.h _ _ h2,s.n a (by rw [h2]; intro z; cases z) h3,h4,h5.mono s⟩,k1,k2⟩⟩
theorem zn {α:Type} {l:List α} {i j:Nat} {x y:α} (q:(l.set i x)[j]? = some y):(i=j∧i<l.length∧x=y)∨(i≠j∧l[j]? = some y):=by
 by_cases hij:i=j
 ·subst hij
  by_cases hl:i<l.length
  ·rw [List.getElem?_set_self hl] at q
   exact .inl ⟨rfl,hl,Option.some.inj q⟩
  ·rw [List.getElem?_eq_none (by rw [List.length_set]; omega)] at q
   cases q
 ·rw [List.getElem?_set_ne hij] at q
  exact .inr ⟨hij,q⟩
theorem Rl.set {ρ:DS} {σ:St} (r:Rl K Z F W ρ σ) {d:Dt} {v:V} (i:Nat) (h:Is K W.g d v):Rl K Z F W (ρ.set i (.some d)) (σ.set i (some v)):=by
 refine ⟨by rw [List.length_set,List.length_set]; exact r.len,fun j e q=>?_,fun j ds q=>?_,fun j k ds es hjk q1 q2=>?_,r.fr,r.z,fun j a ds q=>?_⟩
 ·rcases zn q with ⟨rfl,hl,e1⟩ | ⟨hij,q⟩
  ·cases e1
   exact ⟨v,by rw [List.getElem?_set_self (by rw [← r.len]; exact hl)],h⟩
  ·rw [List.getElem?_set_ne hij]
   exact r.at_ j e q
 ·rcases zn q with ⟨_,_,e1⟩ | ⟨hij,q⟩
  ·cases e1
  ·rw [List.getElem?_set_ne hij]
   exact r.ow j ds q
 ·rcases zn q1 with ⟨_,_,e1⟩ | ⟨hij,q1⟩
  ·cases e1
  rcases zn q2 with ⟨_,_,e1⟩ | ⟨hik,q2⟩
  ·cases e1
  rw [List.getElem?_set_ne hij,List.getElem?_set_ne hik]
  exact r.ne j k ds es hjk q1 q2
 ·rcases zn q with ⟨_,_,e1⟩ | ⟨hij,q⟩
  ·cases e1
  obtain ⟨⟨xs,h1,h2⟩,k1,k2⟩:=r.ar j a ds q
  refine ⟨⟨xs,by rw [List.getElem?_set_ne hij]; exact h1,h2⟩,fun k es q'=>?_,fun k c es q'=>?_⟩
  ·rcases zn q' with ⟨_,_,e1⟩ | ⟨hik,q'⟩
   ·cases e1
   rw [List.getElem?_set_ne hik]
   exact k1 k es q'
  ·rcases zn q' with ⟨_,_,e1⟩ | ⟨hik,q'⟩
   ·cases e1
   exact k2 k c es q'
theorem Rl.own {ρ:DS} {σ:St} (r:Rl K Z F W ρ σ) (s:Le W W') {p:Addr} {xs:List V} {ds:List Dt} (i:Nat) (h0:W.h p=none) (h1:W'.h p=some (.lst xs)) (h2:W'.g p=none) (h3:AllIs K W'.g ds xs):
  Rl K Z F W' (ρ.set i (.own ds)) (σ.set i (some (.ref p))):=by
 have r':=r.mono s
 have nep:∀ (j:Nat) (es:List Dt),ρ[j]? = some (Sl.own es)→σ[j]?≠some (some (V.ref p)):=fun j es q z=>by
  obtain ⟨a,ys,e1,e2,_⟩:=r.ow j es q
  rw [z] at e1
  cases e1
  rw [h0] at e2
  cases e2
 refine ⟨by rw [List.length_set,List.length_set]; exact r.len,fun j e q=>?_,fun j es q=>?_,fun j k es es' hjk q1 q2=>?_,r'.fr,r.z,fun j a fs q=>?_⟩
 ·rcases zn q with ⟨_,_,e1⟩ | ⟨hij,q⟩
  ·cases e1
  ·rw [List.getElem?_set_ne hij]
   exact r'.at_ j e q
 ·rcases zn q with ⟨rfl,hl,e1⟩ | ⟨hij,q⟩
  ·cases e1
   exact ⟨p,xs,by rw [List.getElem?_set_self (by rw [← r.len]; exact hl)],h1,h2,r.fr.free h0,h3⟩
  ·rw [List.getElem?_set_ne hij]
   exact r'.ow j es q
 ·rcases zn q1 with ⟨rfl,hl,e1⟩ | ⟨hij,q1⟩
  ·rcases zn q2 with ⟨rfl,_,_⟩ | ⟨hik,q2⟩
   ·exact absurd rfl hjk
   ·rw [List.getElem?_set_self (by rw [← r.len]; exact hl),List.getElem?_set_ne hik]
    exact fun z=>nep k es' q2 z.symm
  ·rcases zn q2 with ⟨rfl,hl,_⟩ | ⟨hik,q2⟩
   ·rw [List.getElem?_set_self (by rw [← r.len]; exact hl),List.getElem?_set_ne hij]
    exact nep j es q1
   ·rw [List.getElem?_set_ne hij,List.getElem?_set_ne hik]
    exact r.ne j k es es' hjk q1 q2
 ·rcases zn q with ⟨_,_,e1⟩ | ⟨hij,q⟩
  ·cases e1
  obtain ⟨⟨ys,g1,g2⟩,k1,k2⟩:=r'.ar j a fs q
  obtain ⟨⟨_,_,g3,_⟩,_,_⟩:=r.ar j a fs q
  refine ⟨⟨ys,by rw [List.getElem?_set_ne hij]; exact g1,g2⟩,fun k es q'=>?_,fun k c es q'=>?_⟩
  ·rcases zn q' with ⟨rfl,hl,e1⟩ | ⟨hik,q'⟩
   ·rw [List.getElem?_set_self (by rw [← r.len]; exact hl)]
    intro z
    cases z
    rw [h0] at g3
    cases g3
   ·rw [List.getElem?_set_ne hik]
    exact k1 k es q'
  ·rcases zn q' with ⟨_,_,e1⟩ | ⟨hik,q'⟩
   ·cases e1
   exact k2 k c es q'
theorem Rl.put {ρ:DS} {σ:St} (r:Rl K Z F W ρ σ) {i:Nat} {ds es:List Dt} {a:Addr} {ys:List V} (hi:ρ[i]? = some (.own ds)) (ha:σ[i]? = some (some (.ref a))) (hg:W.g a=none) (hF:F a=none) (h3:AllIs K W.g es ys):
  Rl K Z F (W.mine a (.lst ys) hg) (ρ.set i (.own es)) σ:=by
 have hl:i<ρ.length:=by
  rcases Nat.lt_or_ge i ρ.length with h | h
  ·exact h
  ·rw [List.getElem?_eq_none h] at hi; cases hi
 have other:∀ j fs,j≠i→ρ[j]? = some (.own fs)→σ[j]?≠some (some (.ref a)):=fun j fs hj q z=>r.ne j i fs ds hj q hi (z.trans ha.symm)
 refine ⟨by rw [List.length_set]; exact r.len,fun j e q=>?_,fun j fs q=>?_,fun j k fs fs' hjk q1 q2=>?_,fun p o q=>?_,r.z,fun j c fs q=>?_⟩
 ·rcases zn q with ⟨_,_,e1⟩ | ⟨hij,q⟩
  ·cases e1
  ·exact r.at_ j e q
 ·rcases zn q with ⟨rfl,_,e1⟩ | ⟨hij,q⟩
  ·cases e1
   exact ⟨a,ys,ha,zp,hg,hF,h3⟩
  ·obtain ⟨b,xs,e1,e2,e3,e4,e5⟩:=r.ow j fs q
   have hb:b≠a:=fun z=>other j fs (fun z=>hij z.symm) q (z ▸ e1)
   exact ⟨b,xs,e1,(zr hb).trans e2,e3,e4,e5⟩
 ·have k1:∃ gs,ρ[j]? = some (.own gs):=by
   rcases zn q1 with ⟨rfl,_,_⟩ | ⟨_,q⟩
   ·exact ⟨_,hi⟩
   ·exact ⟨_,q⟩
  have k2:∃ gs,ρ[k]? = some (.own gs):=by
   rcases zn q2 with ⟨rfl,_,_⟩ | ⟨_,q⟩
   ·exact ⟨_,hi⟩
   ·exact ⟨_,q⟩
  obtain ⟨_,k1⟩:=k1
  obtain ⟨_,k2⟩:=k2
  exact r.ne j k _ _ hjk k1 k2
 ·have e:p≠a:=fun e=>by rw [e,hF] at q; cases q
  exact (zr (H:=W.h) (o:=.lst ys) e).trans (r.fr p o q)
 ·rcases zn q with ⟨_,_,e1⟩ | ⟨hij,q⟩
  ·cases e1
  obtain ⟨⟨ys',g1,g2,g3,g4,g5⟩,k1,k2⟩:=r.ar j c fs q
  have hc:c≠a:=fun z=>k1 i ds hi (by rw [z]; exact ha)
  refine ⟨⟨ys',g1,(zr hc).trans g2,g3,g4,g5⟩,fun k es' q'=>?_,fun k c' es' q'=>?_⟩
  ·rcases zn q' with ⟨rfl,_,_⟩ | ⟨_,q'⟩
   ·exact k1 i ds hi
   ·exact k1 k es' q'
  ·rcases zn q' with ⟨_,_,e1⟩ | ⟨hik,q'⟩
   ·cases e1
   exact k2 k c' es' q'
theorem Rl.frz {ρ:DS} {σ:St} (r:Rl K Z F W ρ σ) {i:Nat} {ds:List Dt} {a:Addr} {xs:List V} (hi:ρ[i]? = some (.own ds)) (ha:σ[i]? = some (some (.ref a))) (hh:W.h a=some (.lst xs)) (hg:W.g a=none) (h3:AllIs K W.g ds xs):
  Rl K Z F (W.frz a _ hh) (ρ.set i (.some (.lst ds))) σ:=by
 have sg:Same W.g (upd W.g a (.lst xs)):=zM hg _
 have other:∀ j fs,j≠i→ρ[j]? = some (.own fs)→σ[j]?≠some (some (.ref a)):=fun j fs hj q z=>r.ne j i fs ds hj q hi (z.trans ha.symm)
 refine ⟨by rw [List.length_set]; exact r.len,fun j e q=>?_,fun j fs q=>?_,fun j k fs fs' hjk q1 q2=>?_,r.fr,r.z,fun j c fs q=>?_⟩
 ·rcases zn q with ⟨rfl,_,e1⟩ | ⟨hij,q⟩
  ·cases e1
   exact ⟨_,ha,is_lst.mpr ⟨a,xs,rfl,zp,AllIs.mono0 sg h3⟩⟩
  ·obtain ⟨v,e1,e2⟩:=r.at_ j e q
   exact ⟨v,e1,Is.mono0 sg e2⟩
 ·rcases zn q with ⟨_,_,e1⟩ | ⟨hij,q⟩
  ·cases e1
  ·obtain ⟨b,ys,e1,e2,e3,e4,e5⟩:=r.ow j fs q
   have hb:b≠a:=fun z=>other j fs (fun z=>hij z.symm) q (z ▸ e1)
   exact ⟨b,ys,e1,e2,(zr hb).trans e3,e4,AllIs.mono0 sg e5⟩
 ·rcases zn q1 with ⟨_,_,e1⟩ | ⟨_,q1⟩
  ·cases e1
  rcases zn q2 with ⟨_,_,e1⟩ | ⟨_,q2⟩
  ·cases e1
  exact r.ne j k _ _ hjk q1 q2
 ·rcases zn q with ⟨_,_,e1⟩ | ⟨hij,q⟩
  ·cases e1
  obtain ⟨⟨ys',g1,g2,g3,g4,g5⟩,k1,k2⟩:=r.ar j c fs q
  have hc:c≠a:=fun z=>k1 i ds hi (by rw [z]; exact ha)
  refine ⟨⟨ys',g1,g2,(zr hc).trans g3,g4,AllIs.mono0 sg g5⟩,fun k es' q'=>?_,fun k c' es' q'=>?_⟩
  ·rcases zn q' with ⟨_,_,e1⟩ | ⟨_,q'⟩
   ·cases e1
   ·exact k1 k es' q'
  ·rcases zn q' with ⟨_,_,e1⟩ | ⟨hik,q'⟩
   ·cases e1
   exact k2 k c' es' q'
def yC (n:Nat) (ds:List Dt):DS:=ds.map Sl.some++List.replicate (n - ds.length) Sl.none
theorem Rl.start {N:List Str} {ds:List Dt} {vs:List V} (h:AllIs K W.g ds vs) (hz:Same Z W.h):Rl K Z W.h W (yC N.length ds) (L2.start N vs):=by
 have hl:=h.length
 have cls:∀ (i:Nat) (y:Sl),(yC N.length ds)[i]? = some y→(∃ d,ds[i]? = some d∧y=.some d)∨y=.none:=fun i y e=>by
  unfold yC at e
  by_cases hi:i<ds.length
  ·rw [List.getElem?_append_left (by rw [List.length_map]; exact hi),List.getElem?_map] at e
   cases q:ds[i]? with
   | none=>rw [q] at e; cases e
   | some d'=>
    rw [q] at e
    exact .inl ⟨d',rfl,(Option.some.inj e).symm⟩
  ·rw [List.getElem?_append_right (by rw [List.length_map]; omega),List.getElem?_replicate] at e
   split at e
   ·exact .inr (Option.some.inj e).symm
   ·cases e
 refine ⟨by unfold L2.start yC; rw [List.length_append,List.length_append,List.length_map,List.length_map,List.length_replicate,List.length_replicate,hl],fun i d e=>?_,fun i es e=>?_,fun i j es fs _ e _=>?_,Same.refl _,hz,fun i a es e=>?_⟩
 ·rcases cls i _ e with ⟨d',q,e1⟩ | e1
  ·cases e1
   obtain ⟨v,h1,h2⟩:=h.get q
   refine ⟨v,?_,h2⟩
   have hi:i<ds.length:=by
    rcases Nat.lt_or_ge i ds.length with h | h
    ·exact h
    ·rw [List.getElem?_eq_none h] at q; cases q
   unfold L2.start
   rw [List.getElem?_append_left (by rw [List.length_map,← hl]; exact hi),List.getElem?_map,h1]
   rfl
  ·cases e1
 ·rcases cls i _ e with ⟨d',q,e1⟩ | e1
  ·cases e1
  ·cases e1
 ·rcases cls i _ e with ⟨d',q,e1⟩ | e1
  ·cases e1
  ·cases e1
 ·rcases cls i _ e with ⟨d',q,e1⟩ | e1
  ·cases e1
  ·cases e1
abbrev DTE:=DS→(Dt→Prop)→Prop
abbrev DTT:=DS→(Bool→Prop)→Prop
abbrev DTA:=DS→(List Dt→Prop)→Prop
def LiE (K:PySem.W.Frag) (Z:Hp) (te:TE) (t:DTE):Prop:=
 ∀ {F:Hp} (ρ:DS) (σ:St) (H:Vw) (Q:Dt→Prop),Rl K Z F H ρ σ→t ρ Q→∀ R:VK,(∀ d v H',Le H H'→Is K H'.g d v→Q d→R v H'.h)→te σ H.h R
def LiT (K:PySem.W.Frag) (Z:Hp) (te:TT) (t:DTT):Prop:=
 ∀ {F:Hp} (ρ:DS) (σ:St) (H:Vw) (Q:Bool→Prop),Rl K Z F H ρ σ→t ρ Q→∀ R:Bool→Hp→Prop,(∀ d H',Le H H'→Q d→R d H'.h)→te σ H.h R
def LiA (K:PySem.W.Frag) (Z:Hp) (te:TA) (t:DTA):Prop:=
 ∀ {F:Hp} (ρ:DS) (σ:St) (H:Vw) (Q:List Dt→Prop),Rl K Z F H ρ σ→t ρ Q→∀ R:List V→Hp→Prop,(∀ d v H',Le H H'→AllIs K H'.g d v→Q d→R v H'.h)→te σ H.h R
def DE (X:Cx) (e:Expr) (t:DTE):Prop:=∃ te,PE X e te∧LiE X.K (Zx X) te t
def DT (X:Cx) (e:Expr) (t:DTT):Prop:=∃ te,PT X e te∧LiT X.K (Zx X) te t
def DW (X:Cx) (e:Expr) (t:DTT):Prop:=∃ te,PW X e te∧LiT X.K (Zx X) te t
def DA (X:Cx) (es:List Expr) (t:DTA):Prop:=∃ te,PA X es te∧LiA X.K (Zx X) te t
theorem DW.dt {X:Cx} {e:Expr} {t:DTT} (h:DW X e t):DT X e t:=let ⟨te,h1,h2⟩:=h; ⟨te,h1.pt,h2⟩
def iy (i:Nat):DTE:=fun ρ Q=>∃ d,ρ[i]? = some (.some d)∧Q d
def dC (d:Dt):DTE:=fun _ Q=>Q d
section
variable {X:Cx} {a b c:Expr} {ta tb tc:DTE} {pos:Pos}
theorem dv (i:Nat) {x:Str} {pos:Pos} (hN:X.N[i]? = some x:=by rfl) (hv:Vis X.env.scope x:=by first | exact Or.inl rfl | exact Or.inr (Or.inl rfl) | exact Or.inr (Or.inr rfl)) (hd:(x == ("__debug__":Str))=false:=by decide)
  (hcd:(x == ("__classdict__":Str))=false:=by decide):DE X (.Name x pos) (iy i):=
 ⟨i6 i,xb hN hv hd hcd,fun ρ σ H Q r h R k=>by
  obtain ⟨d,e,q⟩:=h
  obtain ⟨v,h1,h2⟩:=r.at_ i d e
  exact ⟨v,h1,k d v H (Le.refl H) h2 q⟩⟩
theorem lic {v:V} {d:Dt} (h:∀ H:Vw,Is K H.g d v):LiE K Z (tC v) (dC d):=fun ρ σ H Q r q R k=>k d v H (Le.refl H) (h H) q
theorem zc {i j pos}:DE X (.Constant (.int i) j pos) (dC (.int i)):=⟨_,kq,lic fun _=>is_int.mpr rfl⟩
theorem wX {b j pos}:DE X (.Constant (.bool b) j pos) (dC (.bl b)):=⟨_,Wh,lic fun _=>is_bl.mpr rfl⟩
theorem Xu {x j pos}:DE X (.Constant (.str x) j pos) (dC (.str x)):=⟨_,bw,lic fun _=>is_str.mpr rfl⟩
def DOp (X:Cx) (f:Value→Value→Sem Value) (g:Dt→Dt→(Dt→Prop)→Prop):Prop:=
 ∃ r,OpR X f r∧∀ (H:Vw) (x y:V) (d e:Dt) (Q:Dt→Prop),Is X.K H.g d x→Is X.K H.g e y→g d e Q→∀ R:VK,(∀ d v H',Le H H'→Is X.K H'.g d v→Q d→R v H'.h)→r x y H.h R
def dOp (g:Dt→Dt→(Dt→Prop)→Prop) (ta tb:DTE):DTE:=fun ρ Q=>ta ρ fun d=>tb ρ fun e=>g d e Q
theorem Y9 {te tf:TE} {r:R2} {g:Dt→Dt→(Dt→Prop)→Prop} (ha:LiE K Z te ta) (hb:LiE K Z tf tb)
  (hg:∀ (H:Vw) (x y:V) (d e:Dt) (Q:Dt→Prop),Is K H.g d x→Is K H.g e y→g d e Q→∀ R:VK,(∀ d v H',Le H H'→Is K H'.g d v→Q d→R v H'.h)→r x y H.h R):LiE K Z (tOp r te tf) (dOp g ta tb):=
 fun ρ σ H Q rl h R k=>ha ρ σ H _ rl h _ fun d v H1 s1 i1 q1=>hb ρ σ H1 _ (rl.mono s1) q1 _ fun e u H2 s2 i2 q2=>
  hg H2 v u d e Q (i1.mono s2) i2 q2 R fun d' v' H3 s3 i3 q3=>k d' v' H3 ((s1.trans s2).trans s3) i3 q3
theorem zk {op:Operator} {g:Dt→Dt→(Dt→Prop)→Prop} (ho:DOp X (binaryOp op) g) (ha:DE X a ta) (hb:DE X b tb):DE X (.BinOp a op b pos) (dOp g ta tb):=by
 obtain ⟨r,h1,h2⟩:=ho
 obtain ⟨te,p1,l1⟩:=ha
 obtain ⟨tf,p2,l2⟩:=hb
 exact ⟨_,cA h1 p1 p2,Y9 l1 l2 h2⟩
theorem ux {op:CmpOp} {g:Dt→Dt→(Dt→Prop)→Prop} (ho:DOp X (compareOp op) g) (ha:DE X a ta) (hb:DE X b tb) (hm:behindInMarks op b=false):DE X (.Compare a [op] [b] pos) (dOp g ta tb):=by
 obtain ⟨r,h1,h2⟩:=ho
 obtain ⟨te,p1,l1⟩:=ha
 obtain ⟨tf,p2,l2⟩:=hb
 exact ⟨_,gl h1 p1 p2 hm,Y9 l1 l2 h2⟩
def vP (t:DTE):DTT:=fun ρ Q=>t ρ fun d=>∃ k,d=.bl k∧Q k
theorem qu {te:TE} {t:DTE} (h:LiE K Z te t):LiT K Z (lJ te) (vP t):=fun ρ σ H Q r q R k=>
 h ρ σ H _ r q _ fun d v H1 s1 i1 ⟨b,e,qb⟩=>by
  subst e
  exact ⟨b,is_bl.mp i1,k b H1 s1 qb⟩
theorem zB {op:CmpOp} {g:Dt→Dt→(Dt→Prop)→Prop} (ho:DOp X (compareOp op) g) (ha:DE X a ta) (hb:DE X b tb) (hm:behindInMarks op b=false):DT X (.Compare a [op] [b] pos) (vP (dOp g ta tb)):=by
 obtain ⟨r,h1,h2⟩:=ho
 obtain ⟨te,p1,l1⟩:=ha
 obtain ⟨tf,p2,l2⟩:=hb
 exact ⟨_,gd h1 p1 p2 hm,qu (Y9 l1 l2 h2)⟩
theorem zY {e:Expr} {t:DTE} (h:DE X e t) (he:∀ yu,isTrue e X.env yu=(do let v ← yu; standAt e.pos; holding [v] (truthy v)):=by intro _; rfl):DT X e (vP t):=by
 obtain ⟨te,p,l⟩:=h
 exact ⟨_,bp p he,qu l⟩
def iC (g g':Dt→Dt→(Dt→Prop)→Prop) (ta tb tc:DTE):DTE:=fun ρ Q=>ta ρ fun d=>tb ρ fun e=>g d e fun z=>∃ k,z=.bl k∧(if k=true then tc ρ fun w=>g' e w Q else Q (.bl false))
theorem dZ {te tf tg:TE} {r r':R2} {g g':Dt→Dt→(Dt→Prop)→Prop} (ha:LiE K Z te ta) (hb:LiE K Z tf tb) (hc:LiE K Z tg tc)
  (hg:∀ (H:Vw) (x y:V) (d e:Dt) (Q:Dt→Prop),Is K H.g d x→Is K H.g e y→g d e Q→∀ R:VK,(∀ d v H',Le H H'→Is K H'.g d v→Q d→R v H'.h)→r x y H.h R)
  (hg':∀ (H:Vw) (x y:V) (d e:Dt) (Q:Dt→Prop),Is K H.g d x→Is K H.g e y→g' d e Q→∀ R:VK,(∀ d v H',Le H H'→Is K H'.g d v→Q d→R v H'.h)→r' x y H.h R):LiE K Z (lM r r' te tf tg) (iC g g' ta tb tc):=
 fun ρ σ H Q rl h R k=>ha ρ σ H _ rl h _ fun d v H1 s1 i1 q1=>hb ρ σ H1 _ (rl.mono s1) q1 _ fun e u H2 s2 i2 q2=>
  hg H2 v u d e _ (i1.mono s2) i2 q2 _ fun d' v' H3 s3 i3 ⟨z,ez,q3⟩=>by
   subst ez
   refine ⟨z,is_bl.mp i3,?_⟩
   cases z with
   | false=>exact k _ _ H3 ((s1.trans s2).trans s3) (is_bl.mpr rfl) q3
   | true=>exact hc ρ σ H3 _ (rl.mono ((s1.trans s2).trans s3)) q3 _ fun w x H4 s4 i4 q4=>hg' H4 u x e w Q (i2.mono (s3.trans s4)) i4 q4 R fun d5 v5 H5 s5 i5 q5=>k d5 v5 H5 (((s1.trans s2).trans (s3.trans s4)).trans s5) i5 q5
theorem j8 {op op':CmpOp} {g g':Dt→Dt→(Dt→Prop)→Prop} (ho:DOp X (compareOp op) g) (ho':DOp X (compareOp op') g') (ha:DE X a ta) (hb:DE X b tb) (hc:DE X c tc)
  (hm:lastMarks [op,op'] [b,c]=false:=by with_unfolding_all rfl):DT X (.Compare a [op,op'] [b,c] pos) (vP (iC g g' ta tb tc)):=by
 obtain ⟨r,h1,h2⟩:=ho
 obtain ⟨r',h3,h4⟩:=ho'
 obtain ⟨te,p1,l1⟩:=ha
 obtain ⟨tf,p2,l2⟩:=hb
 obtain ⟨tg,p3,l3⟩:=hc
 exact ⟨_,l9 h1 h3 p1 p2 p3 hm,qu (dZ l1 l2 l3 h2 h4)⟩
variable {tA tB:DTT} {yJ:List Expr}
def XG (t u:DTT):DTT:=fun ρ Q=>t ρ fun c=>if c=true then u ρ Q else Q false
def dOr (t u:DTT):DTT:=fun ρ Q=>t ρ fun c=>if c=true then Q true else u ρ Q
def UG (t:DTT):DTT:=fun ρ Q=>t ρ fun c=>Q (!c)
theorem yG (ha:DT X a tA):DW X (.BoolOp .And [a] pos) tA:=let ⟨_,p,l⟩:=ha; ⟨_,gc p,l⟩
theorem wx (ha:DT X a tA):DW X (.BoolOp .Or [a] pos) tA:=let ⟨_,p,l⟩:=ha; ⟨_,bn p,l⟩
theorem xB (ha:DT X a tA) (hb:DW X (.BoolOp .And (b::yJ) pos) tB):DW X (.BoolOp .And (a::b::yJ) pos) (XG tA tB):=by
 obtain ⟨te,p1,l1⟩:=ha
 obtain ⟨tf,p2,l2⟩:=hb
 refine ⟨_,bo p1 p2,fun ρ σ H Q r h R k=>l1 ρ σ H _ r h _ fun c H1 s1 q1=>?_⟩
 cases c with
 | true=>exact l2 ρ σ H1 Q (r.mono s1) q1 R fun d H2 s2 q2=>k d H2 (s1.trans s2) q2
 | false=>exact k _ H1 s1 q1
theorem wW (ha:DT X a tA) (hb:DW X (.BoolOp .Or (b::yJ) pos) tB):DW X (.BoolOp .Or (a::b::yJ) pos) (dOr tA tB):=by
 obtain ⟨te,p1,l1⟩:=ha
 obtain ⟨tf,p2,l2⟩:=hb
 refine ⟨_,Wd p1 p2,fun ρ σ H Q r h R k=>l1 ρ σ H _ r h _ fun c H1 s1 q1=>?_⟩
 cases c with
 | false=>exact l2 ρ σ H1 Q (r.mono s1) q1 R fun d H2 s2 q2=>k d H2 (s1.trans s2) q2
 | true=>exact k _ H1 s1 q1
theorem xZ (ha:DT X a tA):DT X (.UnaryOp .Not a pos) (UG tA):=by
 obtain ⟨te,p1,l1⟩:=ha
 exact ⟨_,bq p1,fun ρ σ H Q r h R k=>l1 ρ σ H _ r h _ fun c H1 s1 q1=>k _ H1 s1 q1⟩
def VR (ta tb:DTE):DTE:=fun ρ Q=>ta ρ fun d=>∃ c,d=.bl c∧if c=true then tb ρ Q else Q (.bl false)
def VC (ta:DTE):DTE:=fun ρ Q=>ta ρ fun d=>∃ c,d=.bl c∧Q (.bl (!c))
theorem vd {op} {t:DTE} (h:DE X a t):DE X (.BoolOp op [a] pos) t:=let ⟨_,p,l⟩:=h; ⟨_,bx p,l⟩
theorem xk (ha:DE X a ta) (hb:DE X (.BoolOp .And (b::yJ) pos) tb):DE X (.BoolOp .And (a::b::yJ) pos) (VR ta tb):=by
 obtain ⟨te,p1,l1⟩:=ha
 obtain ⟨tf,p2,l2⟩:=hb
 refine ⟨_,bD p1 p2,fun ρ σ H Q r h R k=>l1 ρ σ H _ r h _ fun d v H1 s1 i1 ⟨c,e,q1⟩=>?_⟩
 subst e
 refine ⟨c,is_bl.mp i1,?_⟩
 cases c with
 | true=>exact l2 ρ σ H1 Q (r.mono s1) q1 R fun d v H2 s2 i2 q2=>k d v H2 (s1.trans s2) i2 q2
 | false=>exact k _ _ H1 s1 (is_bl.mpr rfl) q1
theorem iq (ha:DE X a ta):DE X (.UnaryOp .Not a pos) (VC ta):=by
 obtain ⟨te,p1,l1⟩:=ha
 refine ⟨_,bz p1,fun ρ σ H Q r h R k=>l1 ρ σ H _ r h _ fun d v H1 s1 i1 ⟨c,e,q1⟩=>?_⟩
 subst e
 exact ⟨c,is_bl.mp i1,k _ _ H1 s1 (is_bl.mpr rfl) q1⟩
end
section
variable {X:Cx} {a b c:Expr} {ta tb tc:DTE} {pos:Pos}
def gI (g:Int→Int→Dt):Dt→Dt→(Dt→Prop)→Prop:=fun d e Q=>∃ i j,d=.int i∧e=.int j∧Q (g i j)
def gIC (C:Int→Int→Prop) (g:Int→Int→Dt):Dt→Dt→(Dt→Prop)→Prop:=fun d e Q=>∃ i j,d=.int i∧e=.int j∧C i j∧Q (g i j)
theorem io {f:Value→Value→Sem Value} {g:Int→Int→Int} (h:OpR X f (rI0 fun i j=>.int (g i j))):DOp X f (gI fun i j=>.int (g i j)):=by
 refine ⟨_,h,fun H x y d e Q i1 i2 q R k=>?_⟩
 obtain ⟨i,j,rfl,rfl,q⟩:=q
 exact ⟨i,j,is_int.mp i1,is_int.mp i2,k _ _ H (Le.refl H) (is_int.mpr rfl) q⟩
theorem qC {f:Value→Value→Sem Value} {g:Int→Int→Bool} (h:OpR X f (rI0 fun i j=>.bl (g i j))):DOp X f (gI fun i j=>.bl (g i j)):=by
 refine ⟨_,h,fun H x y d e Q i1 i2 q R k=>?_⟩
 obtain ⟨i,j,rfl,rfl,q⟩:=q
 exact ⟨i,j,is_int.mp i1,is_int.mp i2,k _ _ H (Le.refl H) (is_bl.mpr rfl) q⟩
theorem qB {f:Value→Value→Sem Value} {C:Int→Int→Prop} {g:Int→Int→Int} (h:OpR X f (rI C fun i j=>.int (g i j))):DOp X f (gIC C fun i j=>.int (g i j)):=by
 refine ⟨_,h,fun H x y d e Q i1 i2 q R k=>?_⟩
 obtain ⟨i,j,rfl,rfl,hc,q⟩:=q
 exact ⟨i,j,is_int.mp i1,is_int.mp i2,hc,k _ _ H (Le.refl H) (is_int.mpr rfl) q⟩
theorem gq:OpR X (binaryOp .Mult) (rI IntMulOk fun i j=>.int (i*j)):=opI fun _ _ _ _ _ _ _ hc q=>mul_int q hc
theorem zP:DOp X (binaryOp .Add) (gI fun i j=>.int (i+j)):=io bM
theorem ym:DOp X (binaryOp .Sub) (gI fun i j=>.int (i - j)):=io bH
theorem yR:DOp X (binaryOp .Mult) (gIC IntMulOk fun i j=>.int (i*j)):=qB gq
theorem tX:DOp X (binaryOp .FloorDiv) (gIC mL fun i j=>.int (i.fdiv j)):=qB ku
def mK (_ j:Int):Prop:=j≠0
theorem xE:DOp X (binaryOp .Mod) (gIC mK fun i j=>.int (i.fmod j)):=qB (C:=mK) gr
theorem VW {c n:Int} (h:(n != 0 && decide (n.natAbs<1073741824))=true):mL c n:=by
 rw [Bool.and_eq_true,bne_iff_ne,decide_eq_true_iff] at h
 exact h
theorem iF {c n:Int} (h:(n != 0)=true):mK c n:=bne_iff_ne.mp h
theorem VT {c n:Int} (h:(decide (0≤n) && (decide (n≤1000000) && decide (c.natAbs<18446744073709551616)))=true):XU c n:=by
 rw [Bool.and_eq_true,Bool.and_eq_true,decide_eq_true_iff,decide_eq_true_iff,decide_eq_true_iff] at h
 exact h
theorem Vd {c n:Int} (h:decide (n.natAbs<9223372036854775808)=true):IntMulOk c n:=by
 rw [decide_eq_true_iff] at h
 exact .of_right (intBits_le_64 (by omega) (by omega))
theorem Y7 {c n:Int} (h:decide (n.natAbs<9223372036854775808)=true):IntMulOk n c:=by
 rw [decide_eq_true_iff] at h
 exact .of_left (intBits_le_64 (by omega) (by omega))
theorem cC:DOp X (binaryOp .Pow) (gIC XU fun i j=>.int (i ^ j.toNat)):=qB bJ
theorem sZ:DOp X (compareOp .Lt) (gI fun i j=>.bl (decide (i<j))):=qC Wi
theorem Wq:DOp X (compareOp .LtE) (gI fun i j=>.bl (decide (i≤j))):=qC Wj
theorem gz:DOp X (compareOp .Gt) (gI fun i j=>.bl (decide (j<i))):=qC Wk
theorem Wr:DOp X (compareOp .GtE) (gI fun i j=>.bl (decide (j≤i))):=qC Wl
def XC (ta:DTE):DTE:=fun ρ Q=>ta ρ fun d=>∃ i,d=.int i∧Q (.int (-i))
theorem yf (ha:DE X a ta):DE X (.UnaryOp .USub a pos) (XC ta):=by
 obtain ⟨te,p1,l1⟩:=ha
 refine ⟨_,Wf cZ p1,fun ρ σ H Q r h R k=>l1 ρ σ H _ r h _ fun d v H1 s1 i1 ⟨i,e,q1⟩=>?_⟩
 subst e
 exact ⟨i,is_int.mp i1,k _ _ H1 s1 (is_int.mpr rfl) q1⟩
theorem Ws:DOp X (binaryOp .Add) (fun d e Q=>∃ ds es,d=.lst ds∧e=.lst es∧ds.length+es.length≤100000∧Q (.lst (ds++es))):=by
 refine ⟨_,bL,fun H x y d e Q i1 i2 q R k=>?_⟩
 obtain ⟨ds,es,rfl,rfl,hl,q⟩:=q
 obtain ⟨l,xs,rfl,h1,a1⟩:=is_lst.mp i1
 obtain ⟨m,ys,rfl,h2,a2⟩:=is_lst.mp i2
 refine ⟨l,m,xs,ys,rfl,rfl,H.sub _ _ h1,H.sub _ _ h2,by rw [← a1.length,← a2.length]; exact Nat.le_trans hl (by decide),fun p hp=>?_⟩
 have s:=ul hp (.lst (xs++ys))
 exact k _ _ _ s (is_lst.mpr ⟨p,_,rfl,zp,(a1.mono s).append (a2.mono s)⟩) q
def UH:DTA:=fun _ Q=>Q []
def VQ (te:DTE) (t:DTA):DTA:=fun ρ Q=>te ρ fun d=>t ρ fun ds=>Q (d::ds)
variable {es:List Expr} {t:DTA}
theorem zd:DA X [] UH:=⟨_,yA,fun ρ σ H Q r h R k=>k [] [] H (Le.refl H) (allIs_nil.mpr rfl) h⟩
theorem za (ha:DE X a ta) (hr:DA X es t) (hs:starEach (a::es) X.env=(false,eval a X.env)::starEach es X.env:=by rfl):DA X (a::es) (VQ ta t):=by
 obtain ⟨te,p1,l1⟩:=ha
 obtain ⟨tf,p2,l2⟩:=hr
 exact ⟨_,zT p1 p2 hs,fun ρ σ H Q r h R k=>l1 ρ σ H _ r h _ fun d v H1 s1 i1 q1=>l2 ρ σ H1 _ (r.mono s1) q1 _ fun ds vs H2 s2 i2 q2=>
  k (d::ds) (v::vs) H2 (s1.trans s2) (allIs_cons.mpr ⟨v,vs,rfl,i1.mono s2,i2⟩) q2⟩
def UC (t:DTA):DTE:=fun ρ Q=>t ρ fun ds=>Nat.ble ds.length 1000=true∧Q (.tup ds)
def VG (t:DTA):DTE:=fun ρ Q=>t ρ fun ds=>Nat.ble ds.length 1000=true∧Q (.lst ds)
theorem ye {x1} (h:DA X es t):DE X (.Tuple es x1 pos) (UC t):=by
 obtain ⟨te,p1,l1⟩:=h
 refine ⟨_,kj p1,fun ρ σ H Q r h R k=>l1 ρ σ H _ r h _ fun ds vs H1 s1 i1 ⟨hl,q1⟩=>⟨?_,fun p hp=>?_⟩⟩
 ·rw [← i1.length]; exact Nat.le_trans (Nat.le_of_ble_eq_true hl) (by decide)
 ·have s:=ul hp (.tup vs)
  exact k _ _ _ (s1.trans s) (is_tup.mpr ⟨p,vs,rfl,zp,i1.mono s⟩) q1
theorem xj (h:DA X es t):DE X (.List es pos) (VG t):=by
 obtain ⟨te,p1,l1⟩:=h
 refine ⟨_,kn p1,fun ρ σ H Q r h R k=>l1 ρ σ H _ r h _ fun ds vs H1 s1 i1 ⟨hl,q1⟩=>⟨?_,fun p hp=>?_⟩⟩
 ·rw [← i1.length]; exact Nat.le_trans (Nat.le_of_ble_eq_true hl) (by decide)
 ·have s:=ul hp (.lst vs)
  exact k _ _ _ (s1.trans s) (is_lst.mpr ⟨p,vs,rfl,zp,i1.mono s⟩) q1
def nV:Dt→Option (List Dt)
 | .tup ds=>some ds
 | .lst ds=>some ds
 | .scr ns=>some (ns.map .int)
 | _=>none
theorem oG {H:Vw} {d:Dt} {v:V} {ds:List Dt} (h:Is K H.g d v) (e:nV d=some ds):∃ a xs,v=.ref a∧(SqL K H.h a xs∨SqT K H.h a xs)∧AllIs K H.g ds xs:=by
 cases d with
 | tup es=>
  obtain rfl:es=ds:=Option.some.inj e
  obtain ⟨a,xs,rfl,h1,h2⟩:=is_tup.mp h
  exact ⟨a,xs,rfl,.inr (.of (H.sub _ _ h1)),h2⟩
 | lst es=>
  obtain rfl:es=ds:=Option.some.inj e
  obtain ⟨a,xs,rfl,h1,h2⟩:=is_lst.mp h
  exact ⟨a,xs,rfl,.inl (.of (H.sub _ _ h1)),h2⟩
 | scr ns=>
  obtain rfl:ns.map Dt.int=ds:=Option.some.inj e
  obtain ⟨a,rfl,h1⟩:=is_scr.mp h
  exact ⟨a,_,rfl,.inl (H.sub.seq h1),AllIs.ints⟩
 | _=>cases e
def dIx (ta tb:DTE):DTE:=fun ρ Q=>ta ρ fun d=>tb ρ fun e=>∃ ds i d',nV d=some ds∧e=.int i∧atI ds i=some d'∧Q d'
theorem zw (ha:DE X a ta) (hb:DE X b tb) (hs:tj b):DE X (.Subscript a b pos) (dIx ta tb):=by
 obtain ⟨te,p1,l1⟩:=ha
 obtain ⟨tf,p2,l2⟩:=hb
 refine ⟨_,ko jL p1 p2 hs,fun ρ σ H Q r h R k=>l1 ρ σ H _ r h _ fun d v H1 s1 i1 q1=>l2 ρ σ H1 _ (r.mono s1) q1 _ fun e u H2 s2 i2 q2=>?_⟩
 obtain ⟨ds,i,d',e1,e2,e3,q⟩:=q2
 subst e2
 obtain ⟨p,xs,e4,h1,h2⟩:=oG (i1.mono s2) e1
 obtain ⟨w,e5,h3⟩:=h2.atI e3
 rcases h1 with h1 | h1
 ·exact .inl ⟨p,xs,i,w,e4,is_int.mp i2,h1,e5,k d' w H2 (s1.trans s2) h3 q⟩
 ·exact .inr (.inl ⟨p,xs,i,w,e4,is_int.mp i2,h1,e5,k d' w H2 (s1.trans s2) h3 q⟩)
def VI (t:DTE):DTE:=fun ρ Q=>t ρ fun d=>∃ ds,nV d=some ds∧Q (.int ds.length)
theorem zI {p:Pos} (hg:Gl X "len") (hm:X.mg "len"=none) (ha:DE X a ta) (hs:starEach [a] X.env=(false,eval a X.env)::starEach [] X.env:=by rfl) (hpl:(backTo pos (starEach [] X.env)).any (·.1)=false:=by rfl):
  DE X (.Call (.Name "len" p) [a] [] pos) (VI ta):=by
 obtain ⟨te,p1,l1⟩:=ha
 refine ⟨_,xc vR hg hm PySem.boot_len (zT p1 yA hs) (by decide) (by decide) hs hpl,fun ρ σ H Q r h R k=>l1 ρ σ H _ r h _ fun d v H1 s1 i1 ⟨ds,e,q⟩=>?_⟩
 obtain ⟨a,xs,rfl,h1,h2⟩:=oG i1 e
 exact ⟨a,xs,rfl,h1,by rw [← h2.length]; exact k _ _ H1 s1 (is_int.mpr rfl) q⟩
def qJ (xs:List Dt) (lo hi:Option Int):List Dt:=(xs.drop (HT.sIx xs.length 0 lo)).take (HT.sIx xs.length xs.length hi - HT.sIx xs.length 0 lo)
theorem AllIs.cut {G:Hp} {ds:List Dt} {xs:List V} (h:AllIs K G ds xs) (lo hi:Option Int):AllIs K G (qJ ds lo hi) (nB xs lo hi):=by
 unfold qJ nB
 rw [← h.length]
 exact (h.drop _).take _
abbrev DTO:=DS→(Option Int→Prop)→Prop
def DO (X:Cx) (e:Option Expr) (t:DTO):Prop:=∃ te,PO X e te∧∀ {F:Hp} (ρ:DS) (σ:St) (H:Vw) (Q:Option Int→Prop),Rl X.K (Zx X) F H ρ σ→t ρ Q→∀ R:Option Int→Hp→Prop,(∀ o H',Le H H'→Q o→R o H'.h)→te σ H.h R
def ck:DTO:=fun _ Q=>Q none
def VA (t:DTE):DTO:=fun ρ Q=>t ρ fun d=>∃ i,d=.int i∧Q (some i)
theorem cg:DO X none ck:=⟨_,gg,fun ρ σ H Q r h R k=>k none H (Le.refl H) h⟩
theorem qD (ha:DE X a ta):DO X (some a) (VA ta):=by
 obtain ⟨te,p1,l1⟩:=ha
 refine ⟨_,gf p1,fun ρ σ H Q r h R k=>l1 ρ σ H _ r h _ fun d v H1 s1 i1 ⟨i,e,q⟩=>?_⟩
 subst e
 exact ⟨i,is_int.mp i1,k _ H1 s1 q⟩
def yO:Dt→Option (List Dt)
 | .lst ds=>some ds
 | .scr ns=>some (ns.map .int)
 | _=>none
theorem vz {H:Vw} {d:Dt} {v:V} {ds:List Dt} (h:Is K H.g d v) (e:yO d=some ds):∃ a xs,v=.ref a∧SqL K H.h a xs∧AllIs K H.g ds xs:=by
 cases d with
 | lst es=>
  obtain rfl:es=ds:=Option.some.inj e
  obtain ⟨a,xs,rfl,h1,h2⟩:=is_lst.mp h
  exact ⟨a,xs,rfl,.of (H.sub _ _ h1),h2⟩
 | scr ns=>
  obtain rfl:ns.map Dt.int=ds:=Option.some.inj e
  obtain ⟨a,rfl,h1⟩:=is_scr.mp h
  exact ⟨a,_,rfl,H.sub.seq h1,AllIs.ints⟩
 | _=>cases e
def dSl (te:DTE) (tl th:DTO):DTE:=fun ρ Q=>te ρ fun d=>tl ρ fun l=>th ρ fun u=>∃ ds,yO d=some ds∧Q (.lst (qJ ds l u))
theorem oe {lo hi:Option Expr} {tl th:DTO} {p2:Pos} (ha:DE X a ta) (hl:DO X lo tl) (hu:DO X hi th):DE X (.Subscript a (.Slice lo hi none p2) pos) (dSl ta tl th):=by
 obtain ⟨te,p1,l1⟩:=ha
 obtain ⟨tf,p2,l2⟩:=hl
 obtain ⟨tg,p3,l3⟩:=hu
 refine ⟨_,kl i9 p1 p2 p3,fun ρ σ H Q r h R k=>l1 ρ σ H _ r h _ fun d v H1 s1 i1 q1=>l2 ρ σ H1 _ (r.mono s1) q1 _ fun l H2 s2 q2=>l3 ρ σ H2 _ (r.mono (s1.trans s2)) q2 _ fun u H3 s3 ⟨ds,e,q⟩=>?_⟩
 obtain ⟨a,xs,rfl,h1,h2⟩:=vz (i1.mono (s2.trans s3)) e
 refine ⟨a,xs,rfl,h1,fun p hp=>?_⟩
 have s:=ul hp (.lst (nB xs l u))
 exact k _ _ _ (((s1.trans s2).trans s3).trans s) (is_lst.mpr ⟨p,_,rfl,zp,(h2.cut l u).mono s⟩) q
end
def LiF (K:PySem.W.Frag) (Z:Hp) (te:TE) (t:DTE):Prop:=
 ∀ {F:Hp} (ρ:DS) (σ:St) (H:Vw) (Q:Dt→Prop),Rl K Z F H ρ σ→t ρ Q→∀ R:VK,
  (∀ es p xs H',Le H H'→H.h p=none→H'.h p=some (.lst xs)→H'.g p=none→AllIs K H'.g es xs→Q (.lst es)→R (.ref p) H'.h)→te σ H.h R
def DF (X:Cx) (e:Expr) (t:DTE):Prop:=∃ te,PE X e te∧LiF X.K (Zx X) te t
theorem um {H H':Vw} {p:Addr} {o:HO} (s:Le H H') (h0:H.h p=none) (h1:H'.h p=some o) (h2:H'.g p=none):Le H (H'.frz p o h1):=
 ⟨s.g.trans (zM h2 o),s.h,fun a z1 z2=>by
  have:a≠p:=fun e=>z1 (e ▸ h0)
  show upd H'.g p o a=none
  rw [zr this]; exact s.n a z1 z2⟩
section
variable {X:Cx} {a b c e:Expr} {ta tb tc:DTE} {t:DTA} {pos p0 p1 p2:Pos} {es:List Expr}
theorem DF.de {t:DTE} (h:DF X e t):DE X e t:=by
 obtain ⟨te,p,l⟩:=h
 exact ⟨te,p,fun ρ σ H Q r h R k=>l ρ σ H Q r h R fun es q xs H' s h0 h1 h2 i z=>k (.lst es) (.ref q) (H'.frz q _ h1) (um s h0 h1 h2) (is_lst.mpr ⟨q,xs,rfl,zp,AllIs.mono0 (zM h2 _) i⟩) z⟩
theorem uw (h:DA X es t):DF X (.List es pos) (VG t):=by
 obtain ⟨te,p1,l1⟩:=h
 refine ⟨_,kn p1,fun ρ σ H Q r h R k=>l1 ρ σ H _ r h _ fun ds vs H1 s1 i1 ⟨hl,q1⟩=>⟨?_,fun p hp=>?_⟩⟩
 ·rw [← i1.length]; exact Nat.le_trans (Nat.le_of_ble_eq_true hl) (by decide)
 ·exact k ds p vs (H1.mine p (.lst vs) (H1.sub.free hp)) (s1.trans (uU hp _)) (s1.h.free hp) zp (H1.sub.free hp) i1 q1
theorem AllIs.rep {G:Hp} {ds:List Dt} {xs:List V} (h:AllIs K G ds xs):∀ k:Nat,AllIs K G (List.replicate k ds).flatten (List.replicate k xs).flatten
 | 0=>allIs_nil.mpr rfl
 | k+1=>by
  rw [List.replicate_succ,List.replicate_succ,List.flatten_cons,List.flatten_cons]
  exact h.append (h.rep k)
def Ux:Dt→Dt→(Dt→Prop)→Prop:=fun d e Q=>∃ ds k,d=.lst ds∧e=.int k∧-16000000≤k∧k≤16000000∧ds.length*k.toNat≤16000000∧Q (.lst (List.replicate k.toNat ds).flatten)
theorem nt (ha:DE X a ta) (hb:DE X b tb):DF X (.BinOp a .Mult b pos) (dOp Ux ta tb):=by
 obtain ⟨te,p1,l1⟩:=ha
 obtain ⟨tf,p2,l2⟩:=hb
 refine ⟨_,cA bI p1 p2,fun ρ σ H Q r h R k=>l1 ρ σ H _ r h _ fun d v H1 s1 i1 q1=>l2 ρ σ H1 _ (r.mono s1) q1 _ fun e u H2 s2 i2 q2=>?_⟩
 obtain ⟨ds,n,rfl,rfl,hn1,hn2,hl,q⟩:=q2
 obtain ⟨l,xs,rfl,h1,a1⟩:=is_lst.mp (i1.mono s2)
 refine ⟨l,n,xs,rfl,is_int.mp i2,H2.sub _ _ h1,by omega,by omega,by rw [← a1.length]; exact Nat.le_trans hl (by decide),fun p hp=>?_⟩
 exact k _ p _ (H2.mine p _ (H2.sub.free hp)) ((s1.trans s2).trans (uU hp _)) ((s1.trans s2).h.free hp) zp (H2.sub.free hp) (a1.rep _) q
def VH (ta:DTE):DTE:=fun ρ Q=>ta ρ fun d=>∃ ds,nV d=some ds∧Q (.lst ds)
theorem yb (hg:Gl X "list") (hm:X.mg "list"=none) (ha:DE X a ta) (hs:starEach [a] X.env=(false,eval a X.env)::starEach [] X.env:=by rfl) (hpl:(backTo pos (starEach [] X.env)).any (·.1)=false:=by rfl):
  DF X (.Call (.Name "list" p0) [a] [] pos) (VH ta):=by
 obtain ⟨te,p1,l1⟩:=ha
 refine ⟨_,m6 qM hg hm PyProof.Rows.boot_list (zT p1 yA hs) (by decide) (by decide) hs hpl,fun ρ σ H Q r h R k=>l1 ρ σ H _ r h _ fun d v H1 s1 i1 ⟨ds,e,q⟩=>?_⟩
 obtain ⟨a,xs,rfl,h1,h2⟩:=oG i1 e
 exact ⟨a,xs,rfl,h1,fun p hp=>k _ p _ (H1.mine p _ (H1.sub.free hp)) (s1.trans (uU hp _)) (s1.h.free hp) zp (H1.sub.free hp) h2 q⟩
variable {i:Nat} {x:Str}
def cN (i:Nat):DTE:=fun ρ Q=>∃ ds,ρ[i]? = some (.own ds)∧Q (.int ds.length)
theorem u6 (i:Nat) (hg:Gl X "len") (hm:X.mg "len"=none) (hN:X.N[i]? = some x:=by rfl) (hv:Vis X.env.scope x:=by first | exact Or.inl rfl | exact Or.inr (Or.inl rfl) | exact Or.inr (Or.inr rfl)) (hd:(x == ("__debug__":Str))=false:=by decide)
  (hcd:(x == ("__classdict__":Str))=false:=by decide) (hs:starEach [.Name x p1] X.env=(false,eval (.Name x p1) X.env)::starEach [] X.env:=by rfl) (hpl:(backTo pos (starEach [] X.env)).any (·.1)=false:=by rfl):
  DE X (.Call (.Name "len" p0) [.Name x p1] [] pos) (cN i):=by
 refine ⟨_,xc vR hg hm PySem.boot_len (zT (xb hN hv hd hcd) yA hs) (by decide) (by decide) hs hpl,fun ρ σ H Q r h R k=>?_⟩
 obtain ⟨ds,e,q⟩:=h
 obtain ⟨a,xs,e1,e2,e3,e4,e5⟩:=r.ow i ds e
 exact ⟨.ref a,e1,a,xs,rfl,.inl (.of e2),by rw [← e5.length]; exact k _ _ H (Le.refl H) (is_int.mpr rfl) q⟩
def XE (i:Nat) (tb:DTE):DTE:=fun ρ Q=>∃ ds,ρ[i]? = some (.own ds)∧tb ρ fun e=>∃ k d,e=.int k∧atI ds k=some d∧Q d
theorem qF (i:Nat) (hb:DE X b tb) (hs:tj b) (hN:X.N[i]? = some x:=by rfl) (hv:Vis X.env.scope x:=by first | exact Or.inl rfl | exact Or.inr (Or.inl rfl) | exact Or.inr (Or.inr rfl)) (hd:(x == ("__debug__":Str))=false:=by decide)
  (hcd:(x == ("__classdict__":Str))=false:=by decide):DE X (.Subscript (.Name x p1) b pos) (XE i tb):=by
 obtain ⟨tf,p2,l2⟩:=hb
 refine ⟨_,ko ix_list (xb hN hv hd hcd) p2 hs,fun ρ σ H Q r h R k=>?_⟩
 obtain ⟨ds,e,h⟩:=h
 obtain ⟨a,xs,e1,e2,e3,e4,e5⟩:=r.ow i ds e
 refine ⟨.ref a,e1,l2 ρ σ H _ r h _ fun e u H2 s2 i2 ⟨n,d,en,ed,q⟩=>?_⟩
 subst en
 obtain ⟨v,ev,iv⟩:=e5.atI ed
 exact ⟨a,xs,n,v,rfl,is_int.mp i2,.of (s2.h _ _ e2),ev,k d v H2 s2 (iv.mono s2) q⟩
def cM (i:Nat):DTT:=fun ρ Q=>∃ ds,ρ[i]? = some (.own ds)∧Q (!ds.isEmpty)
theorem uF {G:Hp} {ds:List Dt} {xs:List V} (h:AllIs K G ds xs):(!xs.isEmpty)=!ds.isEmpty:=by
 cases ds with
 | nil=>rw [allIs_nil.mp h]; rfl
 | cons d ds=>obtain ⟨x,r,rfl,_⟩:=allIs_cons.mp h; rfl
theorem cc (i:Nat) (hN:X.N[i]? = some x:=by rfl) (hv:Vis X.env.scope x:=by first | exact Or.inl rfl | exact Or.inr (Or.inl rfl) | exact Or.inr (Or.inr rfl)) (hd:(x == ("__debug__":Str))=false:=by decide)
  (hcd:(x == ("__classdict__":Str))=false:=by decide) (he:∀ yu,isTrue (.Name x p1) X.env yu=(do let v ← yu; standAt (Expr.Name x p1).pos; holding [v] (truthy v)):=by intro _; rfl):DT X (.Name x p1) (cM i):=by
 refine ⟨_,pj (xb hN hv hd hcd) he,fun ρ σ H Q r h R k=>?_⟩
 obtain ⟨ds,e,q⟩:=h
 obtain ⟨a,xs,e1,e2,e3,e4,e5⟩:=r.ow i ds e
 exact ⟨.ref a,e1,!ds.isEmpty,.inl ⟨xs,.of e2,(uF e5).symm⟩,k _ H (Le.refl H) q⟩
def UD (ta:DTE):DTT:=fun ρ Q=>ta ρ fun d=>∃ ds,yO d=some ds∧Q (!ds.isEmpty)
theorem Xo (ha:DE X a ta) (he:∀ yu,isTrue a X.env yu=(do let v ← yu; standAt a.pos; holding [v] (truthy v)):=by intro _; rfl):DT X a (UD ta):=by
 obtain ⟨te,p1,l1⟩:=ha
 refine ⟨_,pj p1 he,fun ρ σ H Q r h R k=>l1 ρ σ H _ r h _ fun d v H1 s1 i1 ⟨ds,e,q⟩=>?_⟩
 obtain ⟨a,xs,rfl,h1,h2⟩:=vz i1 e
 exact ⟨!ds.isEmpty,.inl ⟨xs,h1,(uF h2).symm⟩,k _ H1 s1 q⟩
open Classical in
def X8:Dt→Bool
 | .non=>true | .bl _=>true | .int _=>true | .str _=>true | _=>false
end
abbrev DSp:=List Dt→(Dt→Prop)→Prop
def zm (K:PySem.W.Frag) (S:DSp):Sp:=fun vs H Q _=>∃ (W:Vw) (ds:List Dt) (Qd:Dt→Prop),W.h=H∧AllIs K W.g ds vs∧S ds Qd∧∀ d v W',Le W W'→Is K W'.g d v→Qd d→Q v W'.h
def yr (K:PySem.W.Frag) (S:DSp):Sp:=fun vs H Q _=>∃ (W:Vw) (ds:List Dt) (Qd:Dt→Prop),W.h=H∧AllIs K W.g ds vs∧S ds Qd∧
 ∀ es p xs W',Le W W'→W.h p=none→W'.h p=some (.lst xs)→W'.g p=none→AllIs K W'.g es xs→Qd (.lst es)→Q (.ref p) W'.h
structure DOk (P:Program) (w:World) (K:PySem.W.Frag) (mg:Str→Option Value) (base:Heap) (n:Nat) (x:Str) (S:DSp):Prop where
 ex:∃ f fd ps,mg x=some (.ref f)∧PySem.W.keepIn K (.ref f)=true∧Binds K fd ps []∧FnOk P w K mg base CX0 n f fd ps (zm K S)
structure FOk (P:Program) (w:World) (K:PySem.W.Frag) (mg:Str→Option Value) (base:Heap) (n:Nat) (x:Str) (S:DSp):Prop where
 ex:∃ f fd ps,mg x=some (.ref f)∧PySem.W.keepIn K (.ref f)=true∧Binds K fd ps []∧FnOk P w K mg base CX0 n f fd ps (yr K S)
structure MOk (P:Program) (w:World) (K:PySem.W.Frag) (mg:Str→Option Value) (base:Heap) (n:Nat) (C:Addr) (m:Str) (S:DSp):Prop where
 cl:Cls K C
 ex:∃ f fd ps,iU K C m f∧Binds K fd ps []∧FnOk P w K mg base CX0 n f fd ps (zm K S)
structure FMOk (P:Program) (w:World) (K:PySem.W.Frag) (mg:Str→Option Value) (base:Heap) (n:Nat) (C:Addr) (m:Str) (S:DSp):Prop where
 cl:Cls K C
 ex:∃ f fd ps,iU K C m f∧Binds K fd ps []∧FnOk P w K mg base CX0 n f fd ps (yr K S)
section
variable {X:Cx} {a b c e o:Expr} {ta tb tc:DTE} {pos p apos:Pos} {es:List Expr} {t:DTA} {n:Nat} {x m:Str} {S:DSp}
def cP (S:DSp) (t:DTA):DTE:=fun ρ Q=>t ρ fun ds=>S ds Q
theorem zj (G:DOk X.prog X.w X.K X.mg X.base n x S) (hr:Room n X.A) (hg:Gl X x) (ha:DA X (e::es) t) (hdb:(x == ("__debug__":Str))=false:=by decide)
  (he:starEach (e::es) X.env=(false,eval e X.env)::starEach es X.env:=by rfl) (hpl:(backTo pos (starEach es X.env)).any (·.1)=false:=by rfl):DE X (.Call (.Name x p) (e::es) [] pos) (cP S t):=by
 obtain ⟨f,fd,ps,hm,hk,hb,F⟩:=G.ex
 obtain ⟨te,p1,l1⟩:=ha
 refine ⟨_,vt F hr hg hm hk hb .nil pD p1 hdb he hpl,fun ρ σ H Q r h R k=>l1 ρ σ H _ r h _ fun ds vs H1 s1 i1 q1=>?_⟩
 rw [List.append_nil]
 exact ⟨H1,ds,Q,rfl,i1,q1,fun d v H2 s2 i2 q2=>k d v H2 (s1.trans s2) i2 q2⟩
theorem yH (G:FOk X.prog X.w X.K X.mg X.base n x S) (hr:Room n X.A) (hg:Gl X x) (ha:DA X (e::es) t) (hdb:(x == ("__debug__":Str))=false:=by decide)
  (he:starEach (e::es) X.env=(false,eval e X.env)::starEach es X.env:=by rfl) (hpl:(backTo pos (starEach es X.env)).any (·.1)=false:=by rfl):DF X (.Call (.Name x p) (e::es) [] pos) (cP S t):=by
 obtain ⟨f,fd,ps,hm,hk,hb,F⟩:=G.ex
 obtain ⟨te,p1,l1⟩:=ha
 refine ⟨_,vt F hr hg hm hk hb .nil pD p1 hdb he hpl,fun ρ σ H Q r h R k=>l1 ρ σ H _ r h _ fun ds vs H1 s1 i1 q1=>?_⟩
 rw [List.append_nil]
 exact ⟨H1,ds,Q,rfl,i1,q1,fun es p xs H2 s2 h0 h1 h2 i2 q2=>k es p xs H2 (s1.trans s2) (s1.h.free h0) h1 h2 i2 q2⟩
def lK (X:Cx) (n:Nat) (m:Str) (ta:TE) (t:TA):TE:=fun σ H Q=>ta σ H fun x H1=>∃ a dx fs C f fd ps sp,x=.ref a∧H1 a=some (.ins C dx fs)∧fs.lookup m=none∧Cls X.K C∧iU X.K C m f∧Binds X.K fd ps []∧
 FnOk X.prog X.w X.K X.mg X.base CX0 n f fd ps sp∧t σ H1 fun vs H2=>sp (x::vs) H2 Q E0
theorem km {pl:Sem Bool} {te:TE} {tt:TA} (he:PE X o te) (hr:Room n X.A) (ha:PA X (e::es) tt)
  (hst:starEach (e::es) X.env=(false,eval e X.env)::starEach es X.env:=by rfl) (hpl:(backTo pos (starEach es X.env)).any (·.1)=false:=by rfl)
  (ht:eval (.Call (.Attribute o m apos) (e::es) [] pos) X.env=(do
   let ov ← eval o X.env
   standAt apos.atName
   let (f,first) ← holding [ov] (getMethod ov m pl)
   callWith pos f first (backTo pos (starEach (e::es) X.env)) (backToKw pos (keywordEach [] X.env))):=by rfl):
  PE X (.Call (.Attribute o m apos) (e::es) [] pos) (lK X n m te tt):=by
 intro pins s σ H Q I h
 refine PySem.W.methodCall_KW (pl:=pl) (thn (he pins s σ H _ I h) fun u s1 ⟨x,H1,I1,rx,a,dx,fs,C,f,fd,ps,sp,ex,ea,l,c,hm,hb,F,q⟩=>?_) ht
 subst ex
 obtain rfl:u=Value.ref a:=rx
 refine sf I1 ea c hm l ?_
 refine PySem.W.callWith_K (first:=[.ref a]) (h₀:=X.base) I.ok.mod.kin hm.kp (thn (ha pos pins s1 σ H1 _ I1 q) fun us s2 ⟨vs,H2,I2,r,q2⟩=>⟨I2.kIn,?_⟩) hst hpl
 exact oQ (us:=.ref a::us) (vs:=.ref a::vs) (dvs:=[]) (E:=E0) F hr hb .nil pD I2 (.cons rfl r) (by rw [List.append_nil]; exact q2)
theorem m5 {pl:Sem Bool} {te:TE} (he:PE X o te) (hr:Room n X.A)
  (ht:eval (.Call (.Attribute o m apos) [] [] pos) X.env=(do
   let ov ← eval o X.env
   standAt apos.atName
   let (f,first) ← holding [ov] (getMethod ov m pl)
   callWith pos f first (backTo pos (starEach [] X.env)) (backToKw pos (keywordEach [] X.env))):=by rfl):
  PE X (.Call (.Attribute o m apos) [] [] pos) (lK X n m te X0):=by
 intro pins s σ H Q I h
 refine PySem.W.methodCall_KW (pl:=pl) (thn (he pins s σ H _ I h) fun u s1 ⟨x,H1,I1,rx,a,dx,fs,C,f,fd,ps,sp,ex,ea,l,c,hm,hb,F,q⟩=>?_) ht
 subst ex
 obtain rfl:u=Value.ref a:=rx
 refine sf I1 ea c hm l ?_
 exact PySem.W.callWith_K0 (first:=[.ref a]) I1.kIn hm.kp (oQ (us:=[.ref a]) (vs:=[.ref a]) (dvs:=[]) (E:=E0) F hr hb .nil pD I1 (.cons rfl .nil) q)
def VE (X:Cx) (n:Nat) (m:Str) (ta:DTE) (t:DTA):DTE:=fun ρ Q=>ta ρ fun d=>∃ C f k S,d=.way C f k∧(m == f)=false∧MOk X.prog X.w X.K X.mg X.base n C m S∧t ρ fun ds=>S (d::ds) Q
theorem xr {pl:Sem Bool} (hr:Room n X.A) (he:DE X o ta) (ha:DA X (e::es) t)
  (hst:starEach (e::es) X.env=(false,eval e X.env)::starEach es X.env:=by rfl) (hpl:(backTo pos (starEach es X.env)).any (·.1)=false:=by rfl)
  (ht:eval (.Call (.Attribute o m apos) (e::es) [] pos) X.env=(do
   let ov ← eval o X.env
   standAt apos.atName
   let (f,first) ← holding [ov] (getMethod ov m pl)
   callWith pos f first (backTo pos (starEach (e::es) X.env)) (backToKw pos (keywordEach [] X.env))):=by rfl):
  DE X (.Call (.Attribute o m apos) (e::es) [] pos) (VE X n m ta t):=by
 obtain ⟨te,p0,l0⟩:=he
 obtain ⟨tt,p1,l1⟩:=ha
 refine ⟨_,km (pl:=pl) p0 hr p1 hst hpl ht,fun ρ σ H Q r h R k=>l0 ρ σ H _ r h _ fun d v H1 s1 i1 ⟨C,f,z,S,ed,hne,M,q1⟩=>?_⟩
 subst ed
 obtain ⟨a,dx,rfl,ha⟩:=is_way.mp i1
 obtain ⟨g,fd,ps,hm,hb,F⟩:=M.ex
 refine ⟨a,dx,_,C,g,fd,ps,_,rfl,H1.sub _ _ ha,by simp [List.lookup,hne],M.cl,hm,hb,F,l1 ρ σ H1 _ (r.mono s1) q1 _ fun ds vs H2 s2 i2 q2=>?_⟩
 exact ⟨H2,_,Q,rfl,allIs_cons.mpr ⟨_,_,rfl,i1.mono s2,i2⟩,q2,fun d v H3 s3 i3 q3=>k d v H3 ((s1.trans s2).trans s3) i3 q3⟩
def XD (X:Cx) (n:Nat) (m:Str) (ta:DTE):DTE:=fun ρ Q=>ta ρ fun d=>∃ C f k S,d=.way C f k∧(m == f)=false∧MOk X.prog X.w X.K X.mg X.base n C m S∧S [d] Q
theorem og {pl:Sem Bool} (hr:Room n X.A) (he:DE X o ta)
  (ht:eval (.Call (.Attribute o m apos) [] [] pos) X.env=(do
   let ov ← eval o X.env
   standAt apos.atName
   let (f,first) ← holding [ov] (getMethod ov m pl)
   callWith pos f first (backTo pos (starEach [] X.env)) (backToKw pos (keywordEach [] X.env))):=by rfl):
  DE X (.Call (.Attribute o m apos) [] [] pos) (XD X n m ta):=by
 obtain ⟨te,p0,l0⟩:=he
 refine ⟨_,m5 (pl:=pl) p0 hr ht,fun ρ σ H Q r h R k=>l0 ρ σ H _ r h _ fun d v H1 s1 i1 ⟨C,f,z,S,ed,hne,M,q1⟩=>?_⟩
 subst ed
 obtain ⟨a,dx,rfl,ha⟩:=is_way.mp i1
 obtain ⟨g,fd,ps,hm,hb,F⟩:=M.ex
 refine ⟨a,dx,_,C,g,fd,ps,_,rfl,H1.sub _ _ ha,by simp [List.lookup,hne],M.cl,hm,hb,F,?_⟩
 exact ⟨H1,_,Q,rfl,allIs_cons.mpr ⟨_,_,rfl,i1,allIs_nil.mpr rfl⟩,q1,fun d v H3 s3 i3 q3=>k d v H3 (s1.trans s3) i3 q3⟩
def UN (K:PySem.W.Frag) (f:Str) (ta:DTE):DTE:=fun ρ Q=>ta ρ fun d=>∃ C g k,d=.way C g k∧(f == g)=true∧Cls K C∧NoAttr K C f∧Q (.int k)
theorem z8 {f:Str} (ha:DE X a ta) (hb:attributeBase a f X.env (eval a X.env)=eval a X.env:=by rfl):DE X (.Attribute a f pos) (UN X.K f ta):=by
 obtain ⟨te,p1,l1⟩:=ha
 refine ⟨_,bA p1 hb,fun ρ σ H Q r h R k=>l1 ρ σ H _ r h _ fun d v H1 s1 i1 ⟨C,g,z,ed,hfg,hc,hn,q1⟩=>?_⟩
 subst ed
 obtain ⟨p,dx,rfl,hp⟩:=is_way.mp i1
 exact ⟨p,C,dx,_,.int z,rfl,H1.sub _ _ hp,hc,hn,by simp [List.lookup,hfg],k _ _ H1 s1 (is_int.mpr rfl) q1⟩
def wC (C:Addr) (f:Str) (ok:Int→Prop):Sp:=fun vs H Q _=>∃ p dx i,vs=[.ref p,.int i]∧H p=some (.ins C dx [])∧ok i∧∀ H':Hp,H' p=some (.ins C dx [(f,.int i)])→(∀ b o,H b=some o→b≠p→H' b=some o)→Q .non H'
structure KOk (P:Program) (w:World) (K:PySem.W.Frag) (mg:Str→Option Value) (base:Heap) (n:Nat) (x:Str) (C:Addr) (f:Str) (ok:Int→Prop):Prop where
 ex:∃ g fd ps,mg x=some (.ref C)∧Mk K C g∧Binds K fd ps []∧FnOk P w K mg base CX0 n g fd ps (wC C f ok)
def VF (C:Addr) (f:Str) (ok:Int→Prop) (t:DTA):DTE:=fun ρ Q=>t ρ fun ds=>∃ i,ds=[.int i]∧ok i∧Q (.way C f i)
theorem u5 {C:Addr} {f:Str} {ok:Int→Prop} (G:KOk X.prog X.w X.K X.mg X.base n x C f ok) (hr:Room (n+1) X.A) (hg:Gl X x) (ha:DA X (e::es) t) (hdb:(x == ("__debug__":Str))=false:=by decide)
  (he:starEach (e::es) X.env=(false,eval e X.env)::starEach es X.env:=by rfl) (hpl:(backTo pos (starEach es X.env)).any (·.1)=false:=by rfl):DE X (.Call (.Name x p) (e::es) [] pos) (VF C f ok t):=by
 obtain ⟨g,fd,ps,hm,M,hb,F⟩:=G.ex
 obtain ⟨te,p1,l1⟩:=ha
 refine ⟨_,gj M F hr hg hm hb .nil pD p1 hdb he hpl,fun ρ σ H Q r h R k=>l1 ρ σ H _ r h _ fun ds vs H1 s1 i1 ⟨i,ed,hok,q1⟩ y dy ny ndy ne=>?_⟩
 subst ed
 obtain ⟨v,rfl,hv⟩:=i1.one
 obtain rfl:=is_int.mp hv
 refine ⟨y,dy,i,rfl,zp,hok,fun H' e1 e2=>⟨rfl,?_⟩⟩
 have keep:Same H1.h H':=fun b o hb=>e2 b o (by rw [zr (zS hb ny),zr (zS hb ndy)]; exact hb) (zS hb ny)
 have gy:H1.g y=none:=H1.sub.free ny
 exact k _ _ ⟨upd H1.g y (.ins C dy [(f,.int i)]),H',fun b u q=>by
   by_cases e:b=y
   ·subst e; rw [zp] at q; rw [e1]; exact q
   ·rw [zr e] at q; exact keep _ _ (H1.sub _ _ q)⟩
  (s1.trans ⟨zM gy _,keep,fun a z1 z2=>by
   have:a≠y:=fun e=>z1 (e ▸ ny)
   show upd H1.g y _ a=none
   rw [zr this]; exact z2⟩) (is_way.mpr ⟨y,dy,rfl,zp⟩) q1
structure cr (K:PySem.W.Frag):Prop where
 ib:PySem.W.kitOne K (.type "int") (.type "bool")=some false
 it:PySem.W.kitOne K (.type "int") (.type "tuple")=some false
 il:PySem.W.kitOne K (.type "int") (.type "list")=some false
 bi:PySem.W.kitOne K (.type "bool") (.type "int")=some true
 bt:PySem.W.kitOne K (.type "bool") (.type "tuple")=some false
 bl:PySem.W.kitOne K (.type "bool") (.type "list")=some false
 ti:PySem.W.kitOne K (.type "tuple") (.type "int")=some false
 tb:PySem.W.kitOne K (.type "tuple") (.type "bool")=some false
 tl:PySem.W.kitOne K (.type "tuple") (.type "list")=some false
 li:PySem.W.kitOne K (.type "list") (.type "int")=some false
 lb:PySem.W.kitOne K (.type "list") (.type "bool")=some false
 lt:PySem.W.kitOne K (.type "list") (.type "tuple")=some false
theorem vA {K:PySem.W.Frag} {t:Value}:PySem.W.kitOne K t t=some true:=by
 unfold PySem.W.kitOne
 rw [if_pos (beq_self_eq_true t)]
theorem Xa {K:PySem.W.Frag} {t c:String} {b:Bool} (h1:(Value.type t == Value.type c)=false) (h2:PySem.W.kitMeta c=true) (h3:(fastBuiltinMro t).map (·.contains (Value.type c))=some b):PySem.W.kitOne K (.type t) (.type c)=some b:=by
 unfold PySem.W.kitOne PySem.W.kitCls
 rw [if_neg (by rw [h1]; decide)]
 show (if PySem.W.kitMeta c=true then PySem.W.subIn K (.type t) (.type c) else none)=some b
 rw [if_pos h2]
 exact h3
theorem Ur (K:PySem.W.Frag):cr K:=by
 constructor <;> exact Xa (by decide +kernel) (by decide +kernel) (by decide +kernel)
inductive TyN where | int | bool | tuple | list
def TyN.str:TyN→String
 | .int=>"int" | .bool=>"bool" | .tuple=>"tuple" | .list=>"list"
def Vg:Dt→TyN→Option Bool
 | .int _,.int=>some true | .int _,.bool=>some false | .int _,.tuple=>some false | .int _,.list=>some false
 | .bl _,.int=>some true | .bl _,.bool=>some true | .bl _,.tuple=>some false | .bl _,.list=>some false
 | .tup _,.int=>some false | .tup _,.bool=>some false | .tup _,.tuple=>some true | .tup _,.list=>some false
 | .lst _,.int=>some false | .lst _,.bool=>some false | .lst _,.tuple=>some false | .lst _,.list=>some true
 | _,_=>none
theorem Xg {H:Vw} {d:Dt} {v:V} {T:TyN} {b:Bool} (kt:cr K) (h:Is K H.g d v) (e:Vg d T=some b):∃ tv,vh K H.h v tv∧PySem.W.kitOne K tv (.type T.str)=some b:=by
 cases d with
 | int i=>
  obtain rfl:=is_int.mp h
  refine ⟨_,.int i,?_⟩
  cases T <;> (obtain rfl:=Option.some.inj e; first | exact vA | exact kt.ib | exact kt.it | exact kt.il)
 | bl i=>
  obtain rfl:=is_bl.mp h
  refine ⟨_,.bl i,?_⟩
  cases T <;> (obtain rfl:=Option.some.inj e; first | exact vA | exact kt.bi | exact kt.bt | exact kt.bl)
 | tup ds=>
  obtain ⟨a,xs,rfl,h1,_⟩:=is_tup.mp h
  refine ⟨_,.tup (H.sub _ _ h1),?_⟩
  cases T <;> (obtain rfl:=Option.some.inj e; first | exact vA | exact kt.ti | exact kt.tb | exact kt.tl)
 | lst ds=>
  obtain ⟨a,xs,rfl,h1,_⟩:=is_lst.mp h
  refine ⟨_,.lst (H.sub _ _ h1),?_⟩
  cases T <;> (obtain rfl:=Option.some.inj e; first | exact vA | exact kt.li | exact kt.lb | exact kt.lt)
 | _=>cases T <;> cases e
theorem iG:CallR X (.builtin "isinstance") (fun xs H Q=>∃ v T tv b,xs=[v,.ty T]∧vh X.K H v tv∧PySem.W.kitOne X.K tv (.type T)=some b∧Q (.bl b) H):=by
 intro pins s σ H xs us Q I r h
 obtain ⟨v,T,tv,b,rfl,hty,hk,q⟩:=h
 cases r with
 | cons r1 r2=>
  cases r2 with
  | cons r3 r4=>
   cases r4
   cases r3
   exact rC I r1 hty hk fun tk=>⟨.bl b,H,I.tok _,rfl,q⟩
def UK (T:TyN) (ta:DTE):DTE:=fun ρ Q=>ta ρ fun d=>∃ b,Vg d T=some b∧Q (.bl b)
theorem ve {T:TyN} {y:Str} {p':Pos} (kt:cr X.K) (hm:X.mg "isinstance"=none) (hmc:X.mg y=none) (hv:bootBuiltins y=some (.type T.str)) (ha:DE X a ta)
  (hg:Gl X "isinstance":=by rfl) (hgc:Gl X y:=by rfl) (hny:y≠"__name__":=by decide) (hdy:(y == ("__debug__":Str))=false:=by decide)
  (hs:starEach [a,.Name y p'] X.env=(false,eval a X.env)::starEach [.Name y p'] X.env:=by rfl) (hs2:starEach [.Name y p'] X.env=(false,eval (.Name y p') X.env)::starEach [] X.env:=by rfl)
  (hpl:(backTo pos (starEach [.Name y p'] X.env)).any (·.1)=false:=by rfl):
  DE X (.Call (.Name "isinstance" p) [a,.Name y p'] [] pos) (UK T ta):=by
 obtain ⟨te,p1,l1⟩:=ha
 have pc:PE X (.Name y p') (tC (.ty T.str)):=gm hgc hmc hv rfl hny hdy
 refine ⟨_,xc iG hg hm boot_isinstance (zT p1 (zT pc yA hs2) hs) (by decide) (by decide) hs hpl,fun ρ σ H Q r h R k=>l1 ρ σ H _ r h _ fun d v H1 s1 i1 ⟨b,e,q⟩=>?_⟩
 obtain ⟨tv,h1,h2⟩:=Xg kt i1 e
 exact ⟨v,T.str,tv,b,rfl,h1,h2,k _ _ H1 s1 (is_bl.mpr rfl) q⟩
end
structure wY where
 nx:DS→Prop
 rt:Dt→Prop
 bk:DS→Prop:=fun _=>False
 ct:DS→Prop:=fun _=>False
abbrev DTS:=wY→DS→Prop
structure At (K:PySem.W.Frag) (Z:Hp) (W0:Vw) (G:Hp) (W:Vw) (ρ:DS) (σ:St):Prop where
 le:Le W0 W
 gs:Same G W.g
 rl:Rl K Z W0.h W ρ σ
inductive Fr where | d | l | t (a b:Bool)
def NewL (K:PySem.W.Frag) (F:Hp) (W:Vw) (d:Dt) (v:V):Prop:=∃ es p xs,d=.lst es∧v=.ref p∧F p=none∧W.h p=some (.lst xs)∧W.g p=none∧AllIs K W.g es xs
def Prt (K:PySem.W.Frag) (F:Hp) (W:Vw) (b:Bool) (d:Dt) (v:V):Prop:=match b with
 | false=>Is K W.g d v
 | true=>NewL K F W d v∨X8 d=true∧Is K W.g d v
def Tld (K:PySem.W.Frag) (F:Hp) (W:Vw):Fr→Dt→V→Prop
 | .d,d,v=>Is K W.g d v
 | .l,d,v=>NewL K F W d v
 | .t a b,d,v=>∃ d1 d2 q u1 u2,d=.tup [d1,d2]∧v=.ref q∧W.g q=some (.tup [u1,u2])∧Prt K F W a d1 u1∧Prt K F W b d2 u2∧(∀ es fs,a=true→b=true→d1=.lst es→d2=.lst fs→u1≠u2)
structure Sim (K:PySem.W.Frag) (Z:Hp) (fr:Fr) (W0:Vw) (G:Hp) (D:wY) (D':vk):Prop where
 nx:∀ ρ σ W',At K Z W0 G W' ρ σ→D.nx ρ→D'.nx σ W'.h
 tl:∀ d v W',Le W0 W'→Tld K W0.h W' fr d v→D.rt d→D'.rt v W'.h
 bk:∀ ρ σ W',At K Z W0 G W' ρ σ→D.bk ρ→D'.bk σ W'.h
 ct:∀ ρ σ W',At K Z W0 G W' ρ σ→D.ct ρ→D'.ct σ W'.h
theorem NewL.le {F G:Hp} {W:Vw} {d:Dt} {v:V} (h:NewL K F W d v) (z:∀ p,F p=none→G p=none):NewL K G W d v:=
 let ⟨es,p,xs,h1,h2,h3,h4⟩:=h; ⟨es,p,xs,h1,h2,z p h3,h4⟩
theorem Sim.rf {Z:Hp} {fr:Fr} {W0:Vw} {G:Hp} {D:wY} {D':vk} (s:Sim K Z fr W0 G D D') (hf:fr=.d∨fr=.l) (es:List Dt) (p:Addr) (xs:List V) (W':Vw) (le:Le W0 W') (h0:W0.h p=none) (h1:W'.h p=some (.lst xs)) (h2:W'.g p=none) (h3:AllIs K W'.g es xs) (q:D.rt (.lst es)):D'.rt (.ref p) W'.h:=by
 rcases hf with rfl | rfl
 ·exact s.tl (.lst es) (.ref p) (W'.frz p _ h1) (um le h0 h1 h2) (is_lst.mpr ⟨p,xs,rfl,zp,AllIs.mono0 (zM h2 _) h3⟩) q
 ·exact s.tl (.lst es) (.ref p) W' le ⟨es,p,xs,rfl,rfl,h0,h1,h2,h3⟩ q
section
variable {W0:Vw} {G G':Hp} {ρ:DS} {σ:St} {fr:Fr}
theorem At.step (a:At K Z W0 G W ρ σ) (s:Le W W'):At K Z W0 G W' ρ σ:=⟨a.le.trans s,a.gs.trans s.g,a.rl.mono s⟩
theorem At.set (a:At K Z W0 G W ρ σ) {d:Dt} {v:V} (i:Nat) (h:Is K W.g d v):At K Z W0 G W (ρ.set i (.some d)) (σ.set i (some v)):=⟨a.le,a.gs,a.rl.set i h⟩
theorem At.weak (a:At K Z W0 G W ρ σ) (s:Same G' G):At K Z W0 G' W ρ σ:=⟨a.le,s.trans a.gs,a.rl⟩
theorem At.own (a:At K Z W0 G W ρ σ) (s:Le W W') {p:Addr} {xs:List V} {ds:List Dt} (i:Nat) (h0:W.h p=none) (h1:W'.h p=some (.lst xs)) (h2:W'.g p=none) (h3:AllIs K W'.g ds xs):
  At K Z W0 G W' (ρ.set i (.own ds)) (σ.set i (some (.ref p))):=⟨a.le.trans s,a.gs.trans s.g,a.rl.own s i h0 h1 h2 h3⟩
theorem At.put (at_:At K Z W0 G W ρ σ) {i:Nat} {ds es:List Dt} {a:Addr} {ys:List V} (hi:ρ[i]? = some (.own ds)) (ha:σ[i]? = some (some (.ref a))) (hg:W.g a=none) (hF:W0.h a=none) (h3:AllIs K W.g es ys):
  At K Z W0 G (W.mine a (.lst ys) hg) (ρ.set i (.own es)) σ:=
 ⟨⟨at_.le.g,fun b o q=>by
   have:b≠a:=fun e=>by rw [e,hF] at q; cases q
   show upd W.h a _ b=some o
   rw [zr this]; exact at_.le.h _ _ q,at_.le.n⟩,at_.gs,at_.rl.put hi ha hg hF h3⟩
theorem At.frz (at_:At K Z W0 G W ρ σ) {i:Nat} {ds:List Dt} {a:Addr} {xs:List V} (hi:ρ[i]? = some (.own ds)) (ha:σ[i]? = some (some (.ref a))) (hh:W.h a=some (.lst xs)) (hg:W.g a=none) (hF:W0.h a=none) (h3:AllIs K W.g ds xs):
  At K Z W0 G (W.frz a _ hh) (ρ.set i (.some (.lst ds))) σ:=
 ⟨um at_.le hF hh hg,at_.gs.trans (zM hg _),at_.rl.frz hi ha hh hg h3⟩
theorem Sim.weak {D:wY} {D':vk} (h:Sim K Z fr W0 G' D D') (s:Same G' G):Sim K Z fr W0 G D D':=
 ⟨fun ρ σ W' a=>h.nx ρ σ W' (a.weak s),h.tl,fun ρ σ W' a=>h.bk ρ σ W' (a.weak s),fun ρ σ W' a=>h.ct ρ σ W' (a.weak s)⟩
end
def LiS (K:PySem.W.Frag) (Z:Hp) (fr:Fr) (ts:TS) (t:DTS):Prop:=∀ (W0:Vw) (G:Hp) (ρ:DS) (σ:St) (W:Vw) (D:wY) (D':vk),At K Z W0 G W ρ σ→Sim K Z fr W0 G D D'→t D ρ→ts D' σ W.h
def DSt (X:Cx) (fr:Fr) (st:Stmt) (t:DTS):Prop:=∃ ts,PS X st ts∧LiS X.K (Zx X) fr ts t
def DSs (X:Cx) (fr:Fr) (sts:List Stmt) (t:DTS):Prop:=∃ ts,PSs X sts ts∧LiS X.K (Zx X) fr ts t
def VD:DTS:=fun D ρ=>D.nx ρ
def Vv (t u:DTS):DTS:=fun D ρ=>t { D with nx:=u D } ρ
def Vz (te:DTE):DTS:=fun D ρ=>te ρ D.rt
def Vy (i:Nat):DTS:=fun D ρ=>∃ ds,ρ[i]? = some (.own ds)∧D.rt (.lst ds)
def Xx (i:Nat) (te:DTE):DTS:=fun D ρ=>te ρ fun d=>D.nx (ρ.set i (.some d))
def Vs (i:Nat) (te:DTE):DTS:=fun D ρ=>te ρ fun d=>∃ ds,d=.lst ds∧D.nx (ρ.set i (.own ds))
def UL (c:DTT) (t u:DTS):DTS:=fun D ρ=>c ρ fun b=>if b=true then t D ρ else u D ρ
def VP (te:DTE):DTS:=fun D ρ=>te ρ fun _=>D.nx ρ
def XB:DTS:=fun _ _=>False
def UB (i j:Nat) (te:DTE):DTS:=fun D ρ=>te ρ fun d=>∃ a b,d=.tup [a,b]∧D.nx ((ρ.set i (.some a)).set j (.some b))
def VM (j:Nat) (te:DTE) (tb:DTS):DTS:=fun D ρ=>te ρ fun d=>∃ (ds:List Dt) (Pv:Nat→DS→Prop),yO d=some ds∧Pv 0 ρ∧
 (∀ i e ρ',ds[i]? = some e→Pv i ρ'→tb { D with nx:=Pv (i+1),ct:=Pv (i+1),bk:=D.nx } (ρ'.set j (.some e)))∧∀ ρ',Pv ds.length ρ'→D.nx ρ'
def VL (j:Nat) (te:DTE) (tb:DTS):DTS:=fun D ρ=>te ρ fun d=>∃ (n:Int) (Pv:Nat→DS→Prop),d=.int n∧-(2 ^ 62)≤n∧n<2 ^ 62∧Pv 0 ρ∧
 (∀ (i:Nat) ρ',i<n.toNat→Pv i ρ'→tb { D with nx:=Pv (i+1),ct:=Pv (i+1),bk:=D.nx } (ρ'.set j (.some (.int i))))∧∀ ρ',Pv n.toNat ρ'→D.nx ρ'
def XF (j:Nat) (ta:DTA) (tb:DTS):DTS:=fun D ρ=>ta ρ fun ds=>∃ (m n:Int) (Pv:Nat→DS→Prop),ds=[.int m,.int n]∧-(2 ^ 62)≤m∧m<2 ^ 62∧-(2 ^ 62)≤n∧n<2 ^ 62∧Pv 0 ρ∧
 (∀ (i:Nat) ρ',i<(n - m).toNat→Pv i ρ'→tb { D with nx:=Pv (i+1),ct:=Pv (i+1),bk:=D.nx } (ρ'.set j (.some (.int (m+i)))))∧∀ ρ',Pv (n - m).toNat ρ'→D.nx ρ'
def nw (c:DTT) (tb:DTS):DTS:=fun D ρ=>∃ Pv:Nat→DS→Prop,(∃ m,Pv m ρ)∧∀ m ρ',Pv m ρ'→
 c ρ' fun b=>if b=true then tb { D with nx:=fun ρ2=>∃ m',m'<m∧Pv m' ρ2,ct:=fun ρ2=>∃ m',m'<m∧Pv m' ρ2,bk:=D.nx } ρ' else D.nx ρ'
section
variable {X:Cx} {fr:Fr} {st:Stmt} {yJ:List Stmt} {t u:DTS} {e:Expr} {te:DTE} {pos p0 p1 p2:Pos}
theorem zx:DSs X fr [] VD:=⟨_,ge,fun W0 G ρ σ W D D' a s h=>s.nx ρ σ W a h⟩
theorem zf (h1:DSt X fr st t) (h2:DSs X fr yJ u):DSs X fr (st::yJ) (Vv t u):=by
 obtain ⟨ts,p1,l1⟩:=h1
 obtain ⟨us,p2,l2⟩:=h2
 exact ⟨_,pq p1 p2,fun W0 G ρ σ W D D' a s h=>l1 W0 G ρ σ W { D with nx:=u D } { D' with nx:=us D' } a ⟨fun ρ' σ' W' a' q=>l2 W0 G ρ' σ' W' D D' a' s q,s.tl,s.bk,s.ct⟩ h⟩
theorem ze (h:DSt X fr st t):DSs X fr [st] t:=let ⟨_,p,l⟩:=h; ⟨_,vp p,l⟩
def UM (i:Nat) (t:DTS):DTS:=fun D ρ=>∃ ds,ρ[i]? = some (.own ds)∧t D (ρ.set i (.some (.lst ds)))
theorem ce (i:Nat) (h:DSs X fr yJ t):DSs X fr yJ (UM i t):=by
 obtain ⟨ts,p,l⟩:=h
 refine ⟨ts,p,fun W0 G ρ σ W D D' a s h=>?_⟩
 obtain ⟨ds,e,q⟩:=h
 obtain ⟨b,xs,e1,e2,e3,e4,e5⟩:=a.rl.ow i ds e
 exact l W0 G _ σ (W.frz b _ e2) D D' (a.frz e e1 e2 e3 e4 e5) s q
theorem zl (h:DE X e te):DSt X .d (.Return (some e) pos) (Vz te):=by
 obtain ⟨tt,p,l⟩:=h
 exact ⟨_,qg p,fun W0 G ρ σ W D D' a s h=>l ρ σ W _ a.rl h _ fun d v W1 s1 i1 q1=>s.tl d v W1 (a.le.trans s1) i1 q1⟩
theorem wL (h:DF X e te) (hf:fr=.d∨fr=.l:=by first | exact .inl rfl | exact .inr rfl):DSt X fr (.Return (some e) pos) (Vz te):=by
 obtain ⟨tt,p,l⟩:=h
 exact ⟨_,qg p,fun W0 G ρ σ W D D' a s h=>l ρ σ W _ a.rl h _ fun es q xs W1 s1 h0 h1 h2 i1 q1=>s.rf hf es q xs W1 (a.le.trans s1) (a.le.h.free h0) h1 h2 i1 q1⟩
theorem wK (i:Nat) {x:Str} (hN:X.N[i]? = some x:=by rfl) (hv:Vis X.env.scope x:=by first | exact Or.inl rfl | exact Or.inr (Or.inl rfl) | exact Or.inr (Or.inr rfl)) (hd:(x == ("__debug__":Str))=false:=by decide)
  (hcd:(x == ("__classdict__":Str))=false:=by decide) (hf:fr=.d∨fr=.l:=by first | exact .inl rfl | exact .inr rfl):DSt X fr (.Return (some (.Name x p0)) pos) (Vy i):=by
 refine ⟨_,qg (xb hN hv hd hcd),fun W0 G ρ σ W D D' a s h=>?_⟩
 obtain ⟨ds,e,q⟩:=h
 obtain ⟨b,xs,e1,e2,e3,e4,e5⟩:=a.rl.ow i ds e
 exact ⟨.ref b,e1,s.rf hf ds b xs W a.le e4 e2 e3 e5 q⟩
theorem qA (h:DE X e te) (hs:swapsWith e none pos.line X.env=pure false:=by rfl):DSt X fr (.Expr e pos) (VP te):=by
 obtain ⟨tt,p,l⟩:=h
 exact ⟨_,qi p hs,fun W0 G ρ σ W D D' a s h=>l ρ σ W _ a.rl h _ fun d v W1 s1 i1 q1=>s.nx ρ σ W1 (a.step s1) q1⟩
theorem zq {i:Nat} {x:Str} {pos':Pos} (hN:X.N.Nodup) (hi:X.N[i]? = some x) (hx:Loc X.env.scope x) (h:DE X e te) (hs:swapsWith e (some (.Name x pos')) pos.line X.env=pure false:=by rfl) (hf:X.fn x=true∨X.env.scope.names.lookup x=some .local:=by first | exact .inl rfl | exact .inr rfl | assumption):
  DSt X fr (.Assign [.Name x pos'] e pos) (Xx i te):=by
 obtain ⟨tt,p,l⟩:=h
 exact ⟨_,kb hN hi hx p hs hf,fun W0 G ρ σ W D D' a s h=>l ρ σ W _ a.rl h _ fun d v W1 s1 i1 q1=>s.nx _ _ W1 ((a.step s1).set i i1) q1⟩
theorem yZ {i:Nat} {x:Str} {pos':Pos} (hN:X.N.Nodup) (hi:X.N[i]? = some x) (hx:Loc X.env.scope x) (h:DF X e te) (hs:swapsWith e (some (.Name x pos')) pos.line X.env=pure false:=by rfl) (hf:X.fn x=true∨X.env.scope.names.lookup x=some .local:=by first | exact .inl rfl | exact .inr rfl | assumption):
  DSt X fr (.Assign [.Name x pos'] e pos) (Vs i te):=by
 obtain ⟨tt,p,l⟩:=h
 refine ⟨_,kb hN hi hx p hs hf,fun W0 G ρ σ W D D' a s h=>l ρ σ W _ a.rl h _ fun es q xs W1 s1 h0 h1 h2 i1 ⟨ds,ed,q1⟩=>?_⟩
 cases ed
 exact s.nx _ _ W1 (a.own s1 i h0 h1 h2 i1) q1
theorem zN {c:Expr} {a b:List Stmt} {tc:DTT} (hc:DT X c tc) (ha:DSs X fr a t) (hb:DSs X fr b u):DSt X fr (.If c a b pos) (UL tc t u):=by
 obtain ⟨t0,p0,l0⟩:=hc
 obtain ⟨t1,p1,l1⟩:=ha
 obtain ⟨t2,p2,l2⟩:=hb
 refine ⟨_,We p0 p1 p2,fun W0 G ρ σ W D D' a s h=>l0 ρ σ W _ a.rl h _ fun k W1 s1 q1=>?_⟩
 cases k with
 | true=>exact l1 W0 G ρ σ W1 D D' (a.step s1) s q1
 | false=>exact l2 W0 G ρ σ W1 D D' (a.step s1) s q1
theorem yo:DSt X fr st XB:=⟨_,kf,fun _ _ _ _ _ _ _ _ _ h=>h.elim⟩
theorem j9 {i j:Nat} {x y:Str} {px py pt:Pos} {kt:Nat} (hc:X.calm=true) (hN:X.N.Nodup) (hi:X.N[i]? = some x) (hj:X.N[j]? = some y) (hx:Loc X.env.scope x) (hy:Loc X.env.scope y) (h:DE X e te)
  (hf:X.fn x=true∨X.env.scope.names.lookup x=some .local:=by first | exact .inl rfl | exact .inr rfl | assumption) (hf2:X.fn y=true∨X.env.scope.names.lookup y=some .local:=by first | exact .inl rfl | exact .inr rfl | assumption)
  (hs:swapsWithSole [.Tuple [.Name x px,.Name y py] kt pt] e pos.line X.env=pure false:=by rfl) (hw:swappedStores [.Tuple [.Name x px,.Name y py] kt pt] e X.env=pure none:=by rfl):
  DSt X fr (.Assign [.Tuple [.Name x px,.Name y py] kt pt] e pos) (UB i j te):=by
 obtain ⟨tt,p,l⟩:=h
 refine ⟨_,kg p (ki hc (vq (z0 hN hi hx hf) (vq (z0 hN hj hy hf2) n0))) hs hw,fun W0 G ρ σ W D D' at_ s h=>l ρ σ W _ at_.rl h _ fun d v W1 s1 i1 ⟨a,b,ed,q1⟩=>?_⟩
 subst ed
 obtain ⟨q,xs,rfl,hq,ha⟩:=is_tup.mp i1
 obtain ⟨v1,v2,rfl,h1,h2⟩:=ha.two
 refine ⟨q,_,rfl,.of (W1.sub _ _ hq),rfl,v1,[v2],rfl,v2,[],rfl,rfl,?_⟩
 exact s.nx _ _ W1 (((at_.step s1).set i h1).set j h2) q1
def InL (K:PySem.W.Frag) (Z:Hp) (W0 W1:Vw) (Pv:DS→Prop) (σ:St) (H:Hp):Prop:=∃ (ρ:DS) (W:Vw),W.h=H∧At K Z W0 W1.g W ρ σ∧Pv ρ
theorem xD {K:PySem.W.Frag} {W0 W1:Vw} {G:Hp} {D:wY} {D':vk} {Pv:DS→Prop} (s:Sim K Z fr W0 G D D') (hg:Same G W1.g):
  Sim K Z fr W0 W1.g { D with nx:=Pv,ct:=Pv,bk:=D.nx } { D' with nx:=InL K Z W0 W1 Pv,ct:=InL K Z W0 W1 Pv,bk:=D'.nx }:=
 ⟨fun ρ3 σ3 W3 a3 q3=>⟨ρ3,W3,rfl,a3,q3⟩,s.tl,fun ρ3 σ3 W3 a3 q3=>s.nx ρ3 σ3 W3 (a3.weak hg) q3,fun ρ3 σ3 W3 a3 q3=>⟨ρ3,W3,rfl,a3,q3⟩⟩
theorem At.now {K:PySem.W.Frag} {W0:Vw} {G:Hp} {W:Vw} {ρ:DS} {σ:St} (a:At K Z W0 G W ρ σ):At K Z W0 W.g W ρ σ:=⟨a.le,Same.refl _,a.rl⟩
theorem ij {j:Nat} {x:Str} {iter:Expr} {body:List Stmt} {tb:DTS} {px:Pos} (hc:X.calm=true) (hN:X.N.Nodup) (hi:X.N[j]? = some x) (hx:Loc X.env.scope x) (hp:PassesOwn (model X.prog X.w) X.A X.env X.xe)
  (h:DE X iter te) (hb:DSs X fr body tb) (hs:∀ x,foldedSetIterable iter X.env x=pure x:=by intro _; rfl)
  (hf:X.fn x=true∨X.env.scope.names.lookup x=some .local:=by first | exact .inl rfl | exact .inr rfl | assumption):DSt X fr (.For (.Name x px) iter body [] pos) (VM j te tb):=by
 obtain ⟨tt,p,l⟩:=h
 obtain ⟨tbs,p2,l2⟩:=hb
 refine ⟨_,tN hp hc (nZ p) (z0 hN hi hx hf) p2 hs,fun W0 G ρ σ W D D' at_ s h=>l ρ σ W _ at_.rl h _ fun d v W1 s1 i1 ⟨ds,Pv,el,h0,ht,hd⟩=>?_⟩
 have hg:Same G W1.g:=at_.gs.trans s1.g
 have hq:∃ a xs,v=.ref a∧(∀ W2:Vw,Same W1.g W2.g→SqL X.K W2.h a xs)∧AllIs X.K W1.g ds xs:=by
  cases d with
  | lst es=>
   obtain rfl:es=ds:=Option.some.inj el
   obtain ⟨a,xs,rfl,h1,h2⟩:=is_lst.mp i1
   exact ⟨a,xs,rfl,fun W2 s2=>.of (W2.sub _ _ (s2 _ _ h1)),h2⟩
  | scr ns=>
   obtain rfl:ns.map Dt.int=ds:=Option.some.inj el
   obtain ⟨a,rfl,h1⟩:=is_scr.mp i1
   exact ⟨a,_,rfl,fun W2 s2=>W2.sub.seq (s2.seq h1),AllIs.ints⟩
  | _=>cases el
 obtain ⟨a,xs,rfl,hq,ha⟩:=hq
 refine ⟨a,rfl,⟨xs,hq W1 (Same.refl _)⟩,jV (K:=X.K) (a:=a) (xs:=xs) (fun i=>InL X.K (Zx X) W0 W1 (Pv i)) ⟨ρ,W1,rfl,(at_.step s1).now,h0⟩ (fun i σ' H' _ ⟨_,W2,e2,a2,_⟩=>e2 ▸ hq W2 a2.gs) ?_ ?_⟩
 ·rintro i x σ' _ hi ⟨ρ',W2,rfl,a2,hp2⟩
  obtain ⟨e,he,ie⟩:=ha.get' hi
  exact l2 W0 W1.g _ _ W2 { D with nx:=Pv (i+1),ct:=Pv (i+1),bk:=D.nx } _ (a2.set j (Is.mono0 a2.gs ie)) (xD s hg) (ht i e ρ' he hp2)
 ·rintro σ' _ ⟨ρ',W2,rfl,a2,hp2⟩
  exact s.nx ρ' σ' W2 (a2.weak hg) (hd ρ' (by rw [ha.length]; exact hp2))
theorem vM {j:Nat} {x:Str} {a:Expr} {body:List Stmt} {tb:DTS} {px p0 pos1:Pos} (hc:X.calm=true) (hN:X.N.Nodup) (hi:X.N[j]? = some x) (hx:Loc X.env.scope x) (hp:PassesOwn (model X.prog X.w) X.A X.env X.xe)
  (hg:Gl X "range") (hm:X.mg "range"=none) (h:DE X a te) (hb:DSs X fr body tb) (hs:∀ x,foldedSetIterable (.Call (.Name "range" p0) [a] [] pos1) X.env x=pure x:=by intro _; rfl)
  (hst:starEach [a] X.env=[(false,eval a X.env)]:=by rfl) (hst2:starEach [a] X.env=(false,eval a X.env)::starEach [] X.env:=by rfl)
  (hf:X.fn x=true∨X.env.scope.names.lookup x=some .local:=by first | exact .inl rfl | exact .inr rfl | assumption):DSt X fr (.For (.Name x px) (.Call (.Name "range" p0) [a] [] pos1) body [] pos) (VL j te tb):=by
 obtain ⟨tt,p,l⟩:=h
 obtain ⟨tbs,p2,l2⟩:=hb
 refine ⟨_,tN hp hc (rm hg hm (zT p yA hst2) hst) (z0 hN hi hx hf) p2 hs,fun W0 G ρ σ W D D' at_ s h=>l ρ σ W _ at_.rl h _ fun d v W1 s1 i1 ⟨n,Pv,ed,n1,n2,h0,ht,hd⟩=>?_⟩
 subst ed
 have hg:Same G W1.g:=at_.gs.trans s1.g
 refine ⟨n,by rw [is_int.mp i1],n1,n2,rE (lo:=0) (n:=n.toNat) (fun i=>InL X.K (Zx X) W0 W1 (Pv i)) ⟨ρ,W1,rfl,(at_.step s1).now,h0⟩ ?_ ?_⟩
 ·rintro i σ' _ hi ⟨ρ',W2,rfl,a2,hp2⟩
  have ez:(0:Int)+(i:Int)=(i:Int):=Int.zero_add _
  rw [ez]
  exact l2 W0 W1.g _ _ W2 { D with nx:=Pv (i+1),ct:=Pv (i+1),bk:=D.nx } _ (a2.set j (is_int.mpr rfl)) (xD s hg) (ht i ρ' hi hp2)
 ·rintro σ' _ ⟨ρ',W2,rfl,a2,hp2⟩
  exact s.nx ρ' σ' W2 (a2.weak hg) (hd ρ' hp2)
theorem vK {c:Expr} {body:List Stmt} {tc:DTT} {tb:DTS} (hp:PassesOwn (model X.prog X.w) X.A X.env X.xe) (hc:DT X c tc) (hb:DSs X fr body tb):DSt X fr (.While c body [] pos) (nw tc tb):=by
 obtain ⟨t0,p0,l0⟩:=hc
 obtain ⟨tbs,p2,l2⟩:=hb
 refine ⟨_,l_ hp p0 p2,fun W0 G ρ σ W D D' at_ s h=>?_⟩
 obtain ⟨Pv,⟨m0,h0⟩,ht⟩:=h
 refine ⟨fun m=>InL X.K (Zx X) W0 W (Pv m),⟨m0,ρ,W,rfl,at_.now,h0⟩,?_⟩
 rintro m σ' _ ⟨ρ',W2,rfl,a2,hp2⟩
 refine l0 ρ' σ' W2 _ a2.rl (ht m ρ' hp2) _ fun b W3 s3 q3=>?_
 have a3:=a2.step s3
 cases b with
 | true=>
  refine ⟨InL X.K (Zx X) W0 W (fun ρ2=>∃ m',m'<m∧Pv m' ρ2),fun σ4 H4 ⟨ρ4,W4,e4,a4,m',hm,p4⟩=>⟨m',hm,ρ4,W4,e4,a4,p4⟩,?_⟩
  exact l2 W0 W.g _ _ W3 { D with nx:=fun ρ2=>∃ m',m'<m∧Pv m' ρ2,ct:=fun ρ2=>∃ m',m'<m∧Pv m' ρ2,bk:=D.nx } _ a3 (xD s at_.gs) q3
 | false=>exact s.nx ρ' σ' W3 (a3.weak at_.gs) q3
variable {i:Nat} {x:Str}
def UO (i:Nat) (te:DTE):DTS:=fun D ρ=>∃ ds,ρ[i]? = some (.own ds)∧te ρ fun d=>ds.length≤100000∧D.nx (ρ.set i (.own (ds++[d])))
theorem sj (i:Nat) (h:DE X e te) (hN:X.N[i]? = some x:=by rfl) (hv:Vis X.env.scope x:=by first | exact Or.inl rfl | exact Or.inr (Or.inl rfl) | exact Or.inr (Or.inr rfl)) (hd:(x == ("__debug__":Str))=false:=by decide)
  (hcd:(x == ("__classdict__":Str))=false:=by decide) (hst:starEach [e] X.env=(false,eval e X.env)::starEach [] X.env:=by rfl) (hpl:(backTo p2 (starEach [] X.env)).any (·.1)=false:=by rfl)
  (hfew:((backTo p2 (starEach [e] X.env)).all (fun x=>!x.1) && (backToKw p2 (keywordEach [] X.env)).all (fun x=>x.1.isSome)
   && decide ([e].length+([]:List Keyword).length+(if ([]:List Keyword).isEmpty then 0 else 1)<30))=true:=by rfl)
  (hbase:attributeBase (.Name x p0) "append" X.env (eval (.Name x p0) X.env)=eval (.Name x p0) X.env:=by rfl) (hline:(p1.endLine == p2.line)=true:=by rfl)
  (hs:swapsWith (.Call (.Attribute (.Name x p0) "append" p1) [e] [] p2) none pos.line X.env=pure false:=by rfl):
  DSt X fr (.Expr (.Call (.Attribute (.Name x p0) "append" p1) [e] [] p2) pos) (UO i te):=by
 obtain ⟨tt,p,l⟩:=h
 refine ⟨_,qi (Wg PySem.F.plainAttrs_list PySem.F.slot_list_append PySem.F.type_list_append rq (xb hN hv hd hcd) (zT p yA hst) hbase hfew hline hst hpl) hs,fun W0 G ρ σ W D D' at_ s h=>?_⟩
 obtain ⟨ds,ei,h⟩:=h
 obtain ⟨b,xs,e1,e2,e3,e4,e5⟩:=at_.rl.ow i ds ei
 refine ⟨.ref b,e1,.inl ⟨rfl,xs,.of e2⟩,l ρ σ W _ at_.rl h _ fun d v W1 s1 i1 ⟨hl,q1⟩=>?_⟩
 have a1:=at_.step s1
 have hg1:W1.g b=none:=s1.n b (by rw [e2]; intro z; cases z) e3
 refine ⟨b,xs,v,rfl,rfl,s1.h _ _ e2,by rw [← e5.length]; exact Nat.lt_of_le_of_lt hl (by decide),?_⟩
 exact s.nx _ _ _ (a1.put ei e1 hg1 e4 ((e5.mono s1).append (allIs_cons.mpr ⟨v,[],rfl,i1,allIs_nil.mpr rfl⟩))) q1
theorem AllIs.dropLast {G:Hp} {ds:List Dt} {xs:List V} (h:AllIs K G ds xs):AllIs K G ds.dropLast xs.dropLast:=by
 rw [List.dropLast_eq_take,List.dropLast_eq_take,h.length]
 exact h.take _
theorem AllIs.reverse {G:Hp}:∀ {ds:List Dt} {xs:List V},AllIs K G ds xs→AllIs K G ds.reverse xs.reverse
 | [],_,h=>by rw [allIs_nil.mp h]; exact allIs_nil.mpr rfl
 | d::ds,_,h=>by
  obtain ⟨x,r,rfl,h1,h2⟩:=allIs_cons.mp h
  rw [List.reverse_cons,List.reverse_cons]
  exact (AllIs.reverse h2).append (allIs_cons.mpr ⟨x,[],rfl,h1,allIs_nil.mpr rfl⟩)
theorem AllIs.set {G:Hp}:∀ {ds:List Dt} {xs:List V} {d:Dt} {v:V} (j:Nat),AllIs K G ds xs→Is K G d v→AllIs K G (ds.set j d) (xs.set j v)
 | [],_,_,_,_,h,_=>by rw [allIs_nil.mp h]; exact allIs_nil.mpr rfl
 | d::ds,_,_,_,0,h,i=>by
  obtain ⟨x,r,rfl,h1,h2⟩:=allIs_cons.mp h
  exact allIs_cons.mpr ⟨_,_,rfl,i,h2⟩
 | d::ds,_,_,_,j+1,h,i=>by
  obtain ⟨x,r,rfl,h1,h2⟩:=allIs_cons.mp h
  exact allIs_cons.mpr ⟨_,_,rfl,h1,AllIs.set j h2 i⟩
def Xz (i:Nat):DTS:=fun D ρ=>∃ ds,ρ[i]? = some (.own ds)∧ds.isEmpty=false∧D.nx (ρ.set i (.own ds.dropLast))
theorem nr (i:Nat) (hN:X.N[i]? = some x:=by rfl) (hv:Vis X.env.scope x:=by first | exact Or.inl rfl | exact Or.inr (Or.inl rfl) | exact Or.inr (Or.inr rfl)) (hd:(x == ("__debug__":Str))=false:=by decide)
  (hcd:(x == ("__classdict__":Str))=false:=by decide)
  (hbase:attributeBase (.Name x p0) "pop" X.env (eval (.Name x p0) X.env)=eval (.Name x p0) X.env:=by rfl) (hline:(p1.endLine == p2.line)=true:=by rfl)
  (hs:swapsWith (.Call (.Attribute (.Name x p0) "pop" p1) [] [] p2) none pos.line X.env=pure false:=by rfl):
  DSt X fr (.Expr (.Call (.Attribute (.Name x p0) "pop" p1) [] [] p2) pos) (Xz i):=by
 refine ⟨_,qi (bC PySem.F.plainAttrs_list PySem.F.slot_list_pop PySem.F.type_list_pop Y8 (xb hN hv hd hcd) hbase hline) hs,fun W0 G ρ σ W D D' at_ s h=>?_⟩
 obtain ⟨ds,ei,hne,q1⟩:=h
 obtain ⟨b,xs,e1,e2,e3,e4,e5⟩:=at_.rl.ow i ds ei
 have hx:xs≠[]:=fun z=>by
  have:=e5.length
  rw [z] at this
  rw [List.length_eq_zero_iff.mp this] at hne
  cases hne
 have hlt:xs.length - 1<xs.length:=by
  have:=List.length_pos_iff.mpr hx
  omega
 exact ⟨.ref b,e1,.inl ⟨rfl,xs,.of e2⟩,b,xs,xs[xs.length - 1],rfl,rfl,e2,List.getElem?_eq_getElem hlt,s.nx _ _ _ (at_.put ei e1 e3 e4 e5.dropLast) q1⟩
def UF (i:Nat) (ti te:DTE):DTS:=fun D ρ=>∃ ds,ρ[i]? = some (.own ds)∧te ρ fun d=>ti ρ fun z=>∃ n j,z=.int n∧ixN ds.length n=some j∧D.nx (ρ.set i (.own (ds.set j d)))
theorem Xp (i:Nat) {k:Expr} {ti:DTE} (hk:DE X k ti) (h:DE X e te) (hN:X.N[i]? = some x:=by rfl) (hv:Vis X.env.scope x:=by first | exact Or.inl rfl | exact Or.inr (Or.inl rfl) | exact Or.inr (Or.inr rfl)) (hd:(x == ("__debug__":Str))=false:=by decide)
  (hcd:(x == ("__classdict__":Str))=false:=by decide)
  (ha:∀ v,assign (.Subscript (.Name x p0) k p1) X.env v=(do
   let ov ← holding [v] (eval (.Name x p0) X.env)
   let iv ← holding [v,ov] (eval k X.env)
   standAt p1
   holding [v,ov,iv] (setItem ov iv v)
   release [v,ov,iv] []):=by intro _; rfl)
  (hs:swapsWithSole [.Subscript (.Name x p0) k p1] e pos.line X.env=pure false:=by rfl) (hw:swappedStores [.Subscript (.Name x p0) k p1] e X.env=pure none:=by rfl)
  (h1:(assignEach [.Subscript (.Name x p0) k p1] X.env).map (·.2)=[assign (.Subscript (.Name x p0) k p1) X.env]:=by rfl):
  DSt X fr (.Assign [.Subscript (.Name x p0) k p1] e pos) (UF i ti te):=by
 obtain ⟨tt,p,l⟩:=h
 obtain ⟨tk,pk,lk⟩:=hk
 refine ⟨_,kg p (bv (xb hN hv hd hcd) pk lS ha) hs hw h1,fun W0 G ρ σ W D D' at_ s h=>?_⟩
 obtain ⟨ds,ei,h⟩:=h
 refine l ρ σ W _ at_.rl h _ fun d v W1 s1 i1 q1=>?_
 have a1:=at_.step s1
 obtain ⟨b,xs,e1,e2,e3,e4,e5⟩:=a1.rl.ow i ds ei
 refine ⟨.ref b,e1,lk ρ σ W1 _ a1.rl q1 _ fun z u W2 s2 i2 ⟨n,j,ez,ej,q2⟩=>?_⟩
 subst ez
 have a2:=a1.step s2
 have hg2:W2.g b=none:=s2.n b (by rw [e2]; intro z; cases z) e3
 refine ⟨b,xs,n,j,rfl,is_int.mp i2,s2.h _ _ e2,by rw [← e5.length]; exact ej,?_⟩
 exact s.nx _ _ _ (a2.put ei e1 hg2 e4 ((e5.mono s2).set j (i1.mono s2))) q2
end
section
variable {P:Program} {w:World} {K:PySem.W.Frag} {mg:Str→Option Value} {base:Heap}
theorem vS {W:Vw} {N:List Str} {ds:List Dt} {vs:List V} (ia:AllIs K W.g ds vs) (hz:Z=W.h):At K Z W W.g W (yC N.length ds) (start N vs):=⟨Le.refl W,Same.refl _,Rl.start ia (hz ▸ Same.refl _)⟩
theorem okD {x qual:Str} {st:Stmt} {f:Addr} {fd:FuncData} {N ps:List Str} {k:Nat} {S:DSp} (F:Fun K x qual st f fd) (sc:zi N ps (defScope st)) (len:∀ ds Q,S ds Q→ds.length=ps.length)
  (hbody:∀ (cdv:Value) (A:Around) (outer:List Env) (s:Shared) (H:Hp) (E:XK),Room k (A.deeper (envOfC qual (defScope st) s.heap.objs.size f cdv))→∀ (ds:List Dt) (Q:Dt→Prop),S ds Q→
   ∃ t,DSs (yQ CX0 P w K mg base N qual (defScope st) f cdv A outer s H E).nox .d (defBody st) t∧t { nx:=fun _=>Q .non,rt:=Q } (yC N.length ds)):FnOk P w K mg base CX0 (k+1) f fd ps (zm K S):=by
 refine F.ok sc (fun vs H Q E h=>?_) (fun cdv A outer s H vs Q E hr h=>?_)
 ·obtain ⟨W,ds,Qd,_,ia,hS,_⟩:=h
  rw [← ia.length]
  exact len ds Qd hS
 obtain ⟨W,ds,Qd,rfl,ia,hS,kk⟩:=h
 obtain ⟨t,⟨ts,p,l⟩,ht⟩:=hbody cdv A outer s W.h E hr ds Qd hS
 refine ⟨ts,p,l W W.g (yC N.length ds) (start N vs) W { nx:=fun _=>Qd .non,rt:=Qd } _ (vS ia (rO (Nat.succ_ne_self _))) ⟨fun ρ σ W' a q=>kk .non .non W' a.le (is_non.mpr rfl) q,fun d v W' s' i' q=>kk d v W' s' i' q,fun _ _ _ _ q=>q.elim,fun _ _ _ _ q=>q.elim⟩ ht⟩
theorem okF {x qual:Str} {st:Stmt} {f:Addr} {fd:FuncData} {N ps:List Str} {k:Nat} {S:DSp} (F:Fun K x qual st f fd) (sc:zi N ps (defScope st)) (len:∀ ds Q,S ds Q→ds.length=ps.length)
  (hbody:∀ (cdv:Value) (A:Around) (outer:List Env) (s:Shared) (H:Hp) (E:XK),Room k (A.deeper (envOfC qual (defScope st) s.heap.objs.size f cdv))→∀ (ds:List Dt) (Q:Dt→Prop),S ds Q→
   ∃ t,DSs (yQ CX0 P w K mg base N qual (defScope st) f cdv A outer s H E).nox .l (defBody st) t∧t { nx:=fun _=>False,rt:=Q } (yC N.length ds)):FnOk P w K mg base CX0 (k+1) f fd ps (yr K S):=by
 refine F.ok sc (fun vs H Q E h=>?_) (fun cdv A outer s H vs Q E hr h=>?_)
 ·obtain ⟨W,ds,Qd,_,ia,hS,_⟩:=h
  rw [← ia.length]
  exact len ds Qd hS
 obtain ⟨W,ds,Qd,rfl,ia,hS,kk⟩:=h
 obtain ⟨t,⟨ts,p,l⟩,ht⟩:=hbody cdv A outer s W.h E hr ds Qd hS
 exact ⟨ts,p,l W W.g (yC N.length ds) (start N vs) W { nx:=fun _=>False,rt:=Qd } _ (vS ia (rO (Nat.succ_ne_self _))) ⟨fun ρ σ W' a q=>q.elim,fun d v W' s' ⟨es,p,xs,e1,e2,e3,e4,e5,e6⟩ q=>by subst e1; subst e2; exact kk es p xs W' s' e3 e4 e5 e6 q,fun _ _ _ _ q=>q.elim,fun _ _ _ _ q=>q.elim⟩ ht⟩
theorem DOk.mk' {x qual:Str} {st:Stmt} {f:Addr} {fd:FuncData} {ps:List Str} {n:Nat} {S:DSp} (F:Fun K x qual st f fd) (hm:mg x=some (.ref f)) (hb:Binds K fd ps []) (h:FnOk P w K mg base CX0 n f fd ps (zm K S)):DOk P w K mg base n x S:=
 ⟨f,fd,ps,hm,F.kp,hb,h⟩
theorem FOk.mk' {x qual:Str} {st:Stmt} {f:Addr} {fd:FuncData} {ps:List Str} {n:Nat} {S:DSp} (F:Fun K x qual st f fd) (hm:mg x=some (.ref f)) (hb:Binds K fd ps []) (h:FnOk P w K mg base CX0 n f fd ps (yr K S)):FOk P w K mg base n x S:=
 ⟨f,fd,ps,hm,F.kp,hb,h⟩
theorem DOk.mono {x:Str} {m n:Nat} {S:DSp} (h:DOk P w K mg base m x S) (hl:m≤n):DOk P w K mg base n x S:=
 let ⟨f,fd,ps,h1,h2,h3,h4⟩:=h.ex; ⟨f,fd,ps,h1,h2,h3,h4.mono hl⟩
theorem FOk.mono {x:Str} {m n:Nat} {S:DSp} (h:FOk P w K mg base m x S) (hl:m≤n):FOk P w K mg base n x S:=
 let ⟨f,fd,ps,h1,h2,h3,h4⟩:=h.ex; ⟨f,fd,ps,h1,h2,h3,h4.mono hl⟩
theorem MOk.mono {C:Addr} {x:Str} {m n:Nat} {S:DSp} (h:MOk P w K mg base m C x S) (hl:m≤n):MOk P w K mg base n C x S:=
 ⟨h.cl,let ⟨f,fd,ps,h1,h3,h4⟩:=h.ex; ⟨f,fd,ps,h1,h3,h4.mono hl⟩⟩
theorem FMOk.mono {C:Addr} {x:Str} {m n:Nat} {S:DSp} (h:FMOk P w K mg base m C x S) (hl:m≤n):FMOk P w K mg base n C x S:=
 ⟨h.cl,let ⟨f,fd,ps,h1,h3,h4⟩:=h.ex; ⟨f,fd,ps,h1,h3,h4.mono hl⟩⟩
theorem MOk.imp {C:Addr} {x:Str} {n:Nat} {S S':DSp} (h:MOk P w K mg base n C x S) (hi:∀ ds Q,S' ds Q→S ds Q):MOk P w K mg base n C x S':=
 ⟨h.cl,let ⟨f,fd,ps,h1,h3,h4⟩:=h.ex; ⟨f,fd,ps,h1,h3,h4.imp fun vs H Q E ⟨W,ds,Qd,a,b,c,d⟩=>⟨W,ds,Qd,a,b,hi _ _ c,d⟩⟩⟩
theorem FMOk.imp {C:Addr} {x:Str} {n:Nat} {S S':DSp} (h:FMOk P w K mg base n C x S) (hi:∀ ds Q,S' ds Q→S ds Q):FMOk P w K mg base n C x S':=
 ⟨h.cl,let ⟨f,fd,ps,h1,h3,h4⟩:=h.ex; ⟨f,fd,ps,h1,h3,h4.imp fun vs H Q E ⟨W,ds,Qd,a,b,c,d⟩=>⟨W,ds,Qd,a,b,hi _ _ c,d⟩⟩⟩
theorem DOk.imp {x:Str} {n:Nat} {S S':DSp} (h:DOk P w K mg base n x S) (hi:∀ ds Q,S' ds Q→S ds Q):DOk P w K mg base n x S':=
 let ⟨f,fd,ps,h1,h2,h3,h4⟩:=h.ex; ⟨f,fd,ps,h1,h2,h3,h4.imp fun vs H Q E ⟨W,ds,Qd,a,b,c,d⟩=>⟨W,ds,Qd,a,b,hi _ _ c,d⟩⟩
theorem uW {qual:Str} {st:Stmt} {g C:Addr} {fd:FuncData} {y f:Str} {k:Nat} {ok:Int→Prop} (F:Fun K "__init__" qual st g fd) (sc:zi ["self",y] ["self",y] (defScope st)) (cl:Cls K C) (na:NoAttr K C f)
  (hbody:∀ (cdv:Value) (A:Around) (outer:List Env) (s:Shared) (H:Hp) (E:XK),Room k (A.deeper (envOfC qual (defScope st) s.heap.objs.size g cdv))→
   ∃ te t,PSs (yQ CX0 P w K mg base ["self",y] qual (defScope st) g cdv A outer s H E).nox (defBody st) (X9 K (i6 0) te f)∧LiE K (Zx (yQ CX0 P w K mg base ["self",y] qual (defScope st) g cdv A outer s H E)) te t∧∀ i,ok i→t [.none,.some (.int i)] fun d=>d=.int i):
  FnOk P w K mg base CX0 (k+1) g fd ["self",y] (wC C f ok):=by
 refine F.ok sc (fun vs H Q E h=>?_) (fun cdv A outer s H vs Q E hr h=>?_)
 ·obtain ⟨p,dx,i,rfl,_⟩:=h
  rfl
 obtain ⟨p,dx,i,rfl,hp,hok,q⟩:=h
 obtain ⟨te,t,ps,l,ht⟩:=hbody cdv A outer s H E hr
 rw [lD] at l
 refine ⟨_,ps,l (F:=H) [.none,.some (.int i)] _ ⟨H,H,Same.refl H⟩ _ ⟨rfl,fun j d e=>?_,fun j ds e=>?_,fun j j' ds es _ e _=>?_,Same.refl H,Same.refl H,fun j a ds e=>?_⟩ (ht i hok) _ fun d v W1 s1 i1 ed=>?_⟩
 ·match j,e with
  | 0,e=>cases e
  | 1,e=>
   have e':Dt.int i=d:=by cases e; rfl
   subst e'
   exact ⟨.int i,rfl,is_int.mpr rfl⟩
  | j+2,e=>cases e
 ·match j,e with
  | 0,e=>cases e
  | 1,e=>cases e
  | j+2,e=>cases e
 ·match j,e with
  | 0,e=>cases e
  | 1,e=>cases e
  | j+2,e=>cases e
 ·match j,e with
  | 0,e=>cases e
  | 1,e=>cases e
  | j+2,e=>cases e
 ·subst ed
  obtain rfl:=is_int.mp i1
  refine ⟨.ref p,rfl,p,C,dx,[],rfl,s1.h _ _ hp,cl,na,(by show 0<1000; decide),?_⟩
  refine q _ zp fun b o hb hbp=>?_
  rw [zr hbp]
  exact s1.h _ _ hb
end
end OD
namespace OD
open PySem PySem.Spec PyProof.Rows L2
mutual
def eqD:Dt→Dt→Bool
 | .non,.non=>true
 | .bl a,.bl b=>a == b
 | .bl a,.int b=>(if a then (1:Int) else 0) == b
 | .int a,.bl b=>a == (if b then (1:Int) else 0)
 | .int a,.int b=>a == b
 | .str a,.str b=>a == b
 | .tup ds,.tup es=>xY ds es
 | .lst ds,.lst es=>xY ds es
 | _,_=>false
def xY:List Dt→List Dt→Bool
 | [],[]=>true
 | d::ds,e::es=>eqD d e && xY ds es
 | _,_=>false
end
def okE:Nat→Dt→Bool
 | _,.non=>true
 | _,.bl _=>true
 | _,.int _=>true
 | _,.str _=>true
 | n+1,.tup ds=>ds.all (okE n)
 | n+1,.lst ds=>ds.all (okE n)
 | _,_=>false
theorem yY (a b:Int):eqD (.int a) (.int b)=(a == b):=by unfold eqD; rfl
theorem j4 (a b:Bool):eqD (.bl a) (.bl b)=(a == b):=by unfold eqD; rfl
theorem mm (a b:Str):eqD (.str a) (.str b)=(a == b):=by unfold eqD; rfl
theorem vH (ds es:List Dt):eqD (.tup ds) (.tup es)=xY ds es:=by rw [eqD]
theorem uZ (ds es:List Dt):eqD (.lst ds) (.lst es)=xY ds es:=by rw [eqD]
theorem vG:xY [] []=true:=by unfold xY; rfl
theorem xG (d e:Dt) (ds es:List Dt):xY (d::ds) (e::es)=(eqD d e && xY ds es):=by rw [xY]
theorem s0 (e:Dt) (es:List Dt):xY [] (e::es)=false:=by unfold xY; rfl
theorem s8 (e:Dt) (es:List Dt):xY (e::es) []=false:=by unfold xY; rfl
theorem xi:∀ ds es:List Dt,(((List.range (min ds.length es.length)).all fun j=>eqD (ds.getD j .non) (es.getD j .non)) && (ds.length == es.length))=xY ds es
 | [],[]=>by rw [vG]; rfl
 | [],e::es=>by
  rw [s0]
  have h:((([]:List Dt).length == (e::es).length))=false:=by simp
  rw [h,Bool.and_false]
 | d::ds,[]=>by
  rw [s8]
  have h:(((d::ds).length == ([]:List Dt).length))=false:=by simp
  rw [h,Bool.and_false]
 | d::ds,e::es=>by
  have ih:=xi ds es
  rw [xG,← ih]
  have hm:min (d::ds).length (e::es).length=min ds.length es.length+1:=by
   rw [List.length_cons,List.length_cons]; omega
  rw [hm,List.range_succ_eq_map,List.all_cons,List.all_map,Bool.and_assoc]
  have hl:((d::ds).length == (e::es).length)=(ds.length == es.length):=by
   rw [List.length_cons,List.length_cons]
   rw [Bool.eq_iff_iff,beq_iff_eq,beq_iff_eq]
   omega
  rw [hl]
  rfl
theorem rG {ds es:List Dt} (h:ds.length≠es.length):xY ds es=false:=by
 rw [← xi ds es]
 have h:(ds.length == es.length)=false:=beq_eq_false_iff_ne.mpr h
 rw [h,Bool.and_false]
theorem p9 {ds es:List Dt} (h:ds.length=es.length):((List.range ds.length).all fun j=>eqD (ds.getD j .non) (es.getD j .non))=xY ds es:=by
 rw [← xi ds es]
 have h':(ds.length == es.length)=true:=beq_iff_eq.mpr h
 rw [h',Bool.and_true,← h,Nat.min_self]
theorem uu:∀ {ds:List Dt},(∀ d∈ds,eqD d d=true)→xY ds ds=true
 | [],_=>vG
 | d::ds,h=>by
  rw [xG,h d List.mem_cons_self,uu fun e he=>h e (List.mem_cons_of_mem _ he)]
  rfl
theorem si:∀ (n:Nat) {d:Dt},okE n d=true→eqD d d=true:=by
 intro n
 induction n with
 | zero=>
  intro d h
  cases d with
  | non=>unfold eqD; rfl
  | bl b=>rw [j4]; exact beq_self_eq_true _
  | int b=>rw [yY]; exact beq_self_eq_true _
  | str b=>rw [mm]; exact beq_self_eq_true _
  | _=>simp [okE] at h
 | succ n ih=>
  intro d h
  cases d with
  | non=>unfold eqD; rfl
  | bl b=>rw [j4]; exact beq_self_eq_true _
  | int b=>rw [yY]; exact beq_self_eq_true _
  | str b=>rw [mm]; exact beq_self_eq_true _
  | tup ds=>
   rw [vH]
   have h':∀ d∈ds,okE n d=true:=by simpa [okE] using h
   exact uu fun d hd=>ih (h' d hd)
  | lst ds=>
   rw [uZ]
   have h':∀ d∈ds,okE n d=true:=by simpa [okE] using h
   exact uu fun d hd=>ih (h' d hd)
  | _=>simp [okE] at h
example:eqD (.int ((2:Nat):Int)) (.int 2)=true:=by rfl
section
variable {X:Cx} {pins:List (Addr × Obj)} {σ:St} {K:PySem.W.Frag} {H:Hp} {s:Shared}
theorem nq:∀ {ds es:List Dt} {xs:List V},(∀ d e v,d∈ds→e∈es→Is K H d v→Is K H e v→eqD d e=true)→AllIs K H ds xs→AllIs K H es xs→xY ds es=true
 | [],es,xs,ih,i1,i2=>by
  obtain rfl:=allIs_nil.mp i1
  cases es with
  | nil=>exact vG
  | cons e es=>obtain ⟨_,_,z,_⟩:=allIs_cons.mp i2; cases z
 | d::ds,es,xs,ih,i1,i2=>by
  obtain ⟨x,r,rfl,j1,j2⟩:=allIs_cons.mp i1
  cases es with
  | nil=>cases allIs_nil.mp i2
  | cons e es=>
   obtain ⟨y,r',z,k1,k2⟩:=allIs_cons.mp i2
   cases z
   rw [xG,ih d e x List.mem_cons_self List.mem_cons_self j1 k1,nq (fun d' e' v' hd he=>ih d' e' v' (List.mem_cons_of_mem _ hd) (List.mem_cons_of_mem _ he)) j2 k2]
   rfl
def wu:Dt→Bool
 | .non=>true
 | .bl _=>true
 | .int _=>true
 | .str _=>true
 | _=>false
def vD:Dt→V
 | .bl b=>.bl b
 | .int i=>.int i
 | .str x=>.str x
 | _=>.non
theorem zO {d:Dt} {v:V} (h:wu d=true) (i:Is K H d v):v=vD d:=by
 cases d <;> first | exact is_non.mp i | exact is_bl.mp i | exact is_int.mp i | exact is_str.mp i | cases h
theorem ur {d:Dt} (h:wu d=true):mj (vD d)=true:=by cases d <;> first | rfl | cases h
theorem vE {d:Dt} {a:Addr} (h:wu d=true) (e:vD d=.ref a):False:=by cases d <;> first | cases e | cases h
theorem p8 {v:V} (h:mj v=true):eqV v v=true:=by cases v <;> first | rfl | exact beq_self_eq_true _ | cases h
theorem vI {d e:Dt} (h1:wu d=true) (h2:wu e=true):eqD d e=eqV (vD d) (vD e):=by cases d <;> first | exact absurd h1 Bool.false_ne_true | (cases e <;> first | exact absurd h2 Bool.false_ne_true | rfl)
theorem ww {d:Dt} {es:List Dt} (h:wu d=true):eqD d (.tup es)=false∧eqD (.tup es) d=false∧eqD d (.lst es)=false∧eqD (.lst es) d=false:=by
 cases d <;> first | exact ⟨rfl,rfl,rfl,rfl⟩ | cases h
theorem y4 {n:Nat} {d:Dt} (h:okE n d=true):wu d=true∨∃ m ds,n=m+1∧(d=.tup ds∨d=.lst ds)∧∀ d∈ds,okE m d=true:=by
 cases d with
 | non=>exact .inl rfl
 | bl b=>exact .inl rfl
 | int b=>exact .inl rfl
 | str b=>exact .inl rfl
 | tup ds=>
  cases n with
  | zero=>simp [okE] at h
  | succ m=>exact .inr ⟨m,ds,rfl,.inl rfl,by simpa [okE] using h⟩
 | lst ds=>
  cases n with
  | zero=>simp [okE] at h
  | succ m=>exact .inr ⟨m,ds,rfl,.inr rfl,by simpa [okE] using h⟩
 | _=>cases n <;> simp [okE] at h
theorem ml:∀ (n:Nat) {d e:Dt} {v:V},okE n d=true→okE n e=true→Is K H d v→Is K H e v→eqD d e=true:=by
 intro n
 induction n with
 | zero=>
  intro d e v h1 h2 i1 i2
  rcases y4 h1 with f1 | ⟨m,ds,z,_⟩
  ·rcases y4 h2 with f2 | ⟨m,ds,z,_⟩
   ·rw [vI f1 f2,← zO f1 i1,← zO f2 i2]
    exact p8 (by rw [zO f1 i1]; exact ur f1)
   ·cases z
  ·cases z
 | succ n ih=>
  intro d e v h1 h2 i1 i2
  rcases y4 h1 with f1 | ⟨m,ds,z,hk,hd⟩
  ·rcases y4 h2 with f2 | ⟨m,es,z,hk,he⟩
   ·rw [vI f1 f2,← zO f1 i1,← zO f2 i2]
    exact p8 (by rw [zO f1 i1]; exact ur f1)
   ·obtain rfl:=zO f1 i1
    rcases hk with rfl | rfl
    ·obtain ⟨_,_,e,_⟩:=is_tup.mp i2; exact (vE f1 e).elim
    ·obtain ⟨_,_,e,_⟩:=is_lst.mp i2; exact (vE f1 e).elim
  ·cases z
   rcases y4 h2 with f2 | ⟨m,es,z,hk2,he⟩
   ·obtain rfl:=zO f2 i2
    rcases hk with rfl | rfl
    ·obtain ⟨_,_,e,_⟩:=is_tup.mp i1; exact (vE f2 e).elim
    ·obtain ⟨_,_,e,_⟩:=is_lst.mp i1; exact (vE f2 e).elim
   ·cases z
    rcases hk with rfl | rfl
    ·obtain ⟨a,xs,rfl,hx,ha⟩:=is_tup.mp i1
     rcases hk2 with rfl | rfl
     ·obtain ⟨b,ys,eb,hy,hb⟩:=is_tup.mp i2
      cases eb
      rw [hx] at hy
      cases hy
      rw [vH]
      exact nq (fun d e v q1 q2=>ih (hd d q1) (he e q2)) ha hb
     ·obtain ⟨b,ys,eb,hy,hb⟩:=is_lst.mp i2
      cases eb
      rw [hx] at hy
      cases hy
    ·obtain ⟨a,xs,rfl,hx,ha⟩:=is_lst.mp i1
     rcases hk2 with rfl | rfl
     ·obtain ⟨b,ys,eb,hy,hb⟩:=is_tup.mp i2
      cases eb
      rw [hx] at hy
      cases hy
     ·obtain ⟨b,ys,eb,hy,hb⟩:=is_lst.mp i2
      cases eb
      rw [hx] at hy
      cases hy
      rw [uZ]
      exact nq (fun d e v q1 q2=>ih (hd d q1) (he e q2)) ha hb
section
variable {A:Around}
open SeqAt
theorem wI {d:Dt} {v:Value} {b:Addr} {its:Array Value} (f:wu d=true) (q:RelV (vD d) v) (t:s.heap.IsTuple b its) (hA:A.units<cLine):
  (EqAt A s v (.ref b) false∧EqAt A s (.ref b) v false)∧(RcAt A s v (.ref b) false∧RcNeAt A s v (.ref b) true)∧RcAt A s (.ref b) v false∧RcNeAt A s (.ref b) v true:=by
 cases d with
 | non=>cases q; exact ⟨⟨.none_tuple t hA,.tuple_none t hA⟩,⟨.none_tuple t hA,.none_tuple t hA⟩,.tuple_none t hA,.tuple_none t hA⟩
 | bl a=>cases q; exact ⟨⟨.bool_tuple a t hA,.tuple_bool a t hA⟩,⟨.bool_tuple a t hA,.bool_tuple a t hA⟩,.tuple_bool a t hA,.tuple_bool a t hA⟩
 | int a=>obtain ⟨u,rfl⟩:=q; exact ⟨⟨.int_tuple a u t hA,.tuple_int a u t hA⟩,⟨.int_tuple a u t hA,.int_tuple a u t hA⟩,.tuple_int a u t hA,.tuple_int a u t hA⟩
 | str a=>obtain ⟨u,rfl⟩:=q; exact ⟨⟨.str_tuple a u t hA,.tuple_str a u t hA⟩,⟨.str_tuple a u t hA,.str_tuple a u t hA⟩,.tuple_str a u t hA,.tuple_str a u t hA⟩
 | _=>cases f
theorem wJ {d:Dt} {v:Value} {b:Addr} {its:Array Value} (f:wu d=true) (q:RelV (vD d) v) (t:s.heap.IsList b its) (hA:A.units<cLine):
  (EqAt A s v (.ref b) false∧EqAt A s (.ref b) v false)∧(RcAt A s v (.ref b) false∧RcNeAt A s v (.ref b) true)∧RcAt A s (.ref b) v false∧RcNeAt A s (.ref b) v true:=by
 cases d with
 | non=>cases q; exact ⟨⟨.none_list t hA,.list_none t hA⟩,⟨.none_list t hA,.none_list t hA⟩,.list_none t hA,.list_none t hA⟩
 | bl a=>cases q; exact ⟨⟨.bool_list a t hA,.list_bool a t hA⟩,⟨.bool_list a t hA,.bool_list a t hA⟩,.list_bool a t hA,.list_bool a t hA⟩
 | int a=>obtain ⟨u,rfl⟩:=q; exact ⟨⟨.int_list a u t hA,.list_int a u t hA⟩,⟨.int_list a u t hA,.int_list a u t hA⟩,.list_int a u t hA,.list_int a u t hA⟩
 | str a=>obtain ⟨u,rfl⟩:=q; exact ⟨⟨.str_list a u t hA,.list_str a u t hA⟩,⟨.str_list a u t hA,.str_list a u t hA⟩,.list_str a u t hA,.list_str a u t hA⟩
 | _=>cases f
theorem d8 {d e:Dt} {v u:Value} (f1:wu d=true) (f2:wu e=true) (q1:RelV (vD d) v) (q2:RelV (vD e) u):RcAt A s v u (eqD d e)∧RcNeAt A s v u (!eqD d e):=by
 cases d with
 | non=>
  cases q1
  cases e with
  | non=>cases q2; exact ⟨.none_none,.none_none⟩
  | bl b=>cases q2; exact ⟨.none_bool b,.none_bool b⟩
  | int b=>obtain ⟨t,rfl⟩:=q2; exact ⟨.none_int b t,.none_int b t⟩
  | str b=>obtain ⟨t,rfl⟩:=q2; exact ⟨.none_str b t,.none_str b t⟩
  | _=>cases f2
 | bl a=>
  cases q1
  cases e with
  | non=>cases q2; exact ⟨.bool_none a,.bool_none a⟩
  | bl b=>cases q2; exact ⟨.bool_bool a b,.bool_bool a b⟩
  | int b=>obtain ⟨t,rfl⟩:=q2; exact ⟨.bool_int a b t,.bool_int a b t⟩
  | str b=>obtain ⟨t,rfl⟩:=q2; exact ⟨.bool_str a b t,.bool_str a b t⟩
  | _=>cases f2
 | int a=>
  obtain ⟨ta,rfl⟩:=q1
  cases e with
  | non=>cases q2; exact ⟨.int_none a ta,.int_none a ta⟩
  | bl b=>cases q2; exact ⟨.int_bool a ta b,.int_bool a ta b⟩
  | int b=>obtain ⟨t,rfl⟩:=q2; exact ⟨.int_int a ta b t,.int_int a ta b t⟩
  | str b=>obtain ⟨t,rfl⟩:=q2; exact ⟨.int_str a ta b t,.int_str a ta b t⟩
  | _=>cases f2
 | str a=>
  obtain ⟨ta,rfl⟩:=q1
  cases e with
  | non=>cases q2; exact ⟨.str_none a ta,.str_none a ta⟩
  | bl b=>cases q2; exact ⟨.str_bool a ta b,.str_bool a ta b⟩
  | int b=>obtain ⟨t,rfl⟩:=q2; exact ⟨.str_int a ta b t,.str_int a ta b t⟩
  | str b=>obtain ⟨t,rfl⟩:=q2; exact ⟨.str_str a ta b t,.str_str a ta b t⟩
  | _=>cases f2
 | _=>cases f1
end
theorem vB {n:Nat} {A:Around} {ds es:List Dt} {xs ys:List V} {its its2:List Value}
  (ih:∀ {d e:Dt} {x y:V} {v u:Value},okE n d=true→okE n e=true→Is K H d x→Is K H e y→RelV x v→RelV y u→SeqAt.EqAt A s v u (eqD d e))
  (hd:∀ d∈ds,okE n d=true) (he:∀ d∈es,okE n d=true) (a1:AllIs K H ds xs) (a2:AllIs K H es ys) (r1:Vals xs its) (r2:Vals ys its2):
  ∀ j (h1:j<its.toArray.size) (h2:j<its2.toArray.size),SeqAt.EqAt A s its.toArray[j] its2.toArray[j] (eqD (ds.getD j .non) (es.getD j .non)):=by
 intro j h1 h2
 have l1:=a1.length.trans r1.length
 have l2:=a2.length.trans r2.length
 rw [List.size_toArray] at h1 h2
 have g1:ds[j]? = some ds[j]:=List.getElem?_eq_getElem (by omega)
 have g2:es[j]? = some es[j]:=List.getElem?_eq_getElem (by omega)
 obtain ⟨x,e1,i1⟩:=a1.get g1
 obtain ⟨y,e2,i2⟩:=a2.get g2
 obtain ⟨v,e3,q1⟩:=r1.get e1
 obtain ⟨u,e4,q2⟩:=r2.get e2
 have f1:ds.getD j .non=ds[j]:=by rw [List.getD_eq_getElem?_getD,g1]; rfl
 have f2:es.getD j .non=es[j]:=by rw [List.getD_eq_getElem?_getD,g2]; rfl
 have f3:its.toArray[j]=v:=by
  have z:its[j]? = some its[j]:=List.getElem?_eq_getElem h1
  rw [z] at e3
  simpa using Option.some.inj e3
 have f4:its2.toArray[j]=u:=by
  have z:its2[j]? = some its2[j]:=List.getElem?_eq_getElem h2
  rw [z] at e4
  simpa using Option.some.inj e4
 rw [f1,f2,f3,f4]
 exact ih (hd _ (List.mem_of_getElem? g1)) (he _ (List.mem_of_getElem? g2)) i1 i2 q1 q2
theorem Vp (I:Inv X pins σ H s):∀ (n:Nat) {A:Around} {d e:Dt} {x y:V} {v u:Value},A.units+n<cLine→okE n d=true→okE n e=true→Is X.K H d x→Is X.K H e y→RelV x v→RelV y u→SeqAt.EqAt A s v u (eqD d e):=by
 intro n
 induction n with
 | zero=>
  intro A d e x y v u hu h1 h2 i1 i2 q1 q2
  rcases y4 h1 with f1 | ⟨m,ds,z,_⟩
  ·rcases y4 h2 with f2 | ⟨m,ds,z,_⟩
   ·rw [vI f1 f2]
    rw [zO f1 i1] at q1
    rw [zO f2 i2] at q2
    exact j5 q1 q2 (ur f1) (ur f2)
   ·cases z
  ·cases z
 | succ n ih=>
  intro A d e x y v u hu h1 h2 i1 i2 q1 q2
  have hA:A.units<cLine:=by omega
  have hu':A.in1.units+n<cLine:=by show A.units+1+n<cLine; omega
  rcases y4 h1 with f1 | ⟨m,ds,z,hk,hd⟩
  ·rw [zO f1 i1] at q1
   rcases y4 h2 with f2 | ⟨m,es,z,rfl | rfl,he⟩
   ·rw [vI f1 f2]
    rw [zO f2 i2] at q2
    exact j5 q1 q2 (ur f1) (ur f2)
   ·obtain ⟨b,ys,rfl,hy,hb⟩:=is_tup.mp i2
    obtain ⟨its2,r2,t2,_⟩:=I.tuple (.of hy)
    cases q2
    rw [(ww f1).1]
    exact (wI f1 q1 t2 hA).1.1
   ·obtain ⟨b,ys,rfl,hy,hb⟩:=is_lst.mp i2
    obtain ⟨its2,r2,t2,_⟩:=I.list (.of hy)
    cases q2
    rw [(ww f1).2.2.1]
    exact (wJ f1 q1 t2.isList hA).1.1
  ·cases z
   rcases hk with rfl | rfl
   ·obtain ⟨a,xs,rfl,hx,ha⟩:=is_tup.mp i1
    obtain ⟨its,r1,t1,_⟩:=I.tuple (.of hx)
    cases q1
    rcases y4 h2 with f2 | ⟨m,es,z,rfl | rfl,he⟩
    ·rw [zO f2 i2] at q2
     rw [(ww f2).2.1]
     exact (wI f2 q2 t1 hA).1.2
    ·cases z
     have i2':=i2
     obtain ⟨b,ys,rfl,hy,hb⟩:=is_tup.mp i2
     obtain ⟨its2,r2,t2,_⟩:=I.tuple (.of hy)
     cases q2
     by_cases hab:a=b
     ·subst hab
      rw [ml _ h1 h2 i1 i2']
      exact SeqAt.EqAt.same _
     ·have q:=SeqAt.RcAt.tuples t1 t2 hA (vB (fun {d e x y v u}=>ih (A:=A.in1) hu') hd he ha hb r1 r2)
      rw [List.size_toArray,List.size_toArray,← r1.length,← r2.length,← ha.length,← hb.length,xi] at q
      rw [vH]
      exact .of_refs hab q
    ·obtain ⟨b,ys,rfl,hy,hb⟩:=is_lst.mp i2
     obtain ⟨its2,r2,t2,_⟩:=I.list (.of hy)
     cases q2
     exact SeqAt.EqAt.tuple_list t1 t2.isList hA
   ·obtain ⟨a,xs,rfl,hx,ha⟩:=is_lst.mp i1
    obtain ⟨its,r1,t1,_⟩:=I.list (.of hx)
    cases q1
    rcases y4 h2 with f2 | ⟨m,es,z,rfl | rfl,he⟩
    ·rw [zO f2 i2] at q2
     rw [(ww f2).2.2.2]
     exact (wJ f2 q2 t1.isList hA).1.2
    ·obtain ⟨b,ys,rfl,hy,hb⟩:=is_tup.mp i2
     obtain ⟨its2,r2,t2,_⟩:=I.tuple (.of hy)
     cases q2
     exact SeqAt.EqAt.list_tuple t1.isList t2 hA
    ·cases z
     have i2':=i2
     obtain ⟨b,ys,rfl,hy,hb⟩:=is_lst.mp i2
     obtain ⟨its2,r2,t2,_⟩:=I.list (.of hy)
     cases q2
     by_cases hab:a=b
     ·subst hab
      rw [ml _ h1 h2 i1 i2']
      exact SeqAt.EqAt.same _
     ·rw [uZ]
      have l1:=ha.length.trans r1.length
      have l2:=hb.length.trans r2.length
      by_cases hl:ds.length=es.length
      ·have q:=SeqAt.RcAt.lists t1.isList t2.isList (by rw [List.size_toArray,List.size_toArray]; omega) hA (vB (fun {d e x y v u}=>ih (A:=A.in1) hu') hd he ha hb r1 r2)
       rw [List.size_toArray,← l1,p9 hl] at q
       exact .of_refs hab q
      ·have q:=SeqAt.RcAt.lists_lengths t1.isList t2.isList (by rw [List.size_toArray,List.size_toArray,bne_iff_ne]; omega) hA
       rw [rG hl]
       exact .of_refs hab q
theorem cz (I:Inv X pins σ H s) {n:Nat} {A:Around} {d e:Dt} {x y:V} {v u:Value} (hu:A.units+(n+1)<cLine) (h1:okE (n+1) d=true) (h2:okE (n+1) e=true) (i1:Is X.K H d x) (i2:Is X.K H e y) (q1:RelV x v) (q2:RelV y u):
  SeqAt.RcAt A s v u (eqD d e)∧SeqAt.RcNeAt A s v u (!eqD d e):=by
 have hA:A.units<cLine:=by omega
 have hu':A.in1.units+n<cLine:=by show A.units+1+n<cLine; omega
 have ih:=fun {d e:Dt} {x y:V} {v u:Value}=>Vp I n (A:=A.in1) (d:=d) (e:=e) (x:=x) (y:=y) (v:=v) (u:=u) hu'
 rcases y4 h1 with f1 | ⟨m,ds,z,hk,hd⟩
 ·rw [zO f1 i1] at q1
  rcases y4 h2 with f2 | ⟨m,es,z,rfl | rfl,he⟩
  ·rw [zO f2 i2] at q2
   exact d8 f1 f2 q1 q2
  ·obtain ⟨b,ys,rfl,hy,hb⟩:=is_tup.mp i2
   obtain ⟨its2,r2,t2,_⟩:=I.tuple (.of hy)
   cases q2
   rw [(ww f1).1]
   exact (wI f1 q1 t2 hA).2.1
  ·obtain ⟨b,ys,rfl,hy,hb⟩:=is_lst.mp i2
   obtain ⟨its2,r2,t2,_⟩:=I.list (.of hy)
   cases q2
   rw [(ww f1).2.2.1]
   exact (wJ f1 q1 t2.isList hA).2.1
 ·cases z
  rcases hk with rfl | rfl
  ·obtain ⟨a,xs,rfl,hx,ha⟩:=is_tup.mp i1
   obtain ⟨its,r1,t1,_⟩:=I.tuple (.of hx)
   cases q1
   rcases y4 h2 with f2 | ⟨m,es,z,rfl | rfl,he⟩
   ·rw [zO f2 i2] at q2
    rw [(ww f2).2.1]
    exact (wI f2 q2 t1 hA).2.2
   ·cases z
    obtain ⟨b,ys,rfl,hy,hb⟩:=is_tup.mp i2
    obtain ⟨its2,r2,t2,_⟩:=I.tuple (.of hy)
    cases q2
    have it:=vB (A:=A.in1) ih hd he ha hb r1 r2
    have q:=SeqAt.RcAt.tuples t1 t2 hA it
    have q':=SeqAt.RcNeAt.tuples t1 t2 hA it
    rw [List.size_toArray,List.size_toArray,← r1.length,← r2.length,← ha.length,← hb.length,xi] at q q'
    rw [vH]
    exact ⟨q,q'⟩
   ·obtain ⟨b,ys,rfl,hy,hb⟩:=is_lst.mp i2
    obtain ⟨its2,r2,t2,_⟩:=I.list (.of hy)
    cases q2
    exact ⟨SeqAt.RcAt.tuple_list t1 t2.isList hA,SeqAt.RcNeAt.tuple_list t1 t2.isList hA⟩
  ·obtain ⟨a,xs,rfl,hx,ha⟩:=is_lst.mp i1
   obtain ⟨its,r1,t1,_⟩:=I.list (.of hx)
   cases q1
   rcases y4 h2 with f2 | ⟨m,es,z,rfl | rfl,he⟩
   ·rw [zO f2 i2] at q2
    rw [(ww f2).2.2.2]
    exact (wJ f2 q2 t1.isList hA).2.2
   ·obtain ⟨b,ys,rfl,hy,hb⟩:=is_tup.mp i2
    obtain ⟨its2,r2,t2,_⟩:=I.tuple (.of hy)
    cases q2
    exact ⟨SeqAt.RcAt.list_tuple t1.isList t2 hA,SeqAt.RcNeAt.list_tuple t1.isList t2 hA⟩
   ·cases z
    obtain ⟨b,ys,rfl,hy,hb⟩:=is_lst.mp i2
    obtain ⟨its2,r2,t2,_⟩:=I.list (.of hy)
    cases q2
    rw [uZ]
    have l1:=ha.length.trans r1.length
    have l2:=hb.length.trans r2.length
    by_cases hl:ds.length=es.length
    ·have it:=vB (A:=A.in1) ih hd he ha hb r1 r2
     have q:=SeqAt.RcAt.lists t1.isList t2.isList (by rw [List.size_toArray,List.size_toArray]; omega) hA it
     have q':=SeqAt.RcNeAt.lists t1.isList t2.isList (by rw [List.size_toArray,List.size_toArray]; omega) hA it
     rw [List.size_toArray,← l1,p9 hl] at q q'
     exact ⟨q,q'⟩
    ·have q:=SeqAt.RcAt.lists_lengths t1.isList t2.isList (by rw [List.size_toArray,List.size_toArray,bne_iff_ne]; omega) hA
     have q':=SeqAt.RcNeAt.lists_lengths t1.isList t2.isList (by rw [List.size_toArray,List.size_toArray,bne_iff_ne]; omega) hA
     rw [rG hl]
     exact ⟨q,q'⟩
def gEq:Dt→Dt→(Dt→Prop)→Prop:=fun d e Q=>okE 40 d=true∧okE 40 e=true∧Q (.bl (eqD d e))
def gNe:Dt→Dt→(Dt→Prop)→Prop:=fun d e Q=>okE 40 d=true∧okE 40 e=true∧Q (.bl (!eqD d e))
theorem wP {k:Nat} (hr:Room k X.A):DOp X (compareOp .Eq) gEq:=by
 refine ⟨fun x y H Q=>∃ d e,Is X.K H d x∧Is X.K H e y∧okE 40 d=true∧okE 40 e=true∧Q (.bl (eqD d e)) H,fun pins s σ H x y v u Q I rx ry h=>?_,fun H x y d e Q i1 i2 q R k=>⟨d,e,Is.mono0 H.sub i1,Is.mono0 H.sub i2,q.1,q.2.1,k _ _ H (Le.refl H) (is_bl.mpr rfl) q.2.2⟩⟩
 obtain ⟨d,e,i1,i2,h1,h2,q⟩:=h
 have hu:=hr.units
 exact (cz (n:=39) I (A:=X.A) (by omega) h1 h2 i1 i2 rx ry).1 _ _ _ _ ⟨.bl _,H,I,rfl,q⟩
theorem oZ {k:Nat} (hr:Room k X.A):DOp X (compareOp .NotEq) gNe:=by
 refine ⟨fun x y H Q=>∃ d e,Is X.K H d x∧Is X.K H e y∧okE 40 d=true∧okE 40 e=true∧Q (.bl (!eqD d e)) H,fun pins s σ H x y v u Q I rx ry h=>?_,fun H x y d e Q i1 i2 q R k=>⟨d,e,Is.mono0 H.sub i1,Is.mono0 H.sub i2,q.1,q.2.1,k _ _ H (Le.refl H) (is_bl.mpr rfl) q.2.2⟩⟩
 obtain ⟨d,e,i1,i2,h1,h2,q⟩:=h
 have hu:=hr.units
 exact (cz (n:=39) I (A:=X.A) (by omega) h1 h2 i1 i2 rx ry).2 _ _ _ _ ⟨.bl _,H,I,rfl,q⟩
end
end OD
namespace OD
open PySem PySem.Spec PyProof.Rows L2
section
variable {X:Cx} {pins:List (Addr × Obj)} {σ:St} {H:Hp} {s:Shared} {scope:Scope} {x:Str} {fp:List Addr}
end
end OD
namespace OD
variable {Z:Hp}
open PySem PySem.Spec PyProof.Rows L2
section
variable {X:Cx} {pins:List (Addr × Obj)} {σ:St} {H:Hp} {s:Shared} {h':Heap}
theorem cG {ch:List Addr} (hn:∀ b∈ch,wR X pins H b):∀ b∈ch,(b∈X.ex∨X.s₀.heap.objs.size≤b)∧b≠X.env.locals∧(∀ x c,X.env.cells.lookup x=some c→c≠b)∧∀ p∈X.pn++pins,p.1≠b:=fun b hb=>by
 obtain ⟨_,h2,_,h4,h5,h6⟩:=hn b hb
 exact ⟨h4,h2,h5,h6⟩
theorem o7 {ch:List Addr} {t':Nat} (I:Inv X pins σ H s) (hn:∀ b∈ch,wR X pins H b) (k:∀ b o,b∉ch→s.heap.get? b=some o→h'.get? b=some o):Inv X pins σ H { s with heap:=h',toks:=t' }:=by
 have nit:∀ b u,H b=some u→b∉ch:=fun b u e z=>by rw [(hn b z).1] at e; cases e
 refine I.step (g':=s.gens) (d':=s.drawn) (ch:=ch) (cG hn) (fun b o _ _ hc e _=>k b o hc e) (fun b o _ _ hc e _=>⟨o.slots,k b o hc e⟩) (fun _ _ _ _ n=>n)
  (fun b o hc e=>⟨o,k b o hc e⟩) (fun _ _ e=>e) (fun _ _ _ e=>e) (fun b ps e=>⟨#[],by rw [e]; simp⟩) (fun m hm=>?_) (fun b u e=>?_) I.bare
 ·obtain ⟨o,es,ep,ho,r⟩:=hm
  exact ⟨o,es,ep,k _ o (fun z=>(hn _ z).2.1 rfl) ho,r⟩
 ·refine (I.hok b u e).stay (fun c v hc q=>k c v ?_ q) (fun _ q=>q) fun _ _ q=>q
  rcases hc with z | z
  ·rw [z]; exact nit b u e
  ·exact nit c _ z
theorem pW {ch:List Addr} {t':Nat} {T:Addr} {xs:List V} (I:Inv X pins σ H s) (hn:∀ b∈ch,wR X pins H b) (k:∀ b o,b∉ch→s.heap.get? b=some o→h'.get? b=some o) (hT:s.heap.objs.size≤T)
  (new:ObjOk X.prog X.w (upd H T (.tup xs)) h' T (.tup xs)):Inv X pins σ (upd H T (.tup xs)) { s with heap:=h',toks:=t' }:=by
 have nit:∀ b u,H b=some u→b∉ch:=fun b u e z=>by rw [(hn b z).1] at e; cases e
 have fT:H T=none:=I.hok.fresh hT
 have old:∀ b o,s.heap.get? b=some o→b≠T:=fun b o e=>Nat.ne_of_lt (Nat.lt_of_lt_of_le (Heap.lt_size e) hT)
 have up:∀ b u,H b=some u→upd H T (.tup xs) b=some u:=fun b u e=>(zr (zS e fT)).trans e
 refine I.step (g':=s.gens) (d':=s.drawn) (ch:=ch) (cG hn) (fun b o _ _ hc e _=>k b o hc e) (fun b o _ _ hc e _=>⟨o.slots,k b o hc e⟩) (fun b o _ e n=>(zr (old b o e)).trans n)
  (fun b o hc e=>⟨o,k b o hc e⟩) (fun b xs e=>up b _ e) (fun b o u e=>up b _ e) (fun b ps e=>⟨#[],by rw [up b _ e]; simp⟩) (fun m hm=>?_) (fun b u e=>?_) I.bare
 ·obtain ⟨o,es,ep,ho,r⟩:=hm
  exact ⟨o,es,ep,k _ o (fun z=>(hn _ z).2.1 rfl) ho,r⟩
 ·by_cases hb:b=T
  ·subst hb
   rw [zp] at e
   cases e
   exact new
  ·rw [zr hb] at e
   refine (I.hok b u e).stay (fun c v hc q=>k c v ?_ q) (fun c q=>up c _ q) fun c ys q=>up c _ q
   rcases hc with z | z
   ·rw [z]; exact nit b u e
   ·exact nit c _ z
end
section
variable {X:Cx}
end
section
variable {X:Cx} {fr:Fr} {ta:DTA} {tb:DTS} {pos:Pos}
theorem jF {K:PySem.W.Frag} {W1:Vw} {d:Dt} {v:V} {ds:List Dt} (i1:Is K W1.g d v) (el:yO d=some ds):∃ a xs,v=.ref a∧(∀ W2:Vw,Same W1.g W2.g→SqL K W2.h a xs)∧AllIs K W1.g ds xs:=by
 cases d with
 | lst es=>
  obtain rfl:es=ds:=Option.some.inj el
  obtain ⟨a,xs,rfl,h1,h2⟩:=is_lst.mp i1
  exact ⟨a,xs,rfl,fun W2 s2=>.of (W2.sub _ _ (s2 _ _ h1)),h2⟩
 | scr ns=>
  obtain rfl:ns.map Dt.int=ds:=Option.some.inj el
  obtain ⟨a,rfl,h1⟩:=is_scr.mp i1
  exact ⟨a,_,rfl,fun W2 s2=>W2.sub.seq (s2.seq h1),AllIs.ints⟩
 | _=>cases el
def iB (tl te:DTE):DTE:=fun ρ Q=>tl ρ fun d=>∃ (ds:List Dt) (Pv:Nat→List Dt→Prop),yO d=some ds∧ds.length≤100000∧Pv 0 []∧
 (∀ i e es,ds[i]? = some e→Pv i es→te [.some e] fun y=>Pv (i+1) (es++[y]))∧∀ es,Pv ds.length es→Q (.lst es)
def jI (K:PySem.W.Frag) (t:DTE):TE:=fun σ H R=>∃ (F:Hp) (ρ:DS) (W:Vw) (Q:Dt→Prop),W.h=H∧Rl K (fun _=>none) F W ρ σ∧t ρ Q∧∀ d v W',Le W W'→Is K W'.g d v→Q d→R v W'.h
theorem DE.up {e:Expr} {t:DTE} (h:DE X e t) (hz:X.stack.length=X.outer.length:=by rfl):PE X e (jI X.K t):=by
 obtain ⟨te,p,l⟩:=h
 intro pins s σ H R I q
 obtain ⟨F,ρ,W,Q,rfl,r,h,k⟩:=q
 have r':Rl X.K (Zx X) F W ρ σ:=by unfold Zx; rw [if_pos (Or.inl hz)]; exact r
 exact p pins s σ W.h R I (l ρ σ W Q r' h R k)
theorem n6 {K:PySem.W.Frag} {t:DTE}:LiE K (fun _=>none) (jI K t) t:=fun ρ σ H Q r h R k=>⟨_,ρ,H,Q,rfl,r,h,k⟩
theorem LiF.le {K:PySem.W.Frag} {te:TE} {t:DTE} (l:LiF K Z te t):LiE K Z te t:=fun ρ σ H Q r h R k=>l ρ σ H Q r h R fun es q xs H' s h0 h1 h2 i z=>k (.lst es) (.ref q) (H'.frz q _ h1) (um s h0 h1 h2) (is_lst.mpr ⟨q,xs,rfl,zp,AllIs.mono0 (zM h2 _) i⟩) z
variable {scope:Scope} {x:Str} {elt iter:Expr} {px:Pos} {tl te:DTE}
end
end OD
namespace OD
variable {Z:Hp}
open PySem PySem.Spec PyProof.Rows L2
def Ite (K:PySem.W.Frag) (l:Addr):It:=
 ⟨fun i H=>∃ xs x,SqL K H l xs∧xs[i]? = some x,
  fun i H v H'=>∃ T x,v=.ref T∧H T=none∧H'=upd H T (.tup [.int i,x])∧∀ xs,SqL K H l xs→xs[i]? = some x,
  fun i H=>∃ xs,SqL K H l xs∧xs.length≤i⟩
def c6 (l e it:Addr) (i:Nat) (h:Heap):Prop:=(∃ old,IsEnum h e it (i:Int) old)∧h.IsListIter it l i
theorem mQ {P:Program} {w:World} {K:PySem.W.Frag} {elts:List Expr} {x1} {tpos:Pos} (l e it:Addr) (hne:e≠it):nE P w K (.Tuple elts x1 tpos) (Ite K l) [e,it] e (c6 l e it) where
 mem:=by simp
 obj:=fun i h ⟨⟨old,h1⟩,⟨o4,e4,c4,d4⟩⟩ b hb=>by
  simp only [List.mem_cons,List.not_mem_nil,or_false] at hb
  rcases hb with rfl | rfl
  ·exact ⟨_,h1,fun v z=>by cases z⟩
  ·exact ⟨_,e4,fun v z=>by rw [d4] at z; cases z⟩
 keep:=fun i h h' ⟨⟨old,h1⟩,⟨o4,e4,c4⟩⟩ k=>⟨⟨old,k e (by simp) _ h1⟩,⟨o4,k it (by simp) _ e4,c4⟩⟩
 item:=fun X hP hw hK hc i pins s σ H E I hfp ⟨⟨old,h1⟩,h4⟩ ⟨xs,x,q1,e1⟩=>by
  subst hP hw hK
  obtain ⟨its1,r1,p1,z1⟩:=I.list q1
  obtain ⟨u,eu,ru⟩:=r1.get e1
  refine wpAny_pyNext_enum_item h1 h4 p1.isList (x:=u) (by simpa using eu) hne fun h' a1 a2 a3 a4 a5=>?_
  refine ⟨_,rfl,wpAny_letOwnedTupleGo_enum a1 fun h'' b1 b2=>?_⟩
  have ne:∀ b∈[e,it],b≠s.heap.objs.size:=fun b hb=>by
   simp only [List.mem_cons,List.not_mem_nil,or_false] at hb
   obtain ⟨o4,e4,_⟩:=id h4
   rcases hb with rfl | rfl
   ·exact Nat.ne_of_lt (Heap.lt_size h1)
   ·exact Nat.ne_of_lt (Heap.lt_size e4)
  have en:e≠s.heap.objs.size:=ne e (by simp)
  have aT:=b2.extBut _ _ (Ne.symm en) a3
  have I':Inv X pins σ (upd H s.heap.objs.size (.tup [.int i,x])) { s with heap:=h'',toks:=s.toks+1 }:=pW (ch:=[e,it]) (t':=s.toks+1) I hfp (fun b o hb q=>by
    simp only [List.mem_cons,List.not_mem_nil,or_false,not_or] at hb
    exact b2.extBut b o hb.1 (a5 b o hb.1 hb.2 q)) (Nat.le_refl _) ⟨by show 2≤sizeLine; rw [sizeLine_eq]; decide,[.int i s.toks,u],.cons ⟨_,rfl⟩ (.cons ru .nil),_,aT,rfl,_,rfl⟩
  refine ⟨.ref s.heap.objs.size,_,I',rfl,⟨_,x,rfl,I.fresh,rfl,fun xs' q=>?_⟩,⟨⟨u,?_⟩,a2.extBut b2.extBut (Ne.symm hne)⟩,fun b hb=>?_⟩
  ·rw [I.list_inj q q1]; exact e1
  ·have:((i+1:Nat):Int)=(i:Int)+1:=by omega
   show IsEnum h'' e it ((i+1:Nat):Int) u
   rw [this]
   exact b1
  ·exact (zr (ne b hb)).trans (hfp b hb).1
 done:=fun X hP hw hK hc i pins s σ H E I hfp ⟨⟨old,h1⟩,h4⟩ ⟨xs,q1,e1⟩=>by
  subst hP hw hK
  obtain ⟨its1,r1,p1,z1⟩:=I.list q1
  refine wpAny_pyNext_enum_end (I.ok.hd hc) h1 h4 p1.isList ?_ fun h' hk=>⟨rfl,?_⟩
  ·have:=r1.length
   simp; omega
  ·exact o7 (ch:=[e,it]) (t':=s.toks) I hfp fun b o hb q=>by
    simp only [List.mem_cons,List.not_mem_nil,or_false,not_or] at hb
    exact hk b o hb.2 q
 self:=fun A i s Q E ⟨⟨old,h1⟩,_⟩ q=>wpAny_pyIter_enum h1 q
def Vl (K:PySem.W.Frag) (ta:TA):TI:=fun σ H R=>ta σ H fun vs H1=>∃ l xs,vs=[.ref l]∧SqL K H1 l xs∧R (Ite K l) H1
section
variable {X:Cx}
theorem lB:bootBuiltins "enumerate"=some (.type "enumerate"):=by decide +kernel
theorem gh {a:Expr} {ta:TA} {p pos:Pos} {elts:List Expr} {x1} {tpos:Pos} (hg:Gl X "enumerate") (hm:X.mg "enumerate"=none) (ha:PA X [a] ta) (hs:starEach [a] X.env=(false,eval a X.env)::starEach [] X.env:=by rfl)
  (hpl:(backTo pos (starEach [] X.env)).any (·.1)=false:=by rfl):PI X (.Tuple elts x1 tpos) (.Call (.Name "enumerate" p) [a] [] pos) (Vl X.K ta):=by
 intro pins s σ H R I h
 refine Call_ (xX I hg hm lB (PyProof.Rows.callWith_type1 (thn (ha pos pins s σ H _ I h) fun us s1 ⟨vs,H1,I1,r1,q1⟩=>?_) hs hpl))
 obtain ⟨l,xs,e,q1,q⟩:=q1
 subst e
 obtain ⟨u,rfl,ru⟩:=r1.one
 cases ru
 obtain ⟨its1,r1,p1,z1⟩:=I1.list q1
 refine call_enumerate_list p1.isList fun h' b1 b2 b3 b4=>?_
 have I2:Inv X pins σ H1 { s1 with heap:=h' }:=I1.kept (t':=s1.toks) b4
 refine wpAny_pyIter_enum b1 ⟨s1.heap.objs.size+1,[s1.heap.objs.size+1,s1.heap.objs.size],_,_,H1,rfl,I2,mQ l (s1.heap.objs.size+1) s1.heap.objs.size (Nat.succ_ne_self _),⟨⟨_,b1⟩,b2⟩,fun b hb=>?_,q⟩
 have hb':s1.heap.objs.size≤b:=by
  simp only [List.mem_cons,List.not_mem_nil,or_false] at hb
  rcases hb with rfl | rfl
  ·exact Nat.le_add_right _ _
  ·exact Nat.le_refl _
 have f:=I1.fpOk hb' (I1.hok.fresh hb')
 exact f
theorem jW {K:PySem.W.Frag} {l:Addr} {xs:List V} {g:TG} {tb:TS} {D:vk} {σ:St} {H:Hp} (Pv:Nat→St→Hp→Prop) (h0:Pv 0 σ H) (hl:∀ i σ H,Pv i σ H→SqL K H l xs)
  (hs:∀ (i:Nat) x T σ H,xs[i]? = some x→H T=none→Pv i σ H→g (.ref T) σ (upd H T (.tup [.int i,x])) fun σ2 H2=>tb { D with nx:=Pv (i+1),ct:=Pv (i+1),bk:=D.nx } σ2 H2) (hd:∀ σ H,Pv xs.length σ H→D.nx σ H):
  ∃ W:Nat→Nat→St→Hp→Prop,(∃ m,W 0 m σ H)∧∀ i m σ H,W i m σ H→
   ((Ite K l).stop i H∧D.nx σ H)∨((Ite K l).go i H∧∃ N:St→Hp→Prop,(∀ σ' H',N σ' H'→∃ m',m'<m∧W (i+1) m' σ' H')∧∀ x H',(Ite K l).yld i H x H'→g x σ H' fun σ2 H2=>tb { D with nx:=N,ct:=N,bk:=D.nx } σ2 H2):=by
 refine ⟨fun i m σ H=>m=xs.length - i∧i≤xs.length∧Pv i σ H,⟨_,rfl,Nat.zero_le _,h0⟩,?_⟩
 rintro i m σ H ⟨rfl,hi,p⟩
 have q1:=hl i σ H p
 by_cases hlt:i<xs.length
 ·have g1:xs[i]? = some xs[i]:=List.getElem?_eq_getElem hlt
  refine .inr ⟨⟨xs,xs[i],q1,g1⟩,Pv (i+1),fun σ' H' p'=>⟨xs.length - (i+1),by omega,rfl,hlt,p'⟩,fun v H' y=>?_⟩
  obtain ⟨T,x,rfl,hT,rfl,e1⟩:=y
  exact hs i x T σ H (e1 xs q1) hT p
 ·have e:i=xs.length:=by omega
  subst e
  exact .inl ⟨⟨xs,q1,Nat.le_refl _⟩,hd σ H p⟩
end
section
variable {X:Cx} {fr:Fr} {ta:DTA} {tb:DTS} {pos p0 p1 p2:Pos}
def VN (i j:Nat) (ta:DTA) (tb:DTS):DTS:=fun D ρ=>ta ρ fun ds=>∃ (d:Dt) (xs:List Dt) (Pv:Nat→DS→Prop),ds=[d]∧yO d=some xs∧Pv 0 ρ∧
 (∀ (n:Nat) x ρ',xs[n]? = some x→Pv n ρ'→tb { D with nx:=Pv (n+1),ct:=Pv (n+1),bk:=D.nx } ((ρ'.set i (.some (.int n))).set j (.some x)))∧∀ ρ',Pv xs.length ρ'→D.nx ρ'
theorem uv {i j:Nat} {x y:Str} {a:Expr} {body:List Stmt} {px py pt p0 pos1:Pos} {kt:Nat} (hc:X.calm=true) (hN:X.N.Nodup) (hi:X.N[i]? = some x) (hj:X.N[j]? = some y) (hx:Loc X.env.scope x) (hy:Loc X.env.scope y) (hp:PassesOwn (model X.prog X.w) X.A X.env X.xe)
  (hg:Gl X "enumerate") (hm:X.mg "enumerate"=none) (ha:DA X [a] ta) (hb:DSs X fr body tb) (hs:∀ z,foldedSetIterable (.Call (.Name "enumerate" p0) [a] [] pos1) X.env z=pure z:=by intro _; rfl)
  (hst:starEach [a] X.env=(false,eval a X.env)::starEach [] X.env:=by rfl) (hpl:(backTo pos1 (starEach [] X.env)).any (·.1)=false:=by rfl)
  (hf:X.fn x=true∨X.env.scope.names.lookup x=some .local:=by first | exact .inl rfl | exact .inr rfl | assumption) (hf2:X.fn y=true∨X.env.scope.names.lookup y=some .local:=by first | exact .inl rfl | exact .inr rfl | assumption):
  DSt X fr (.For (.Tuple [.Name x px,.Name y py] kt pt) (.Call (.Name "enumerate" p0) [a] [] pos1) body [] pos) (VN i j ta tb):=by
 obtain ⟨tt,p,l⟩:=ha
 obtain ⟨tbs,p2,l2⟩:=hb
 refine ⟨_,tN hp hc (gh hg hm p hst hpl) (ki hc (vq (z0 hN hi hx hf) (vq (z0 hN hj hy hf2) n0))) p2 hs,fun W0 G ρ σ W D D' at_ s h=>l ρ σ W _ at_.rl h _ fun ds vs W1 s1 i1 ⟨d,xs,Pv,ed,el1,h0,ht,hd⟩=>?_⟩
 subst ed
 obtain ⟨v1,rfl,j1⟩:=i1.one
 have hg1:Same G W1.g:=at_.gs.trans s1.g
 obtain ⟨l1,us,rfl,hq1,ha1⟩:=jF j1 el1
 refine ⟨l1,us,rfl,hq1 W1 (Same.refl _),jW (K:=X.K) (xs:=us) (fun n=>InL X.K (Zx X) W0 W1 (Pv n)) ⟨ρ,W1,rfl,(at_.step s1).now,h0⟩ (fun n σ' H' ⟨_,W2,e2,a2,_⟩=>e2 ▸ hq1 W2 a2.gs) ?_ ?_⟩
 ·rintro n u T σ' _ hu hT ⟨ρ',W2,rfl,a2,hp2⟩
  obtain ⟨x',ex,ix⟩:=ha1.get' hu
  have s3:=ul hT (.tup [.int n,u])
  have a3:=a2.step s3
  refine ⟨T,_,rfl,.of zp,rfl,.int n,[u],rfl,u,[],rfl,rfl,?_⟩
  exact l2 W0 W1.g _ _ (W2.new T (.tup [.int n,u])) { D with nx:=Pv (n+1),ct:=Pv (n+1),bk:=D.nx } _ ((a3.set i (is_int.mpr rfl)).set j (Is.mono0 a3.gs ix)) (xD s hg1) (ht n x' ρ' ex hp2)
 ·rintro σ' _ ⟨ρ',W2,rfl,a2,hp2⟩
  exact s.nx ρ' σ' W2 (a2.weak hg1) (hd ρ' (by rw [ha1.length]; exact hp2))
theorem ii {j:Nat} {x:Str} {a b:Expr} {body:List Stmt} {px p0 pos1:Pos} (hc:X.calm=true) (hN:X.N.Nodup) (hi:X.N[j]? = some x) (hx:Loc X.env.scope x) (hp:PassesOwn (model X.prog X.w) X.A X.env X.xe)
  (hg:Gl X "range") (hm:X.mg "range"=none) (h:DA X [a,b] ta) (hb:DSs X fr body tb) (hs:∀ x,foldedSetIterable (.Call (.Name "range" p0) [a,b] [] pos1) X.env x=pure x:=by intro _; rfl)
  (hst:starEach [a,b] X.env=[(false,eval a X.env),(false,eval b X.env)]:=by rfl) (hst2:starEach [b] X.env=[(false,eval b X.env)]:=by rfl)
  (hf:X.fn x=true∨X.env.scope.names.lookup x=some .local:=by first | exact .inl rfl | exact .inr rfl | assumption):DSt X fr (.For (.Name x px) (.Call (.Name "range" p0) [a,b] [] pos1) body [] pos) (XF j ta tb):=by
 obtain ⟨tt,p,l⟩:=h
 obtain ⟨tbs,p2,l2⟩:=hb
 refine ⟨_,tN hp hc (mZ hg hm p hst hst2) (z0 hN hi hx hf) p2 hs,fun W0 G ρ σ W D D' at_ s h=>l ρ σ W _ at_.rl h _ fun ds vs W1 s1 i1 ⟨m,n,Pv,ed,m1,m2,n1,n2,h0,ht,hd⟩=>?_⟩
 subst ed
 obtain ⟨v1,v2,rfl,j1,j2⟩:=i1.two
 have hg1:Same G W1.g:=at_.gs.trans s1.g
 refine ⟨m,n,by rw [is_int.mp j1,is_int.mp j2],⟨m1,m2,n1,n2⟩,rE (lo:=m) (n:=(n - m).toNat) (fun i=>InL X.K (Zx X) W0 W1 (Pv i)) ⟨ρ,W1,rfl,(at_.step s1).now,h0⟩ ?_ ?_⟩
 ·rintro i σ' _ hi ⟨ρ',W2,rfl,a2,hp2⟩
  exact l2 W0 W1.g _ _ W2 { D with nx:=Pv (i+1),ct:=Pv (i+1),bk:=D.nx } _ (a2.set j (is_int.mpr rfl)) (xD s hg1) (ht i ρ' hi hp2)
 ·rintro σ' _ ⟨ρ',W2,rfl,a2,hp2⟩
  exact s.nx ρ' σ' W2 (a2.weak hg1) (hd ρ' hp2)
def UI (ta:DTA):DTE:=fun ρ Q=>ta ρ fun ds=>∃ i j,ds=[.int i,.int j]∧Q (.int (if j<i then j else i))
theorem Xv {a b:Expr} (hc:X.calm=true) (hg:Gl X "min") (hm:X.mg "min"=none) (ha:DA X [a,b] ta) (hs:starEach [a,b] X.env=(false,eval a X.env)::starEach [b] X.env:=by rfl) (hpl:(backTo pos (starEach [b] X.env)).any (·.1)=false:=by rfl):
  DE X (.Call (.Name "min" p0) [a,b] [] pos) (UI ta):=by
 obtain ⟨te,p1,l1⟩:=ha
 refine ⟨_,xc (lv hc) hg hm (by decide +kernel) p1 (by decide) (by decide) hs hpl,fun ρ σ H Q r h R k=>l1 ρ σ H _ r h _ fun ds vs H1 s1 i1 ⟨i,j,ed,q⟩=>?_⟩
 subst ed
 obtain ⟨v1,v2,rfl,j1,j2⟩:=i1.two
 exact ⟨i,j,by rw [is_int.mp j1,is_int.mp j2],k _ _ H1 s1 (is_int.mpr rfl) q⟩
structure sA (K:PySem.W.Frag) (C:Addr):Prop where
 cl:Cls K C
 ha:PySem.W.findIn K (.ref C) "__class__"=some (some (.builtin "object.__class__"))
 hn:PySem.W.specialIn K (.builtin "object.__class__") "__get__"=some (some (.builtin "getset_descriptor.__get__"))
 htk:PySem.W.takesIn K (.builtin "object.__class__")=some true
 hm:PySem.W.mroIn K C (.type "object")=some true
theorem lA:CallR X (.builtin "isinstance") (fun xs H Q=>∃ v D tv b,xs=[v,.ref D]∧vh X.K H v tv∧PySem.W.kitOne X.K tv (.ref D)=some b∧Q (.bl b) H):=by
 intro pins s σ H xs us Q I r h
 obtain ⟨v,D,tv,b,rfl,hty,hk,q⟩:=h
 cases r with
 | cons r1 r2=>
  cases r2 with
  | cons r3 r4=>
   cases r4
   cases r3
   exact rC I r1 hty hk fun tk=>⟨.bl b,H,I.tok _,rfl,q⟩
def VJ (K:PySem.W.Frag) (D:Addr) (ta:DTE):DTE:=fun ρ Q=>ta ρ fun d=>∃ C f n b,d=.way C f n∧sA K C∧PySem.W.kitOne K (.ref C) (.ref D)=some b∧Q (.bl b)
theorem vO {a:Expr} {t:DTE} {y:Str} {p':Pos} {D:Addr} (hm:X.mg "isinstance"=none) (hmc:X.mg y=some (.ref D)) (ha:DE X a t)
  (hg:Gl X "isinstance":=by rfl) (hgc:Gl X y:=by rfl) (hdy:(y == ("__debug__":Str))=false:=by decide)
  (hs:starEach [a,.Name y p'] X.env=(false,eval a X.env)::starEach [.Name y p'] X.env:=by rfl) (hs2:starEach [.Name y p'] X.env=(false,eval (.Name y p') X.env)::starEach [] X.env:=by rfl)
  (hpl:(backTo pos (starEach [.Name y p'] X.env)).any (·.1)=false:=by rfl):
  DE X (.Call (.Name "isinstance" p0) [a,.Name y p'] [] pos) (VJ X.K D t):=by
 obtain ⟨te,p1,l1⟩:=ha
 have pc:PE X (.Name y p') (tC (.ref D)):=gk hgc hmc rfl hdy
 refine ⟨_,xc lA hg hm boot_isinstance (zT p1 (zT pc yA hs2) hs) (by decide) (by decide) hs hpl,fun ρ σ H Q r h R k=>l1 ρ σ H _ r h _ fun d v H1 s1 i1 ⟨C,f,n,b,ed,ok,e,q⟩=>?_⟩
 subst ed
 obtain ⟨p,dx,rfl,hp⟩:=is_way.mp i1
 exact ⟨_,D,_,b,rfl,.ins (H1.sub _ _ hp) ok.cl ok.ha ok.hn ok.htk ok.hm,e,k _ _ H1 s1 (is_bl.mpr rfl) q⟩
end
end OD
namespace OD
variable {Z:Hp}
open PySem PySem.Spec PyProof.Rows L2
def Itd (lo:Int) (n:Nat):It:=⟨fun i _=>i<n,fun i H x H'=>H'=H∧x=.int (lo - i),fun i _=>n≤i⟩
theorem mR {P:Program} {w:World} {K:PySem.W.Frag} {tg:Expr} (it:Addr) (lo:Int) (n:Nat):nE P w K tg (Itd lo n) [it] it (fun i h=>IsRangeIter h it (lo+(i:Nat)*(-1)) ((n:Int) - (i:Nat)) (-1)) where
 mem:=by simp
 obj:=fun i h st b hb=>by
  have e:b=it:=by simpa using hb
  subst e
  exact ⟨_,st,fun v z=>by
   have z':Data.fields _=Data.cell v:=z
   cases z'⟩
 keep:=fun i h h' st k=>k it (by simp) _ st
 item:=by
  intro X hP hw hK hc i pins s σ H E I hf st hg
  subst hP hw hK
  obtain ⟨f0,f1,f2,f3,f4,f5⟩:=hf it (by simp)
  have W:=Walks.range (prog:=X.prog) (w:=X.w) (I.ok.hd hc) it lo (-1) n
  refine W.item i s _ _ hg st fun v h' tk hv st' kk=>?_
  obtain ⟨t,rfl⟩:=hv
  have I1:Inv X pins σ H { s with heap:=h',toks:=tk }:=I.turned (fun b o hb e=>kk b o (by simpa using hb) e) f0 f1 f3 f4 f5
  refine ⟨_,rfl,jQ (s:={ s with heap:=h',toks:=tk }) (n:="range_iterator") st' rfl rfl (by decide) ⟨.int (lo - i),H,I1,⟨t,?_⟩,⟨rfl,rfl⟩,st',fun b hb=>(hf b hb).1⟩⟩
  rw [show lo+(i:Int)*(-1)=lo - i by omega]
 done:=by
  intro X hP hw hK hc i pins s σ H E I hf st hg
  subst hP hw hK
  obtain ⟨f0,f1,f2,f3,f4,f5⟩:=hf it (by simp)
  exact wpAny_pyNext_range_end (I.ok.hd hc) st (by have:n≤i:=hg; omega) fun h' eb=>⟨rfl,I.turned (t':=s.toks) (fun b o hb e=>eb b o hb e) f0 f1 f3 f4 f5⟩
 self:=fun _ _ _ _ _ st h=>wpAny_pyIter_rangeiter st h
theorem wm (a b:Int):Builtin.Range.rangeSize a b (-1)=if b<a then a - b else 0:=by
 unfold Builtin.Range.rangeSize
 rw [if_neg (by decide)]
 split
 ·rename_i h
  have:(a - b - 1) / (- -1)=a - b - 1:=by rw [show (- -1:Int)=1 by decide,Int.ediv_one]
  omega
 ·rfl
theorem oC {a b:Int} (ha:-(2 ^ 62)≤a) (ha':a<2 ^ 62) (hb:-(2 ^ 62)≤b) (hb':b<2 ^ 62):Builtin.Range.small a b (-1)=true:=by
 unfold Builtin.Range.small
 rw [wm]
 simp only [Builtin.Range.rangeFitsLong,Bool.and_eq_true,Bool.or_eq_true,decide_eq_true_eq,beq_iff_eq,show ¬ (-1:Int)>0 by decide,if_false]
 split <;> omega
section
variable {X:Cx} {tg:Expr}
def Vm (ta:TA):TI:=fun σ H R=>ta σ H fun vs H1=>∃ i j:Int,vs=[.int i,.int j,.int (-1)]∧(-(2 ^ 30)≤i∧i<2 ^ 30∧-(2 ^ 30)≤j∧j<2 ^ 30)∧R (Itd i (i - j).toNat) H1
theorem gi {a b c:Expr} {ta:TA} {p pos:Pos} (hg:Gl X "range") (hm:X.mg "range"=none) (ha:PA X [a,b,c] ta) (hs:starEach [a,b,c] X.env=(false,eval a X.env)::starEach [b,c] X.env:=by rfl)
  (hpl:(backTo pos (starEach [b,c] X.env)).any (·.1)=false:=by rfl):PI X tg (.Call (.Name "range" p) [a,b,c] [] pos) (Vm ta):=by
 intro pins s σ H R I h
 refine Call_ (xX I hg hm boot_range (PyProof.Rows.callWith_type1 (thn (ha pos pins s σ H _ I h) fun us s1 ⟨vs,H1,I1,r1,q1⟩=>?_) hs hpl))
 obtain ⟨i,j,e,⟨q1,q2,q3,q4⟩,q⟩:=q1
 subst e
 cases r1 with
 | cons r rr=>
 cases rr with
 | cons r' rr=>
 cases rr with
 | cons r'' rr=>
  cases rr
  obtain ⟨t,rfl⟩:=r
  obtain ⟨t',rfl⟩:=r'
  obtain ⟨t'',rfl⟩:=r''
  refine call_range_3 (by decide) ?_ (Or.inl (PyProof.noPylong_small (by omega)))
  refine wpAny_pyIter_range (IsRange.new ..) (oC (by omega) (by omega) (by omega) (by omega)) ?_
  have I2:Inv X pins σ H1 { s1 with heap:=s1.heap.push { cls:=.type "range",data:=.fields #[.int i t,.int j t',.int (-1) t''] },toks:=s1.toks }:=I1.kept fun b o e=>Heap.get?_push_of_some _ e
  refine ⟨(s1.heap.push { cls:=.type "range",data:=.fields #[.int i t,.int j t',.int (-1) t''] }).objs.size,[(s1.heap.push { cls:=.type "range",data:=.fields #[.int i t,.int j t',.int (-1) t''] }).objs.size],_,_,H1,rfl,
   I2.kept (t':=s1.toks) fun b o e=>Heap.get?_push_of_some _ e,mR _ i (i - j).toNat,?_,fun b hb=>?_,q⟩
  ·have e1:i+((0:Nat):Int)*(-1)=i:=by simp
   have e2:(((i - j).toNat:Nat):Int) - ((0:Nat):Int)=Builtin.Range.rangeSize i j (-1):=by rw [wm]; split <;> omega
   show IsRangeIter _ _ (i+((0:Nat):Int)*(-1)) ((((i - j).toNat:Nat):Int) - ((0:Nat):Int)) (-1)
   rw [e1,e2]
   exact Heap.get?_push_size _ rfl
  ·have e:b=(s1.heap.push { cls:=.type "range",data:=.fields #[.int i t,.int j t',.int (-1) t''] }).objs.size:=by simpa using hb
   subst e
   exact I2.fpOk (Nat.le_refl _) (I2.hok.fresh (Nat.le_refl _))
theorem jX {lo:Int} {n:Nat} {g:TG} {tb:TS} {D:vk} {σ:St} {H:Hp} (Pv:Nat→St→Hp→Prop) (h0:Pv 0 σ H)
  (hs:∀ i σ H,i<n→Pv i σ H→g (.int (lo - i)) σ H fun σ2 H2=>tb { D with nx:=Pv (i+1),ct:=Pv (i+1),bk:=D.nx } σ2 H2) (hd:∀ σ H,Pv n σ H→D.nx σ H):
  ∃ W:Nat→Nat→St→Hp→Prop,(∃ m,W 0 m σ H)∧∀ i m σ H,W i m σ H→
   ((Itd lo n).stop i H∧D.nx σ H)∨((Itd lo n).go i H∧∃ N:St→Hp→Prop,(∀ σ' H',N σ' H'→∃ m',m'<m∧W (i+1) m' σ' H')∧∀ x H',(Itd lo n).yld i H x H'→g x σ H' fun σ2 H2=>tb { D with nx:=N,ct:=N,bk:=D.nx } σ2 H2):=by
 refine ⟨fun i m σ H=>m=n - i∧i≤n∧Pv i σ H,⟨n,by simp,Nat.zero_le _,h0⟩,?_⟩
 rintro i m σ H ⟨rfl,hi,p⟩
 by_cases hlt:i<n
 ·refine .inr ⟨hlt,Pv (i+1),fun σ' H' p'=>⟨n - (i+1),by omega,rfl,hlt,p'⟩,fun x H' y=>?_⟩
  obtain ⟨e,y⟩:=y
  subst e y
  exact hs i σ _ hlt p
 ·have e:i=n:=by omega
  subst e
  exact .inl ⟨Nat.le_refl _,hd σ H p⟩
variable {fr:Fr} {ta:DTA} {tb:DTS} {te:DTE} {pos p0 p1 p2:Pos}
def VO (j:Nat) (ta:DTA) (tb:DTS):DTS:=fun D ρ=>ta ρ fun ds=>∃ (m n:Int) (Pv:Nat→DS→Prop),ds=[.int m,.int n,.int (-1)]∧-(2 ^ 30)≤m∧m<2 ^ 30∧-(2 ^ 30)≤n∧n<2 ^ 30∧Pv 0 ρ∧
 (∀ (i:Nat) ρ',i<(m - n).toNat→Pv i ρ'→tb { D with nx:=Pv (i+1),ct:=Pv (i+1),bk:=D.nx } (ρ'.set j (.some (.int (m - i)))))∧∀ ρ',Pv (m - n).toNat ρ'→D.nx ρ'
theorem AllIs.three {K:PySem.W.Frag} {H:Hp} {d e f:Dt} {xs:List V} (h:AllIs K H [d,e,f] xs):∃ v u w,xs=[v,u,w]∧Is K H d v∧Is K H e u∧Is K H f w:=by
 obtain ⟨x,r,rfl,h1,h2⟩:=allIs_cons.mp h
 obtain ⟨u,w,rfl,h3,h4⟩:=h2.two
 exact ⟨x,u,w,rfl,h1,h3,h4⟩
theorem cf {j:Nat} {x:Str} {a b c:Expr} {body:List Stmt} {px p0 pos1:Pos} (hc:X.calm=true) (hN:X.N.Nodup) (hi:X.N[j]? = some x) (hx:Loc X.env.scope x) (hp:PassesOwn (model X.prog X.w) X.A X.env X.xe)
  (hg:Gl X "range") (hm:X.mg "range"=none) (h:DA X [a,b,c] ta) (hb:DSs X fr body tb) (hs:∀ x,foldedSetIterable (.Call (.Name "range" p0) [a,b,c] [] pos1) X.env x=pure x:=by intro _; rfl)
  (hst:starEach [a,b,c] X.env=(false,eval a X.env)::starEach [b,c] X.env:=by rfl) (hpl:(backTo pos1 (starEach [b,c] X.env)).any (·.1)=false:=by rfl)
  (hf:X.fn x=true∨X.env.scope.names.lookup x=some .local:=by first | exact .inl rfl | exact .inr rfl | assumption):DSt X fr (.For (.Name x px) (.Call (.Name "range" p0) [a,b,c] [] pos1) body [] pos) (VO j ta tb):=by
 obtain ⟨tt,p,l⟩:=h
 obtain ⟨tbs,p2,l2⟩:=hb
 refine ⟨_,tN hp hc (gi hg hm p hst hpl) (z0 hN hi hx hf) p2 hs,fun W0 G ρ σ W D D' at_ s h=>l ρ σ W _ at_.rl h _ fun ds vs W1 s1 i1 ⟨m,n,Pv,ed,m1,m2,n1,n2,h0,ht,hd⟩=>?_⟩
 subst ed
 obtain ⟨v1,v2,v3,rfl,j1,j2,j3⟩:=i1.three
 have hg1:Same G W1.g:=at_.gs.trans s1.g
 refine ⟨m,n,by rw [is_int.mp j1,is_int.mp j2,is_int.mp j3],⟨m1,m2,n1,n2⟩,jX (lo:=m) (n:=(m - n).toNat) (fun i=>InL X.K (Zx X) W0 W1 (Pv i)) ⟨ρ,W1,rfl,(at_.step s1).now,h0⟩ ?_ ?_⟩
 ·rintro i σ' _ hi ⟨ρ',W2,rfl,a2,hp2⟩
  exact l2 W0 W1.g _ _ W2 { D with nx:=Pv (i+1),ct:=Pv (i+1),bk:=D.nx } _ (a2.set j (is_int.mpr rfl)) (xD s hg1) (ht i ρ' hi hp2)
 ·rintro σ' _ ⟨ρ',W2,rfl,a2,hp2⟩
  exact s.nx ρ' σ' W2 (a2.weak hg1) (hd ρ' hp2)
def UJ (ta:DTA):DTE:=fun ρ Q=>ta ρ fun ds=>∃ i j,ds=[.int i,.int j]∧Q (.int (if j>i then j else i))
theorem nv {a b:Expr} (hc:X.calm=true) (hg:Gl X "max") (hm:X.mg "max"=none) (ha:DA X [a,b] ta) (hs:starEach [a,b] X.env=(false,eval a X.env)::starEach [b] X.env:=by rfl) (hpl:(backTo pos (starEach [b] X.env)).any (·.1)=false:=by rfl):
  DE X (.Call (.Name "max" p0) [a,b] [] pos) (UJ ta):=by
 obtain ⟨te,p1,l1⟩:=ha
 refine ⟨_,xc (lw hc) hg hm (by decide +kernel) p1 (by decide) (by decide) hs hpl,fun ρ σ H Q r h R k=>l1 ρ σ H _ r h _ fun ds vs H1 s1 i1 ⟨i,j,ed,q⟩=>?_⟩
 subst ed
 obtain ⟨v1,v2,rfl,j1,j2⟩:=i1.two
 exact ⟨i,j,by rw [is_int.mp j1,is_int.mp j2],k _ _ H1 s1 (is_int.mpr rfl) q⟩
def pV:Dt→Bool
 | .non=>true
 | _=>false
theorem rD {K:PySem.W.Frag} {H:Hp} {d:Dt} {v:V} (h:Is K H d v):decide (v=.non)=pV d:=by
 cases d with
 | non=>rw [is_non.mp h]; rfl
 | bl b=>rw [is_bl.mp h]; rfl
 | int b=>rw [is_int.mp h]; rfl
 | str b=>rw [is_str.mp h]; rfl
 | tup b=>obtain ⟨a,xs,rfl,_⟩:=is_tup.mp h; rfl
 | lst b=>obtain ⟨a,xs,rfl,_⟩:=is_lst.mp h; rfl
 | scr b=>obtain ⟨a,rfl,_⟩:=is_scr.mp h; rfl
 | way b _ _=>obtain ⟨a,xs,rfl,_⟩:=is_way.mp h; rfl
 | exc b=>obtain ⟨a,rfl,_⟩:=is_exc.mp h; rfl
def cO (ta:DTE):DTE:=fun ρ Q=>ta ρ fun d=>Q (.bl (pV d))
def XA (ta:DTE):DTE:=fun ρ Q=>ta ρ fun d=>Q (.bl (!pV d))
theorem ci {a:Expr} {j pos'} (ha:DE X a te):DE X (.Compare a [.IsNot] [.Constant .none j pos'] pos) (XA te):=by
 obtain ⟨t1,p1,l1⟩:=ha
 exact ⟨_,bB (gp p1),fun ρ σ H Q r h R k=>l1 ρ σ H _ r h _ fun d v H1 s1 i1 q=>k (.bl (!pV d)) (.bl (!decide (v=.non))) H1 s1 (is_bl.mpr (by rw [rD i1])) q⟩
theorem j7 {a:Expr} {j pos'} (ha:DE X a te):DT X (.Compare a [.Is] [.Constant .none j pos'] pos) (vP (cO te)):=by
 obtain ⟨t1,p1,l1⟩:=ha
 refine ⟨_,br (bG p1),qu (te:=X3 t1) (t:=cO te) fun ρ σ H Q r h R k=>l1 ρ σ H _ r h _ fun d v H1 s1 i1 q=>k (.bl (pV d)) (.bl (decide (v=.non))) H1 s1 (is_bl.mpr (by rw [rD i1])) q⟩
end
end OD
namespace OD
variable {Z:Hp}
open PySem PySem.Spec PyProof.Rows L2
section
variable {X:Cx} {a:Expr} {te:TE} {tl th ts:TO} {lo hi:Option Expr} {st:Expr} {pos p2:Pos} {ta:DTE} {dl dh dt:DTO}
theorem boot_rev:bootBuiltins "reversed"=some (.type "reversed"):=by decide +kernel
variable {fr:Fr} {tA:DTA} {tb:DTS} {p0 p1:Pos}
theorem AllIs.rev {K:PySem.W.Frag} {H:Hp}:∀ {ds:List Dt} {xs:List V},AllIs K H ds xs→AllIs K H ds.reverse xs.reverse
 | [],_,h=>by rw [allIs_nil.mp h]; exact allIs_nil.mpr rfl
 | d::ds,_,h=>by
  obtain ⟨x,r,rfl,h1,h2⟩:=allIs_cons.mp h
  rw [List.reverse_cons,List.reverse_cons]
  exact (AllIs.rev h2).append (allIs_cons.mpr ⟨x,[],rfl,h1,allIs_nil.mpr rfl⟩)
def Vu (t u:DTS):DTS:=fun D ρ=>∃ P:DS→Prop,t { D with nx:=P } ρ∧∀ ρ',P ρ'→u D ρ'
theorem z_ {sst:Stmt} {yJ:List Stmt} {t u:DTS} (h1:DSt X fr sst t) (h2:DSs X fr yJ u):DSs X fr (sst::yJ) (Vu t u):=by
 obtain ⟨ts,p1,l1⟩:=h1
 obtain ⟨us,p2,l2⟩:=h2
 refine ⟨_,pq p1 p2,fun W0 G ρ σ W D D' a s h=>?_⟩
 obtain ⟨P,h,k⟩:=h
 exact l1 W0 G ρ σ W { D with nx:=P } { D' with nx:=us D' } a ⟨fun ρ' σ' W' a' q=>l2 W0 G ρ' σ' W' D D' a' s (k ρ' q),s.tl,s.bk,s.ct⟩ h
end
end OD
namespace OD
open PySem PySem.Spec PyProof.Rows L2
section
variable {X:Cx} {ta:DTE} {pos p0:Pos}
theorem nQ:∀ {bs:List Bool} {us:List Value},Vals (bs.map V.bl) us→∀ (i:Nat) (u:Value),us[i]? = some u→u=Value.bool (bs.getD i false)
 | [],us,r,i,u,e=>by
  have:=r.length
  have:us=[]:=List.length_eq_zero_iff.mp this.symm
  subst this
  simp at e
 | b::bs,us,r,i,u,e=>by
  rw [List.map_cons] at r
  cases r with
  | cons r1 r2=>
   cases i with
   | zero=>
    simp at e
    subst e
    cases r1
    rfl
   | succ i=>
    have:=nQ r2 i u (by simpa using e)
    rw [this]
    simp
theorem lC (bs:List Bool):((List.range bs.length).all fun i=>bs.getD i false)=bs.all id:=by
 rw [Bool.eq_iff_iff,List.all_eq_true,List.all_eq_true]
 constructor
 ·intro h b hb
  obtain ⟨i,hi,e⟩:=List.getElem_of_mem hb
  have:=h i (List.mem_range.mpr hi)
  rw [List.getD_eq_getElem?_getD,List.getElem?_eq_getElem hi,e] at this
  exact this
 ·intro h i hi
  have hi:=List.mem_range.mp hi
  rw [List.getD_eq_getElem?_getD,List.getElem?_eq_getElem hi]
  exact h _ (List.getElem_mem hi)
theorem iH (hc:X.calm=true):CallR X (.builtin "all") (fun xs H Q=>∃ (a:Addr) (bs:List Bool),xs=[.ref a]∧SqL X.K H a (bs.map V.bl)∧Q (.bl (bs.all id)) H):=by
 intro pins s σ H xs us Q I r h
 obtain ⟨a,bs,rfl,hx,q⟩:=h
 obtain ⟨u,rfl,ru⟩:=r.one
 cases ru
 obtain ⟨its,rv,p,hz⟩:=I.list hx
 have hlt:a<s.heap.objs.size:=by
  obtain ⟨o,e,_⟩:=p.isList
  exact Heap.lt_size e
 have hl:its.toArray.size=bs.length:=by rw [List.size_toArray,← rv.length,List.length_map]
 refine call_all_walk (wpAny_pyIter_list p.isList ⟨s.heap.objs.size,_,_,_,_,_,fun i=>(bs.getD i false),rfl,Walks.list (A:=X.A.in1) (I.ok.hd hc) s.heap.objs.size a (Nat.ne_of_lt hlt) its.toArray,⟨⟨_,Heap.get?_push_size _ rfl,rfl,rfl⟩,?_⟩,?_,fun h' tk k=>?_⟩)
 ·obtain ⟨o,e,c⟩:=p.isList
  exact ⟨o,Heap.get?_push_of_some _ e,c⟩
 ·intro i v s2 Q2 E2 hv hq
  have e:=nQ rv i v (by simpa using hv)
  subst e
  exact wpAny_truthy_bool hq
 ·rw [hl,lC]
  exact ⟨.bl _,H,I.kept fun b o e=>k b o (by simp; exact Nat.ne_of_lt (Heap.lt_size e)) (Heap.get?_push_of_some _ e),rfl,q⟩
theorem AllIs.bls {K:PySem.W.Frag} {H:Hp}:∀ {bs:List Bool} {xs:List V},AllIs K H (bs.map Dt.bl) xs→xs=bs.map V.bl
 | [],_,h=>allIs_nil.mp h
 | b::bs,_,h=>by
  obtain ⟨x,r,rfl,h1,h2⟩:=allIs_cons.mp h
  rw [is_bl.mp h1,AllIs.bls h2]
  rfl
def UP (ta:DTE):DTE:=fun ρ Q=>ta ρ fun d=>∃ bs:List Bool,d=.lst (bs.map Dt.bl)∧Q (.bl (bs.all id))
theorem Xw {a:Expr} (hc:X.calm=true) (hg:Gl X "all") (hm:X.mg "all"=none) (ha:DE X a ta) (hs:starEach [a] X.env=(false,eval a X.env)::starEach [] X.env:=by rfl) (hpl:(backTo pos (starEach [] X.env)).any (·.1)=false:=by rfl):
  DE X (.Call (.Name "all" p0) [a] [] pos) (UP ta):=by
 obtain ⟨te,p1,l1⟩:=ha
 refine ⟨_,xc (iH hc) hg hm (by decide +kernel) (zT p1 yA hs) (by decide) (by decide) hs hpl,fun ρ σ H Q r h R k=>l1 ρ σ H _ r h _ fun d v H1 s1 i1 ⟨bs,ed,q⟩=>?_⟩
 subst ed
 obtain ⟨b,xs,rfl,h1,h2⟩:=is_lst.mp i1
 rw [h2.bls] at h1
 exact ⟨b,bs,rfl,.of (H1.sub _ _ h1),k _ _ H1 s1 (is_bl.mpr rfl) q⟩
end
end OD
namespace OD
variable {Z:Hp}
open PySem PySem.Spec PyProof.Rows L2
section
variable {X:Cx} {K:PySem.W.Frag} {H:Hp}
end
section
variable {X:Cx} {fr:Fr} {te:DTE} {tb:DTS} {pos p0 p1 p2:Pos}
end
end OD
namespace OD
variable {Z:Hp}
open PySem PySem.Spec PyProof.Rows L2
def uy (σ:St) (js:List Nat):St:=js.map fun j=>(σ[j]?).getD none
section
variable {X:Cx} {pins:List (Addr × Obj)} {σ:St} {H:Hp} {s:Shared} {scope:Scope} {cl:List (Str × Addr)} {x:Str} {caps:List Str} {js:List Nat} {fp:List Addr}
end
def x6 (cells:List (Str × Addr)) (names:List (Str × NameKind)):List (Str × Addr):=(names.filterMap fun y=>if y.2 == .free then (cells.lookup y.1).map (y.1,·) else none).reverse
theorem sd {α:Type} {y:Str} {c:α}:∀ {l:List (Str × α)},(y,c)∈l→∃ c',l.lookup y=some c'
 | [],h=>nomatch h
 | (z,d)::r,h=>by
  rw [List.lookup_cons]
  cases q:y == z with
  | true=>exact ⟨d,rfl⟩
  | false=>
   rcases List.mem_cons.mp h with e | e
   ·cases e
    rw [beq_self_eq_true] at q
    cases q
   ·exact sd e
theorem mem_clOf {cells:List (Str × Addr)} {names:List (Str × NameKind)} {y:Str} {c:Addr}:(y,c)∈x6 cells names↔(y,NameKind.free)∈names∧cells.lookup y=some c:=by
 unfold x6
 rw [List.mem_reverse,List.mem_filterMap]
 constructor
 ·rintro ⟨⟨z,k⟩,hz,e⟩
  split at e
  ·rename_i hk
   obtain rfl:=eq_of_beq hk
   obtain ⟨d,hd,e⟩:=Option.map_eq_some_iff.mp e
   cases e
   exact ⟨hz,hd⟩
  ·cases e
 ·rintro ⟨h1,h2⟩
  exact ⟨(y,.free),h1,by show Option.map _ (List.lookup y cells)=_; rw [h2]; rfl⟩
theorem cm {scope:Scope} {env:Env} (h:∀ y,(y,NameKind.free)∈scope.names→∃ c,env.cells.lookup y=some c):closureFor scope env=pure (x6 env.cells scope.names):=by
 have key:∀ (names:List (Str × NameKind)) (acc:List (Str × Addr)),(∀ y,(y,NameKind.free)∈names→∃ c,env.cells.lookup y=some c)→
   (forIn names acc fun x r=>(if x.2 == NameKind.free then do let c ← cellOf env x.1; pure (ForInStep.yield ((x.1,c)::r)) else pure (ForInStep.yield r):Sem (ForInStep (List (Str × Addr)))))=(pure (x6 env.cells names++acc):Sem (List (Str × Addr))):=by
  intro names
  induction names with
  | nil=>intro acc _; rfl
  | cons a r ih=>
   intro acc ha
   obtain ⟨n,k⟩:=a
   rw [List.forIn_cons]
   cases hk:k == NameKind.free with
   | true=>
    obtain rfl:=eq_of_beq hk
    obtain ⟨c,hc⟩:=ha n List.mem_cons_self
    have e1:cellOf env n=pure c:=by unfold cellOf; rw [hc]
    have e2:x6 env.cells ((n,NameKind.free)::r)=x6 env.cells r++[(n,c)]:=by
     unfold x6
     rw [List.filterMap_cons_some (b:=(n,c)) (by show Option.map _ (List.lookup n env.cells)=_; rw [hc]; rfl),List.reverse_cons]
    show (do let c ← cellOf env n; pure (ForInStep.yield ((n,c)::acc)):Sem _) >>= _=_
    rw [e1,pure_bind,pure_bind,e2,List.append_assoc]
    exact ih ((n,c)::acc) fun y hy=>ha y (List.mem_cons_of_mem _ hy)
   | false=>
    have e2:x6 env.cells ((n,k)::r)=x6 env.cells r:=by
     unfold x6
     rw [List.filterMap_cons_none (by show (if (k == NameKind.free)=true then _ else none)=none; rw [hk]; rfl)]
    show (pure (ForInStep.yield acc):Sem _) >>= _=_
    rw [pure_bind,e2]
    exact ih acc fun y hy=>ha y (List.mem_cons_of_mem _ hy)
 have:=key scope.names [] h
 rw [List.append_nil] at this
 unfold closureFor
 rw [← this]
 exact (bind_pure _).trans rfl
theorem yS {env:Env} (hk:env.scope.kind=.function):∀ {names:List (Str × NameKind)} {x:Str},names.lookup x=some .free→env.scope.names.lookup x=some .cell→
  (names.map fun (n,k)=>if (k == NameKind.free && env.scope.kind == .function && env.kindOf n == some .cell) then (n,NameKind.cell) else (n,k)).lookup x=some .cell
 | [],_,h,_=>by simp at h
 | (n,k)::r,x,h,he=>by
  have ih:=@yS env hk r x
  show List.lookup x ((if (k == NameKind.free && env.scope.kind == .function && env.kindOf n == some .cell)=true then (n,NameKind.cell) else (n,k))::_)=_
  cases hx:x == n with
  | true=>
   obtain rfl:=eq_of_beq hx
   simp only [List.lookup_cons,hx] at h
   cases h
   have e:env.kindOf x=some .cell:=he
   rw [hk,e]
   simp [List.lookup_cons]
  | false=>
   simp only [List.lookup_cons,hx] at h
   by_cases hc:(k == NameKind.free && env.scope.kind == .function && env.kindOf n == some .cell)=true
   ·rw [if_pos hc]; simp only [List.lookup_cons,hx]; exact ih h he
   ·rw [if_neg hc]; simp only [List.lookup_cons,hx]; exact ih h he
def vg (ρ:DS) (js:List Nat):DS:=js.map fun j=>match (ρ[j]?:Option Sl) with
 | Option.some (Sl.some d)=>Sl.some d
 | _=>Sl.none
def iA (js:List Nat) (ta te:DTE):DTE:=fun ρ Q=>ta ρ fun d=>∃ (m:Int) (Pv:Nat→List Dt→Prop),d=.int m∧-(2 ^ 62)≤m∧m≤100000∧Pv 0 []∧
 (∀ (i:Nat) es,i<m.toNat→Pv i es→te (.some (.int i)::vg ρ js) fun y=>Pv (i+1) (es++[y]))∧∀ es,Pv m.toNat es→Q (.lst es)
def Vh (t:TE):TI:=fun σ H R=>t σ H fun v H1=>∃ j:Int,v=.int j∧-(2 ^ 62)≤j∧j<2 ^ 62∧R (Itr 0 j.toNat) H1
section
variable {X:Cx} {fr:Fr} {osc scope:Scope} {x:Str} {caps:List Str} {js:List Nat} {N0:List Str} {L:Addr} {a elt:Expr} {ta te:DTE} {px p0 pos pos1:Pos}
theorem mY {t:TE} {tg:Expr} (hg:Gl X "range") (hm:X.mg "range"=none) (p:PE X a t) (hst:starEach [a] X.env=[(false,eval a X.env)]) (hst2:starEach [a] X.env=(false,eval a X.env)::starEach [] X.env):PI X tg (.Call (.Name "range" p0) [a] [] pos1) (Vh t):=by
 intro pins s σ H R I h
 refine rm hg hm (zT p yA hst2) hst pins s σ H R I ?_
 refine (?_:t σ H fun v H1=>∃ j:Int,[v]=[V.int j]∧-(2 ^ 62)≤j∧j<2 ^ 62∧R (Itr 0 j.toNat) H1)
 have e:(fun (v:V) (H1:Hp)=>∃ j:Int,v=V.int j∧-(2 ^ 62)≤j∧j<2 ^ 62∧R (Itr 0 j.toNat) H1)=fun v H1=>∃ j:Int,[v]=[V.int j]∧-(2 ^ 62)≤j∧j<2 ^ 62∧R (Itr 0 j.toNat) H1:=by
  funext v H1
  refine propext ⟨fun ⟨j,q,z⟩=>⟨j,by rw [q],z⟩,fun ⟨j,q,z⟩=>⟨j,(List.cons.inj q).1,z⟩⟩
 rw [← e]
 exact h
end
section
variable {X:Cx} {a:Expr} {p0 pos:Pos}
end
end OD
namespace OD
variable {Z:Hp}
open PySem PySem.Spec PyProof.Rows L2
def qI (js:List Nat) (ta te:DTE):DTE:=fun ρ Q=>ta ρ fun d=>∃ (ds:List Dt) (Pv:Nat→List Dt→Prop),yO d=some ds∧ds.length≤100000∧Pv 0 []∧
 (∀ (i:Nat) e es,ds[i]? = some e→Pv i es→te (.some e::vg ρ js) fun y=>Pv (i+1) (es++[y]))∧∀ es,Pv ds.length es→Q (.lst es)
section
variable {X:Cx} {fr:Fr} {osc scope:Scope} {x:Str} {caps:List Str} {js:List Nat} {N0:List Str} {L:Addr} {iter elt:Expr} {ta te:DTE} {px pos:Pos}
end
end OD
namespace L2
open PySem PySem.Spec PyProof.Rows
section
variable {P:Program} {w:World} {H H':Hp} {h B:Heap}
theorem HOk.part (x:HOk P w H h) (k:∀ b u,H b≠none→h.get? b=some u→B.get? b=some u):HOk P w H B:=fun a o e=>
 (x a o e).stay (fun b u hb q=>k b u (fun z=>by rcases hb with rfl | y; (rw [e] at z; cases z); (rw [y] at z; cases z)) q) (fun _ q=>q) fun _ _ q=>q
theorem ObjOk.there {a:Addr} {o:HO} (x:ObjOk P w H h a o):∃ u,h.get? a=some u:=by
 cases o with
 | lst xs=>obtain ⟨_,_,_,_,e⟩:=x; exact ⟨_,e⟩
 | tup xs=>obtain ⟨_,_,_,o,e,_⟩:=x; exact ⟨_,e⟩
 | dK kvs=>obtain ⟨_,_,_,_,o,_,_,e,_⟩:=x; exact ⟨_,e⟩
 | dT kvs=>obtain ⟨_,_,_,_,o,_,_,e,_⟩:=x; exact ⟨_,e⟩
 | set S n=>obtain ⟨o,_,_,_,e,_⟩:=x; exact ⟨_,e⟩
 | ins C dx fs=>obtain ⟨_,_,_,e,_⟩:=x; exact ⟨_,e⟩
 | own y=>exact x
 | xd fs=>obtain ⟨_,⟨_,_,_,e,_⟩,_⟩:=x; exact ⟨_,e⟩
 | rng lo hi=>obtain ⟨_,_,_,e⟩:=x; exact ⟨_,e⟩
 | frz ob u=>obtain ⟨e,_⟩:=x; exact ⟨_,e⟩
 | tbl ps=>exact ⟨_,(show h.get? a=some _ from x)⟩
 | met f y=>exact ⟨_,(show h.get? a=some _ from x)⟩
 | ext φ=>obtain ⟨_,e,_⟩:=x; exact e
end
structure Flies (P:Program) (w:World) (stack:List Env) (H:Hp) (h0:Heap) (H':Hp) (e:Addr) (cls:Value) (h:Heap):Prop where
 ex:∃ B a0,Heap.FlyingW B stack e cls a0 h∧(∀ b o,h0.get? b=some o→H b=none→b∉frs stack→B.get? b=some o)∧(∀ b o,h0.get? b=some o→b∉frs stack→∃ o',B.get? b=some o')∧HOk P w H' B
 slot:∀ b o,h0.get? b=some o→b∈frs stack→∃ sl,h.get? b=some { o with slots:=sl }
 free:∀ b o,h0.get? b=some o→H b=none→H' b=none
 tups:∀ b xs,H b=some (.tup xs)→H' b=some (.tup xs)
 frzs:∀ b o u,H b=some (.frz o u)→H' b=some (.frz o u)
 tbls:∀ b ps,H b=some (.tbl ps)→∃ more,H' b=some (.tbl (ps++more))
 new:h0.get? e=none
section
variable {P:Program} {w:World} {stack:List Env} {H H':Hp} {h0 h:Heap} {e:Addr} {cls:Value}
theorem Flies.un (f:Flies P w stack H h0 H' e cls h):Un (frs stack) [] H H' h0 h:=by
 obtain ⟨B,a0,⟨st,_,_,_⟩,k1,k2,_⟩:=f.ex
 refine ⟨fun b o q n hb _=>st b o (k1 b o q n hb),fun b o q _ hb _=>f.slot b o q hb,fun b o q n _=>f.free b o q n,fun b o q _=>?_,f.tups,f.frzs,f.tbls⟩
 by_cases hb:b∈frs stack
 ·obtain ⟨sl,z⟩:=f.slot b o q hb
  exact ⟨_,z⟩
 ·obtain ⟨o',z⟩:=k2 b o q hb
  exact ⟨o',st b o' z⟩
theorem Flies.hok (f:Flies P w stack H h0 H' e cls h):HOk P w H' h:=by
 obtain ⟨B,a0,⟨st,_,_,_⟩,_,_,k3⟩:=f.ex
 exact k3.kept st
theorem Flies.go (f:Flies P w stack H h0 H' e cls h):∃ B a0,Heap.FlyingW B stack e cls a0 h∧∀ h',Heap.FlyingW B stack e cls a0 h'→h.UpToSlots h'→Flies P w stack H h0 H' e cls h':=by
 obtain ⟨B,a0,fl,k1,k2,k3⟩:=f.ex
 refine ⟨B,a0,fl,fun h' fl' up=>⟨⟨B,a0,fl',k1,k2,k3⟩,fun b o q hb=>?_,f.free,f.tups,f.frzs,f.tbls,f.new⟩⟩
 obtain ⟨sl,z⟩:=f.slot b o q hb
 obtain ⟨_,ob,ho,hd⟩:=fl.2.2.1.mem hb
 rw [z] at ho
 cases ho
 obtain ⟨sl',z'⟩:=up b _ z hd
 exact ⟨sl',z'⟩
end
section
variable {X:Cx} {pins:List (Addr × Obj)} {σ:St} {H H':Hp} {s s':Shared} {M:Model} {E:Value→Shared→Prop} {e:Addr} {cls:Value}
theorem Inv.neL (I:Inv X pins σ H s) {b:Addr} {o:Obj} (q:X.s₀.heap.get? b=some o):b≠X.env.locals:=Nat.ne_of_lt (Nat.lt_of_lt_of_le (Heap.lt_size q) I.ok.above)
theorem jY {vs:List Value} {h1:Heap} {Q:Unit→Shared→Prop} (I:Inv X pins σ H s) (hstk:X.stack=X.env::X.outer) (hf:X.env.frame=some X.env.locals) (hex:X.ex=[]) (hx:Heap.MadeExcOf s.heap h1 e cls vs)
  (hQ:∀ h',Flies X.prog X.w X.outer X.H₀ X.s₀.heap H e cls h'→Q () { s with heap:=h' }):wpAny M X.A (leaving X.env (.ref e)) Q E { s with heap:=h1 }:=by
 have hfr:X.A.frames=some (X.env::X.outer):=by rw [← hstk]; exact I.ok.frames
 have hfs:frs X.stack=X.env.locals::frs X.outer:=by rw [hstk]; unfold frs; rw [List.filterMap_cons,hf]
 have hl:s.heap.FunFrames (PySem.W.hideAll s.heap (frs X.stack)) (X.env::X.outer):=by
  have z:=I.stack
  rw [hstk] at z
  refine PySem.W.funFrames_hide z fun env he a ha=>?_
  rw [hstk]
  exact List.mem_filterMap.mpr ⟨env,he,ha⟩
 have nx:∀ b,b∉X.ex:=fun b z=>by rw [hex] at z; cases z
 have nst:∀ b o,X.s₀.heap.get? b=some o→b∉frs X.outer→b∉frs X.stack:=fun b o q nb z=>by
  rw [hfs] at z
  rcases List.mem_cons.mp z with z | z
  ·exact I.neL q z
  ·exact nb z
 refine PySem.wpAny_leaves_madeW (s:={ s with heap:=h1 }) (h:=s.heap) (base:=PySem.W.hideAll s.heap (frs X.stack)) hfr hf (fun b o q=>PySem.W.of_hideAll _ q) hl hx fun h' t x1 x2 x3 x4=>hQ h' ⟨⟨_,_,x1,fun b o q n nb=>?_,fun b o q nb=>?_,?_⟩,fun b o q hb=>?_,fun b o q n=>I.base.free b o q n (nx b),I.base.tups,I.base.frzs,I.base.tbls,?_⟩
 ·exact PySem.W.hideAll_get _ (I.base.keep b o q n nb (nx b)) (nst b o q nb)
 ·obtain ⟨o',z⟩:=I.base.there b o q (nx b)
  exact ⟨o',PySem.W.hideAll_get _ z (nst b o q nb)⟩
 ·exact I.hok.part fun b u hb q=>PySem.W.hideAll_get _ q fun z=>hb (I.stkFree b z)
 ·obtain ⟨sl,z⟩:=I.base.slot b o q (I.ok.frf b hb) hb (nx b)
  obtain ⟨_,ob,ho,hd⟩:=I.funs.mem hb
  rw [z] at ho
  cases ho
  obtain ⟨sl',z'⟩:=x4 b _ (hx.keeps b _ z) hd
  exact ⟨sl',z'⟩
 ·cases q:X.s₀.heap.get? e with
  | none=>rfl
  | some o=>
   obtain ⟨o',z⟩:=I.base.there e o q (nx e)
   rw [hx.new] at z; cases z
theorem Xm {Q:Unit→Shared→Prop} (I:Inv X pins σ H s) (hstk:X.stack=X.env::X.outer) (hf:X.env.frame=some X.env.locals) (hex:X.ex=[]) (f:Flies X.prog X.w X.stack H s.heap H' e cls s'.heap)
  (hQ:∀ h',Flies X.prog X.w X.outer X.H₀ X.s₀.heap H' e cls h'→Q () { s' with heap:=h' }):wpAny M X.A (leaving X.env (.ref e)) Q E s':=by
 have hfr:X.A.frames=some (X.env::X.outer):=by rw [← hstk]; exact I.ok.frames
 have hfs:frs X.stack=X.env.locals::frs X.outer:=by rw [hstk]; unfold frs; rw [List.filterMap_cons,hf]
 have nx:∀ b,b∉X.ex:=fun b z=>by rw [hex] at z; cases z
 have nst:∀ b o,X.s₀.heap.get? b=some o→b∉frs X.outer→b∉frs X.stack:=fun b o q nb z=>by
  rw [hfs] at z
  rcases List.mem_cons.mp z with z | z
  ·exact I.neL q z
  ·exact nb z
 obtain ⟨B,a0,fl,k1,k2,k3⟩:=f.ex
 have fl':=fl
 rw [hstk] at fl'
 refine PySem.wpAny_leaves_onW hfr hf fl' fun h' x1 x2=>hQ h' ⟨⟨B,a0,x1,fun b o q n nb=>?_,fun b o q nb=>?_,k3⟩,fun b o q hb=>?_,fun b o q n=>?_,fun b xs q=>f.tups b xs (I.base.tups b xs q),fun b o u q=>f.frzs b o u (I.base.frzs b o u q),fun b ps q=>?_,?_⟩
 ·exact k1 b o (I.base.keep b o q n nb (nx b)) (I.base.free b o q n (nx b)) (nst b o q nb)
 ·obtain ⟨o',z⟩:=I.base.there b o q (nx b)
  exact k2 b o' z (nst b o q nb)
 ·obtain ⟨sl,z⟩:=I.base.slot b o q (I.ok.frf b hb) hb (nx b)
  have hb':b∈frs X.stack:=by rw [hfs]; exact List.mem_cons_of_mem _ hb
  obtain ⟨sl',z'⟩:=f.slot b _ z hb'
  obtain ⟨_,ob,ho,hd⟩:=fl.2.2.1.mem hb'
  rw [z'] at ho
  cases ho
  obtain ⟨sl2,z2⟩:=x2 b _ z' hd
  exact ⟨sl2,z2⟩
 ·obtain ⟨o',z⟩:=I.base.there b o q (nx b)
  exact f.free b o' z (I.base.free b o q n (nx b))
 ·obtain ⟨m1,e1⟩:=I.base.tbls b ps q
  obtain ⟨m2,e2⟩:=f.tbls b _ e1
  exact ⟨m1++m2,by rw [e2,Array.append_assoc]⟩
 ·cases q:X.s₀.heap.get? e with
  | none=>rfl
  | some o=>
   obtain ⟨o',z⟩:=I.base.there e o q (nx e)
   rw [f.new] at z; cases z
end
def ExcK (K:PySem.W.Frag) (C:Addr):Prop:=PySem.W.excIn K C [.type "ValueError",.type "Exception",.type "BaseException",.type "object"] "ValueError.__new__"=true
theorem cb {K:PySem.W.Frag} {h:Heap} {C:Addr} (X:K.In h) (q:ExcK K C):∃ bm N nm qn bs hdct sn sub ab col dd k0 k1 k2 k3 k5 mN,h.get? C=some (excClassObj nm qn C N bs bm hdct sn sub ab col dd k0 k1 k2 k3 k5 "ValueError.__new__")∧h.Ns N mN∧mN "__init__"=none∧OwnTail h [.type "ValueError",.type "Exception",.type "BaseException",.type "object"] bm:=by
 unfold ExcK PySem.W.excIn at q
 split at q
 ·rename_i d1 cl s1 look
  split at q
  ·rename_i C1 tl w0 w1 w2 w3 nid w5 em es
   simp only [Bool.and_eq_true,Bool.not_eq_true',beq_iff_eq] at q
   obtain ⟨⟨⟨⟨⟨rfl,rfl⟩,q1⟩,q2⟩,q3⟩,q4⟩:=q
   obtain ⟨a1,a2,a3,a4,a5,a6,a7,a8,a9,b1,b2⟩:=cl
   dsimp only at em q1 q3 q4
   subst em q1
   obtain rfl:s1=#[w0,w1,w2,w3,some (.builtin "ValueError.__new__"),w5]:=by
    obtain ⟨l⟩:=s1
    simp only at es; rw [es]
   exact ⟨tl,a4,a1,a5,a2,a6,a7,a8,a9,b1,d1,w0,w1,w2,w3,w5,_,X _ _ look,.of_isNs (PySem.W.isNs_of_in X q3),PySem.W.nsMap_none_of_in X q3 q4,PySem.W.tail_of_in X q2⟩
  ·cases q
 ·cases q
def XOk (X:Cx) (C:Addr) (H:Hp):Prop:=∀ (pins:List (Addr × Obj)) (σ:St) (s:Shared) (h1:Heap) (e:Addr) (vs:List Value),Inv X pins σ H s→Heap.MadeExcOf s.heap h1 e (.ref C) vs→X.xe (.ref e) { s with heap:=h1 }
def bb (X:Cx) (C:Addr) (te:TE):TS:=fun _ σ H=>te σ H fun _ H1=>XOk X C H1
theorem kd {X:Cx} {C:Addr} {x:Str} {a:Expr} {te:TE} {np cpos pos:Pos} (hc:X.calm=true) (hg:Gl X x) (hm:X.mg x=some (.ref C)) (hC:ExcK X.K C) (ha:PE X a te)
  (hdb:(x == ("__debug__":Str))=false:=by decide) (he:starEach [a] X.env=(false,eval a X.env)::starEach [] X.env:=by rfl):PS X (.Raise (some (.Call (.Name x np) [a] [] cpos)) none pos) (bb X C te):=by
 intro pins s σ H D I h
 obtain ⟨bm,N,nm,qn,bs,hdct,sn,sub,ab,col,dd,k0,k1,k2,k3,k5,mN,hO,hN,hni,T⟩:=cb I.ok.mod.kin hC
 refine PySem.wpAny_Raise_call_subU (C:=C) (nm:=nm) (q:=qn) (N:=N) (bs:=bs) (bm:=bm) (hdct:=hdct) (sn:=sn) (sub:=sub) (ab:=ab) (col:=col) (dd:=dd) (k0:=k0) (k1:=k1) (k2:=k2) (k3:=k3) (k5:=k5)
  PySem.F.excBase_ValueError (by decide) PySem.F.excBase_ValueError (mN:=mN) (T.hasType PySem.F.excBase_ValueError.hasBase) (I.ok.hd hc) (by rw [he]; rfl) hni (wG I hg hm ⟨rfl,?_⟩ hdb)
 have z:=zT ha yA he cpos pins s σ H (fun us H1=>us.length=1∧XOk X C H1) I (show te σ H (fun x H1=>[x].length=1∧XOk X C H1) from by
  have h:te σ H (fun _ H1=>XOk X C H1):=h
  simpa using h)
 rw [he] at z ⊢
 refine Calls.evalArgs_plain (thn z fun vs s1 ⟨us,H1,I1,r,hl,q⟩=>⟨rfl,?_,I1.bk _ _ hO,hN.keeps I1.bk,T.keeps I1.bk,fun h' e hx=>q pins σ s1 h' e vs I1 hx⟩)
 show vs.length≤_
 rw [← r.length,hl]
 decide
def CX1 (P:Program) (w:World):CXT:=fun outer H s E e s'=>∃ a C H',e=.ref a∧s'.os=s.os∧AllBare s'.gens∧Flies P w outer H s.heap H' a (.ref C) s'.heap∧E (.ref C) none H'
section
variable {P:Program} {w:World} {K:PySem.W.Frag} {mg:Str→Option Value} {base:Heap} {N:List Str} {qual:Str} {scope:Scope} {f C:Addr} {cd:Value} {A:Around} {outer:List Env} {s:Shared} {H H1:Hp} {E:XK}
theorem cV (h:E (.ref C) none H1):XOk (yQ (CX1 P w) P w K mg base N qual scope f cd A outer s H E) C H1:=fun pins σ s' h1 e vs I hx=>
 jY (X:=yQ (CX1 P w) P w K mg base N qual scope f cd A outer s H E) I rfl rfl rfl hx fun h' fl=>⟨e,C,H1,rfl,I.os,I.bare,fl,h⟩
theorem Ui:PassesOwn (model P w) (A.deeper (envOfC qual scope s.heap.objs.size f cd)) (envOfC qual scope s.heap.objs.size f cd) (yQ (CX1 P w) P w K mg base N qual scope f cd A outer s H E).xe:=PassesOwn.leaving
end
section
variable {X:Cx} {CX:CXT} {k:Nat} {f C:Addr} {fd:FuncData} {ps:List Str} {sp:Sp} {dvs:List V} {ds:List Value} {x y:Str} {p pos:Pos} {e:Expr} {es:List Expr} {t:TA}
def XPx (X:Cx) (pins:List (Addr × Obj)) (σ:St) (E:XK) (e:Value) (s':Shared):Prop:=∃ a C H' H1 s1,e=.ref a∧Inv X pins σ H1 s1∧s'.os=s1.os∧AllBare s'.gens∧Flies X.prog X.w X.stack H1 s1.heap H' a (.ref C) s'.heap∧E (.ref C) none H'
theorem XM (F:FnOk X.prog X.w X.K X.mg X.base (CX1 X.prog X.w) k f fd ps sp) (hr:Room k X.A) (hg:Gl X x) (hm:X.mg x=some (.ref f)) (hk:PySem.W.keepIn X.K (.ref f)=true) (hb:Binds X.K fd ps [])
  (ha:PA X.nox (e::es) t) {pins:List (Addr × Obj)} {s:Shared} {σ:St} {H:Hp} {Q:VK} {E:XK} (I:Inv X pins σ H s) (h:t σ H fun vs H1=>sp vs H1 Q E)
  (hdb:(x == ("__debug__":Str))=false:=by decide) (he:starEach (e::es) X.env=(false,eval e X.env)::starEach es X.env:=by rfl) (hpl:(backTo pos (starEach es X.env)).any (·.1)=false:=by rfl):
  wpAny (model X.prog X.w) X.A (eval (.Call (.Name x p) (e::es) [] pos) X.env) (EP X pins σ Q) (XPx X pins σ E) s:=by
 refine wpAny_Call_Name_kw (wG I hg hm ?_ hdb)
 refine PySem.W.callWith_K (h₀:=X.base) I.ok.mod.kin hk (wpAny_mono (ha pos pins s σ H _ (I.wish _) h) (fun us s1 ⟨vs,H1,I1,r,q⟩=>⟨I1.unwish.kIn,?_⟩) fun _ _ z=>z.elim) he hpl
 have I1:=I1.unwish
 have hl:us.length=ps.length:=by rw [← r.length]; exact F.len _ _ _ _ q
 refine wpAny_call (codeAny_mono (F.run X.A X.stack s1 H1 ⟨us,[]⟩ us vs Q E hr I1.env0 ?_ r q) fun rr s' hq=>?_)
 ·have z:=hb s1 us I1.kIn (by rw [List.append_nil]; exact hl)
  rw [List.append_nil] at z
  exact z
 cases rr with
 | error e=>
  obtain ⟨a,C,H',ee,os,bare,fl,z⟩:=hq
  exact ⟨a,C,H',H1,s1,ee,I1,os,bare,fl,z⟩
 | ok fl=>
  cases fl with
  | ret u=>exact I1.after hq
  | next=>exact False.elim hq
  | brk=>exact False.elim hq
  | cont=>exact False.elim hq
end
abbrev TB:=(St→Hp→Prop)→XK→St→Hp→Prop
def PB (X:Cx) (body:List Stmt) (t:TB):Prop:=∀ (pins:List (Addr × Obj)) (s:Shared) (σ:St) (H:Hp) (nx:St→Hp→Prop) (E:XK),Inv X pins σ H s→t nx E σ H→
 wpAny (model X.prog X.w) X.A (execs body X.env) (fun f s'=>f=.next∧∃ σ' H',Inv X pins σ' H' s'∧nx σ' H') (XPx X pins σ E) s
def Cx.inH (X:Cx) (a:Addr):Cx:={ X with A:=X.A.mark (some (.ref a)),calm:=false,xe:=fun _ _=>False }
section
variable {X:Cx} {pins:List (Addr × Obj)} {σ:St} {H:Hp} {s:Shared} {a:Addr}
theorem Inv.inH (I:Inv X pins σ H s) (a:Addr):Inv (X.inH a) pins σ H s:=
 ⟨⟨I.ok.mod,I.ok.kind,I.ok.glob,I.ok.blt,I.ok.above,I.ok.inj,I.ok.has,I.ok.cab,fun z=>Bool.noConfusion z,I.ok.frames,I.ok.stk,I.ok.exf,I.ok.bs,I.ok.bsz,I.ok.noex,I.ok.exfs,I.ok.funs,I.ok.frf⟩,I.os,I.bare,I.base,I.loc,I.cell,I.free,I.freeC,I.pin,I.hok,I.len⟩
theorem Inv.outH (ok:X.Ok) (I:Inv (X.inH a) pins σ H s):Inv X pins σ H s:=⟨ok,I.os,I.bare,I.base,I.loc,I.cell,I.free,I.freeC,I.pin,I.hok,I.len⟩
theorem SP.outH {D:vk} {f:Flow} {s':Shared} (ok:X.Ok) (h:SP (X.inH a) pins D f s'):SP X pins D f s':=by
 cases f with
 | next=>obtain ⟨σ',H',I,q⟩:=h; exact ⟨σ',H',I.outH ok,q⟩
 | brk=>obtain ⟨σ',H',I,q⟩:=h; exact ⟨σ',H',I.outH ok,q⟩
 | cont=>obtain ⟨σ',H',I,q⟩:=h; exact ⟨σ',H',I.outH ok,q⟩
 | ret u=>obtain ⟨v,σ',H',I,r,q⟩:=h; exact ⟨v,σ',H',I.outH ok,r,q⟩
end
section
variable {X:Cx} {t:TB} {th:TS} {y:Str} {c:Value} {py hpos pos:Pos} {body:List Stmt} {b₀:Stmt} {suite:List Stmt}
def Ud (K:PySem.W.Frag) (c:Value) (t:TB) (th:TS):TS:=fun D σ H=>t D.nx (fun cls _ H'=>PySem.W.exmOne K cls c=some true∧th D σ H') σ H
theorem ka (hstk:X.stack=X.env::X.outer) (hf:X.env.frame=some X.env.locals) (hb:PB X body t) (hh:∀ a,PSs (X.inH a) (b₀::suite) th) (hg:Gl X y) (hm:X.mg y=some c) (hd:(y == ("__debug__":Str))=false:=by decide):
  PS X (.Try body [.ExceptHandler (some (.Name y py)) none (b₀::suite) hpos] [] [] pos) (Ud X.K c t th):=by
 intro pins s σ H D I h
 have hfr:X.A.frames=some (X.env::X.outer):=by rw [← hstk]; exact I.ok.frames
 refine wpAny_Try_except (wpAny_mono (hb pins s σ H _ _ I h) (fun f s1 ⟨ef,σ',H',I',q⟩=>?_) fun e s1 hx=>?_)
 ·subst ef
  exact wpAny_execs_nil ⟨σ',H',I',q⟩
 ·obtain ⟨a,C,H',H1,s2,rfl,I1,os,bare,fl,hex,hth⟩:=hx
  obtain ⟨B,a0,fl0,go⟩:=fl.go
  have inv:∀ h',Heap.FlyingW B X.stack a (.ref C) a0 h'→s1.heap.UpToSlots h'→Inv X pins σ H' { s1 with heap:=h' }:=fun h' x1 x2=>
   have f':=go h' x1 x2
   I1.call' (s':={ s1 with heap:=h' }) os f'.un f'.hok bare (fun _ z=>nomatch z)
  rw [hstk] at fl0
  refine wpAny_looks_onW hfr hf fl0 fun h4 held4 up4=>?_
  refine wpAny_landsW held4 fun h5 fl5 up5=>?_
  have I5:=inv h5 (by rw [hstk]; exact fl5) (up4.trans up5)
  obtain ⟨ob,hob,hoc⟩:=fl5.there
  have ty:PySem.W.Looks (model X.prog X.w) h5 (typeOf (.ref a)) (.ref C):=by rw [← hoc]; exact (PySem.W.Looks.ld hob).andThen .now
  refine wpAny_handleBy_cons (codeAny_handlers_test (wG (X:=X.inH a) (I5.inH a) hg hm ((PySem.W.exm_one I5.kIn ty hex).here ?_) hd)) (by intro q; cases q)
  refine codeAny_handlers_suite ?_
  refine lands_againW fl5 fun h6 fl6 up6=>?_
  have I6:=inv h6 (by rw [hstk]; exact fl6) ((up4.trans up5).trans up6)
  exact wpAny_mono (hh a pins _ σ H' D (I6.inH a) hth) (fun f s3 q=>SP.outH I.ok q) fun _ _ z=>z.elim
end
section
variable {X:Cx} {pins:List (Addr × Obj)} {σ:St} {H:Hp} {s:Shared}
end
section
variable {X:Cx} {t:TB} {th:TS} {y n:Str} {j:Nat} {c:Value} {py hpos pos:Pos} {body:List Stmt} {b₀:Stmt} {suite:List Stmt}
end
end L2
namespace L2
open PySem PySem.Spec PyProof.Rows PySem.W PySem.Builtin PySem.Builtin.ObjectAttr PySem.Builtin.Getset_descriptor
structure cT (K:PySem.W.Frag) (C:Addr):Prop where
 ga:PySem.W.findIn K (.ref C) "__getattribute__"=some (some (.builtin "BaseException.__getattribute__"))
 gn:PySem.W.findIn K (.ref C) "__getattr__"=some none
 ha:PySem.W.findIn K (.ref C) "__class__"=some (some (.builtin "object.__class__"))
 hn:PySem.W.specialIn K (.builtin "object.__class__") "__get__"=some (some (.builtin "getset_descriptor.__get__"))
 htk:PySem.W.takesIn K (.builtin "object.__class__")=some true
 hm:PySem.W.mroIn K C (.type "object")=some true
 hb:PySem.W.mroIn K C (.type "BaseException")=some true
section
variable {prog:Program} {w:World} {A:Around} {E:Value→Shared→Prop} {s:Shared} {K:PySem.W.Frag} {a C:Addr} {oa:Obj}
end
end L2
namespace OD
open PySem PySem.Spec PyProof.Rows L2
variable {Z:Hp}
def XOn (X:Cx) (C:Addr) (H':Hp):Prop:=∀ (pins:List (Addr × Obj)) (σ:L2.St) (H:Hp) (s:Shared) (a:Addr) (s':Shared),Inv X pins σ H s→s'.os=s.os→AllBare s'.gens→Flies X.prog X.w X.stack H s.heap H' a (.ref C) s'.heap→X.xe (.ref a) s'
def UT (X:Cx):XK:=fun cls _ H'=>∃ C,cls=.ref C∧XOn X C H'
theorem tO {X:Cx}:uA (CX1 X.prog X.w) X (UT X):=fun pins σ H s e s' I ⟨a,C,H',ee,os,bare,fl,C',ec,h⟩=>by
 cases ec
 subst ee
 exact h pins σ H s a s' I os bare fl
def Rz (X:Cx) (C:Addr):Prop:=∀ H',Same (Zx X) H'→XOk X C H'∧XOn X C H'
section
variable {P:Program} {w:World} {K:PySem.W.Frag} {mg:Str→Option Value} {base:Heap} {N:List Str} {qual:Str} {scope:Scope} {f C:Addr} {cd:Value} {A:Around} {outer:List Env} {s:Shared} {H H1:Hp} {E:XK}
theorem cy (h:∀ H',Same H H'→E (.ref C) none H'):Rz (yQ (CX1 P w) P w K mg base N qual scope f cd A outer s H E) C:=fun H' z=>by
 rw [lD] at z
 refine ⟨cV (h H' z),fun pins σ H2 s2 a s' I os bare fl=>?_⟩
 exact Xm (X:=yQ (CX1 P w) P w K mg base N qual scope f cd A outer s H E) I rfl rfl rfl fl fun h' fl'=>⟨a,C,H',rfl,os.trans I.os,bare,fl',h H' z⟩
end
abbrev yt:=List Dt→(Dt→Prop)→(Addr→Prop)→Prop
def qU (K:PySem.W.Frag) (S:yt):Sp:=fun vs H Q E=>∃ (W:Vw) (ds:List Dt) (Qd:Dt→Prop) (Ed:Addr→Prop),W.h=H∧AllIs K W.g ds vs∧S ds Qd Ed∧(∀ d v W',Le W W'→Is K W'.g d v→Qd d→Q v W'.h)∧∀ C H',Same W.h H'→Ed C→E (.ref C) none H'
def xm (K:PySem.W.Frag) (S:yt):Sp:=fun vs H Q E=>∃ (W:Vw) (ds:List Dt) (Qd:Dt→Prop) (Ed:Addr→Prop),W.h=H∧AllIs K W.g ds vs∧S ds Qd Ed∧
 (∀ es p xs W',Le W W'→W.h p=none→W'.h p=some (.lst xs)→W'.g p=none→AllIs K W'.g es xs→Qd (.lst es)→Q (.ref p) W'.h)∧∀ C H',Same W.h H'→Ed C→E (.ref C) none H'
structure DOkX (P:Program) (w:World) (K:PySem.W.Frag) (mg:Str→Option Value) (base:Heap) (n:Nat) (x:Str) (S:yt):Prop where
 ex:∃ f fd ps,mg x=some (.ref f)∧PySem.W.keepIn K (.ref f)=true∧Binds K fd ps []∧FnOk P w K mg base (CX1 P w) n f fd ps (qU K S)
structure FOkX (P:Program) (w:World) (K:PySem.W.Frag) (mg:Str→Option Value) (base:Heap) (n:Nat) (x:Str) (S:yt):Prop where
 ex:∃ f fd ps,mg x=some (.ref f)∧PySem.W.keepIn K (.ref f)=true∧Binds K fd ps []∧FnOk P w K mg base (CX1 P w) n f fd ps (xm K S)
section
variable {P:Program} {w:World} {K:PySem.W.Frag} {mg:Str→Option Value} {base:Heap}
theorem Fun.okX {CX:CXT} {x qual:Str} {st:Stmt} {f:Addr} {fd:FuncData} {N ps:List Str} {k:Nat} {sp:Sp} (F:Fun K x qual st f fd) (S:zi N ps (defScope st)) (len:∀ vs H Q E,sp vs H Q E→vs.length=ps.length)
  (hbody:∀ (cdv:Value) (A:Around) (outer:List Env) (s:Shared) (H:Hp) (vs:List V) (Q:VK) (E:XK),Room k (A.deeper (envOfC qual (defScope st) s.heap.objs.size f cdv))→sp vs H Q E→
   ∃ t,PSs (yQ CX P w K mg base N qual (defScope st) f cdv A outer s H E) (defBody st) t∧t { nx:=fun _ H'=>Q .non H',rt:=Q } (start N vs) H):FnOk P w K mg base CX (k+1) f fd ps sp:=by
 obtain ⟨oc,od,kV,doc,pm,an,cdv,ct,osl,rfl,lk,hcd⟩:=F.ex
 exact cH lk hcd S len fun A outer s H vs Q E hr h=>hbody cdv A outer s H vs Q E hr h
theorem gw {x qual:Str} {st:Stmt} {f:Addr} {fd:FuncData} {N ps:List Str} {k:Nat} {S:yt} (F:Fun K x qual st f fd) (sc:zi N ps (defScope st)) (len:∀ ds Q R,S ds Q R→ds.length=ps.length)
  (hbody:∀ (cdv:Value) (A:Around) (outer:List Env) (s:Shared) (H:Hp) (E:XK),Room k (A.deeper (envOfC qual (defScope st) s.heap.objs.size f cdv))→∀ (ds:List Dt) (Q:Dt→Prop) (R:Addr→Prop),S ds Q R→
   (∀ C,R C→Rz (yQ (CX1 P w) P w K mg base N qual (defScope st) f cdv A outer s H E) C)→
   ∃ t,DSs (yQ (CX1 P w) P w K mg base N qual (defScope st) f cdv A outer s H E) .l (defBody st) t∧t { nx:=fun _=>False,rt:=Q } (yC N.length ds)):FnOk P w K mg base (CX1 P w) (k+1) f fd ps (xm K S):=by
 refine Fun.okX F sc (fun vs H Q E h=>?_) (fun cdv A outer s H vs Q E hr h=>?_)
 ·obtain ⟨W,ds,Qd,Ed,_,ia,hS,_⟩:=h
  rw [← ia.length]
  exact len ds Qd Ed hS
 obtain ⟨W,ds,Qd,Ed,rfl,ia,hS,kk,ke⟩:=h
 obtain ⟨t,⟨ts,p,l⟩,ht⟩:=hbody cdv A outer s W.h E hr ds Qd Ed hS fun C hC=>cy fun H' z=>ke C H' z hC
 exact ⟨ts,p,l W W.g (yC N.length ds) (start N vs) W { nx:=fun _=>False,rt:=Qd } _ (vS ia (rO (Nat.succ_ne_self _))) ⟨fun ρ σ W' a q=>q.elim,fun d v W' s' ⟨es,p,xs,e1,e2,e3,e4,e5,e6⟩ q=>by subst e1; subst e2; exact kk es p xs W' s' e3 e4 e5 e6 q,fun _ _ _ _ q=>q.elim,fun _ _ _ _ q=>q.elim⟩ ht⟩
theorem DOkX.mk' {x qual:Str} {st:Stmt} {f:Addr} {fd:FuncData} {ps:List Str} {n:Nat} {S:yt} (F:Fun K x qual st f fd) (hm:mg x=some (.ref f)) (hb:Binds K fd ps []) (h:FnOk P w K mg base (CX1 P w) n f fd ps (qU K S)):DOkX P w K mg base n x S:=
 ⟨f,fd,ps,hm,F.kp,hb,h⟩
theorem FOkX.mk' {x qual:Str} {st:Stmt} {f:Addr} {fd:FuncData} {ps:List Str} {n:Nat} {S:yt} (F:Fun K x qual st f fd) (hm:mg x=some (.ref f)) (hb:Binds K fd ps []) (h:FnOk P w K mg base (CX1 P w) n f fd ps (xm K S)):FOkX P w K mg base n x S:=
 ⟨f,fd,ps,hm,F.kp,hb,h⟩
theorem DOkX.mono {x:Str} {m n:Nat} {S:yt} (h:DOkX P w K mg base m x S) (hl:m≤n):DOkX P w K mg base n x S:=
 let ⟨f,fd,ps,h1,h2,h3,h4⟩:=h.ex; ⟨f,fd,ps,h1,h2,h3,h4.mono hl⟩
theorem FOkX.mono {x:Str} {m n:Nat} {S:yt} (h:FOkX P w K mg base m x S) (hl:m≤n):FOkX P w K mg base n x S:=
 let ⟨f,fd,ps,h1,h2,h3,h4⟩:=h.ex; ⟨f,fd,ps,h1,h2,h3,h4.mono hl⟩
end
section
variable {X:Cx} {e a:Expr} {es:List Expr} {t:DTA} {ta:DTE} {n:Nat} {x y:Str} {S:yt} {p pos np cpos:Pos} {fr:Fr} {C:Addr}
theorem nW {F:Hp} {W:Vw} {ρ:DS} {σ:L2.St} {K:PySem.W.Frag} (r:Rl K Z F W ρ σ):Same Z W.h:=r.z.trans r.fr
def nA (X:Cx) (S:yt) (t:DTA):DTE:=fun ρ Q=>t ρ fun ds=>S ds Q (Rz X)
theorem ir (G:DOkX X.prog X.w X.K X.mg X.base n x S) (hr:Room n X.A) (hg:Gl X x) (ha:DA X (e::es) t) (hdb:(x == ("__debug__":Str))=false:=by decide)
  (he:starEach (e::es) X.env=(false,eval e X.env)::starEach es X.env:=by rfl) (hpl:(backTo pos (starEach es X.env)).any (·.1)=false:=by rfl):DE X (.Call (.Name x p) (e::es) [] pos) (nA X S t):=by
 obtain ⟨f,fd,ps,hm,hk,hb,F⟩:=G.ex
 obtain ⟨te,p1,l1⟩:=ha
 refine ⟨_,vt F hr hg hm hk hb .nil tO p1 hdb he hpl,fun ρ σ H Q r h R k=>l1 ρ σ H _ r h _ fun ds vs H1 s1 i1 q1=>?_⟩
 rw [List.append_nil]
 exact ⟨H1,ds,Q,Rz X,rfl,i1,q1,fun d v H2 s2 i2 q2=>k d v H2 (s1.trans s2) i2 q2,fun C H' s' hC=>⟨C,rfl,(hC H' (((nW r).trans s1.h).trans s')).2⟩⟩
theorem yK (G:FOkX X.prog X.w X.K X.mg X.base n x S) (hr:Room n X.A) (hg:Gl X x) (ha:DA X (e::es) t) (hdb:(x == ("__debug__":Str))=false:=by decide)
  (he:starEach (e::es) X.env=(false,eval e X.env)::starEach es X.env:=by rfl) (hpl:(backTo pos (starEach es X.env)).any (·.1)=false:=by rfl):DF X (.Call (.Name x p) (e::es) [] pos) (nA X S t):=by
 obtain ⟨f,fd,ps,hm,hk,hb,F⟩:=G.ex
 obtain ⟨te,p1,l1⟩:=ha
 refine ⟨_,vt F hr hg hm hk hb .nil tO p1 hdb he hpl,fun ρ σ H Q r h R k=>l1 ρ σ H _ r h _ fun ds vs H1 s1 i1 q1=>?_⟩
 rw [List.append_nil]
 exact ⟨H1,ds,Q,Rz X,rfl,i1,q1,fun es p xs H2 s2 h0 h1 h2 i2 q2=>k es p xs H2 (s1.trans s2) (s1.h.free h0) h1 h2 i2 q2,fun C H' s' hC=>⟨C,rfl,(hC H' (((nW r).trans s1.h).trans s')).2⟩⟩
def Xy (X:Cx) (C:Addr) (ta:DTE):DTS:=fun _ ρ=>ta ρ fun _=>Rz X C
theorem ig (hc:X.calm=true) (hg:Gl X x) (hm:X.mg x=some (.ref C)) (hC:ExcK X.K C) (ha:DE X a ta) (hdb:(x == ("__debug__":Str))=false:=by decide)
  (he:starEach [a] X.env=(false,eval a X.env)::starEach [] X.env:=by rfl):DSt X fr (.Raise (some (.Call (.Name x np) [a] [] cpos)) none pos) (Xy X C ta):=by
 obtain ⟨te,p1,l1⟩:=ha
 exact ⟨_,kd hc hg hm hC p1 hdb he,fun W0 G ρ σ W D D' at_ s h=>l1 ρ σ W _ at_.rl h _ fun d v W1 s1 i1 q1=>(q1 W1.h ((nW at_.rl).trans s1.h)).1⟩
def jH (K:PySem.W.Frag) (Z:Hp) (fr:Fr) (t:DTS):TS:=fun D' σ H=>∃ (W0:Vw) (G:Hp) (ρ:DS) (W:Vw) (D:wY),W.h=H∧At K Z W0 G W ρ σ∧Sim K Z fr W0 G D D'∧t D ρ
theorem DSs.up {sts:List Stmt} {t:DTS} (h:DSs X fr sts t):PSs X sts (jH X.K (Zx X) fr t):=by
 obtain ⟨ts,p,l⟩:=h
 intro pins s σ H D' I q
 obtain ⟨W0,G,ρ,W,D,rfl,a,sm,ht⟩:=q
 exact p pins s σ W.h D' I (l W0 G ρ σ W D D' a sm ht)
def Vw.at (W:Vw) (H':Hp) (s:Same W.h H'):Vw:=⟨W.g,H',W.sub.trans s⟩
theorem cD {W:Vw} {H':Hp} (s:Same W.h H'):Le W (W.at H' s):=⟨Same.refl _,s,fun _ _ h=>h⟩
def Vr (K:PySem.W.Frag) (c:Value) (S:yt) (t:DTA) (th:DTS):DTS:=fun D ρ=>t ρ fun ds=>S ds (fun _=>D.nx ρ) fun C=>PySem.W.exmOne K (.ref C) c=some true∧th D ρ
variable {b₀:Stmt} {suite:List Stmt} {th:DTS} {c:Value} {py hpos epos tpos:Pos}
theorem n4 {f:Addr} {fd:FuncData} {ps:List Str} {sp:Sp} {te:TA} (F:FnOk X.prog X.w X.K X.mg X.base (CX1 X.prog X.w) n f fd ps sp) (hr:Room n X.A) (hg:Gl X x) (hm:X.mg x=some (.ref f)) (hk:PySem.W.keepIn X.K (.ref f)=true) (hb:Binds X.K fd ps []) (ha:PA X.nox (e::es) te)
  (hs:swapsWith (.Call (.Name x p) (e::es) [] pos) none epos.line X.env=pure false:=by rfl) (hdb:(x == ("__debug__":Str))=false:=by decide)
  (he:starEach (e::es) X.env=(false,eval e X.env)::starEach es X.env:=by rfl) (hpl:(backTo pos (starEach es X.env)).any (·.1)=false:=by rfl):
  PB X [.Expr (.Call (.Name x p) (e::es) [] pos) epos] (fun nx E σ H=>te σ H fun vs H1=>sp vs H1 (fun _ H2=>nx σ H2) E):=by
 intro pins s σ H nx E I h
 refine wpAny_execs_cons (wpAny_Expr_any (thn (XM F hr hg hm hk hb ha I h hdb he hpl) fun v s1 ⟨x,H1,I1,r1,q1⟩=>?_) I.quiet hs)
 exact wpAny_execs_nil ⟨rfl,σ,H1,I1,q1⟩
theorem UA (hstk:X.stack=X.env::X.outer) (hf:X.env.frame=some X.env.locals) (G:DOkX X.prog X.w X.K X.mg X.base n x S) (hr:Room n X.A) (hg:Gl X x) (ha:DA X.nox (e::es) t) (hh:∀ a,DSs (X.inH a) fr (b₀::suite) th) (hgy:Gl X y) (hmy:X.mg y=some c)
  (hs:swapsWith (.Call (.Name x p) (e::es) [] pos) none epos.line X.env=pure false:=by rfl) (hdb:(x == ("__debug__":Str))=false:=by decide) (hdy:(y == ("__debug__":Str))=false:=by decide)
  (he:starEach (e::es) X.env=(false,eval e X.env)::starEach es X.env:=by rfl) (hpl:(backTo pos (starEach es X.env)).any (·.1)=false:=by rfl):
  DSt X fr (.Try [.Expr (.Call (.Name x p) (e::es) [] pos) epos] [.ExceptHandler (some (.Name y py)) none (b₀::suite) hpos] [] [] tpos) (Vr X.K c S t th):=by
 obtain ⟨f,fd,ps,hm,hk,hb,F⟩:=G.ex
 obtain ⟨te,p1,l1⟩:=ha
 refine ⟨_,ka (th:=jH X.K (Zx X) fr th) hstk hf (n4 F hr hg hm hk hb p1 hs hdb he hpl) (fun a=>(hh a).up) hgy hmy hdy,fun W0 G ρ σ W D D' at_ s h=>?_⟩
 refine l1 ρ σ W _ at_.rl h _ fun ds vs W1 s1 i1 q1=>⟨W1,ds,_,_,rfl,i1,q1,fun d v W2 s2 i2 q2=>s.nx ρ σ W2 ((at_.step s1).step s2) q2,fun C H' s' ⟨e1,e2⟩=>⟨e1,W0,G,ρ,W1.at H' s',D,rfl,(at_.step s1).step (cD s'),s,e2⟩⟩
end
section
variable {X:Cx} {e:Expr} {es:List Expr} {t:DTA} {n:Nat} {x y m:Str} {i j:Nat} {S:yt} {p pos py hpos epos tpos:Pos} {fr:Fr} {b₀:Stmt} {suite:List Stmt} {th:DTS} {c:Value}
theorem mv (hstk:X.stack=X.env::X.outer) (hf:X.env.frame=some X.env.locals) (G:FOkX X.prog X.w X.K X.mg X.base n x S) (hr:Room n X.A) (hg:Gl X x) (ha:DA X.nox (e::es) t) (hh:∀ a,DSs (X.inH a) fr (b₀::suite) th) (hgy:Gl X y) (hmy:X.mg y=some c)
  (hs:swapsWith (.Call (.Name x p) (e::es) [] pos) none epos.line X.env=pure false:=by rfl) (hdb:(x == ("__debug__":Str))=false:=by decide) (hdy:(y == ("__debug__":Str))=false:=by decide)
  (he:starEach (e::es) X.env=(false,eval e X.env)::starEach es X.env:=by rfl) (hpl:(backTo pos (starEach es X.env)).any (·.1)=false:=by rfl):
  DSt X fr (.Try [.Expr (.Call (.Name x p) (e::es) [] pos) epos] [.ExceptHandler (some (.Name y py)) none (b₀::suite) hpos] [] [] tpos) (Vr X.K c S t th):=by
 obtain ⟨f,fd,ps,hm,hk,hb,F⟩:=G.ex
 obtain ⟨te,p1,l1⟩:=ha
 refine ⟨_,ka (th:=jH X.K (Zx X) fr th) hstk hf (n4 F hr hg hm hk hb p1 hs hdb he hpl) (fun a=>(hh a).up) hgy hmy hdy,fun W0 G ρ σ W D D' at_ s h=>?_⟩
 refine l1 ρ σ W _ at_.rl h _ fun ds vs W1 s1 i1 q1=>⟨W1,ds,_,_,rfl,i1,q1,fun es q xs W2 s2 h0 h1 h2 i2 q2=>s.nx ρ σ W2 ((at_.step s1).step s2) q2,fun C H' s' ⟨e1,e2⟩=>⟨e1,W0,G,ρ,W1.at H' s',D,rfl,(at_.step s1).step (cD s'),s,e2⟩⟩
end
end OD
namespace OD
variable {Z:Hp}
open PySem PySem.Spec PyProof.Rows L2
def zy (X:Cx) (scope:Scope) (cl:List (Str × Addr)) (bs caps:List Str) (C:Addr) (s:Shared) (H:Hp) (fp:List Addr) (pins:List (Addr × Obj)):Cx where
 prog:=X.prog
 w:=X.w
 K:=X.K
 mg:=X.mg
 base:=X.base
 A:=X.A
 N:=bs++caps
 s₀:=s
 H₀:=H
 env:=compEnvC scope cl C X.env
 outer:=X.stack
 stack:=X.stack
 ex:=fp
 fn:=fun y=>bs.contains y
 calm:=X.calm
 pn:=X.pn++pins
 xe:=fun _ _=>False
structure vU (X:Cx) (scope:Scope) (cl:List (Str × Addr)) (bs caps:List Str) (js:List Nat):Prop where
 clos:closureFor scope X.env=pure cl
 sub:∀ y c,cl.lookup y=some c→X.env.cells.lookup y=some c
 has:∀ y,((relabel scope X.env).names.lookup y=some .cell∨(relabel scope X.env).names.lookup y=some .free)→∃ c,cl.lookup y=some c
 nox:∀ x∈bs,cl.lookup x=none
 cell:∀ y∈scope.names,y.2≠.cell
 kind:scope.kind=.function
 names:∀ y∈scope.names,y.2=.local→scope.names.lookup y.1=some .local
 loc:∀ x∈bs,scope.names.lookup x=some .local
 nd:(bs++caps).Nodup
 len:js.length=caps.length
 at_:∀ (k:Nat) y,caps[k]? = some y→∃ j,js[k]? = some j∧X.N[j]? = some y
 cap:∀ y∈caps,(relabel scope X.env).names.lookup y=some .cell∧X.env.scope.names.lookup y=some .cell
theorem wy {prog:Program} {w:World} {A:Around} {s:Shared} {elt target iter:Expr} {ifs:List Expr} {scope:Scope} {pos:Pos} {it acc:Value} {env:Env} {R:Result→Shared→Prop} (I:Nat→Shared→Prop)
  (turn:∀ n s,I n s→wpAny (model prog w) A (pyNext it) (fun r s₁=>match r with
   | none=>R (.ok .next) s₁
   | some v=>wpAny (model prog w) A (letOwnedTupleGo target it v) (fun _ s₁'=>wpAny (model prog w) A (assign target env v) (fun _ s₂=>
     wpAny (model prog w) A (forIn ifs true fun c r=>if r=true then do let ok ← isTrue c env (eval c env); pure (ForInStep.yield ok) else pure (ForInStep.yield r)) (fun ok s₃=>
      if ok=true then wpAny (model prog w) A (eval elt env) (fun x s₄=>
       wpAny (model prog w) A (call (.builtin "list.append") [acc,x]) (fun _ s₅=>∃ m,m<n∧I m s₅) (notedBy (model prog w) A env fun e s'=>R (.error e) s') s₄) (notedBy (model prog w) A env fun e s'=>R (.error e) s') s₃
      else ∃ m,m<n∧I m s₃) (notedBy (model prog w) A env fun e s'=>R (.error e) s') s₂)
     (notedBy (model prog w) A env fun e s'=>R (.error e) s') s₁') (notedBy (model prog w) A env fun e s'=>R (.error e) s') s₁) (notedBy (model prog w) A env fun e s'=>R (.error e) s') s)
  (n:Nat) (h:I n s):codeAny (model prog w) A (.compLoop (.ListComp elt [⟨target,iter,ifs,0⟩] scope pos) 0 it acc env) R s:=by
 refine codeAny_loop rfl I (fun n s hI=>?_) n h
 show wpAny _ A ((compTurn (.ListComp elt [⟨target,iter,ifs,0⟩] scope pos) 0 it acc env).onRaise (fun x=>do noteFrame x env; theTreesLotGoes x)) _ _ s
 refine wpAny_noted ?_
 rw [compTurn_list]
 refine wpAny_bind (wpAny_standAt (wpAny_bind (wpAny_mono (turn n s hI) (fun r s₁ h₁=>?_) fun _ _ h'=>h')))
 cases r with
 | none=>exact wpAny_pure h₁
 | some v=>
  refine wpAny_bind (wpAny_mono h₁ (fun _ s₁' h₁'=>?_) fun _ _ h'=>h')
  refine wpAny_bind (wpAny_mono h₁' (fun _ s₂ h₂=>wpAny_bind (wpAny_mono h₂ (fun ok s₃ h₃=>?_) fun _ _ h'=>h')) fun _ _ h'=>h')
  cases ok with
  | false=>exact wpAny_pure ⟨rfl,h₃⟩
  | true=>
   exact wpAny_bind (wpAny_bind (wpAny_mono h₃ (fun x s₄ h₄=>wpAny_bind (wpAny_mono h₄ (fun _ s₅ h₅=>wpAny_pure (wpAny_pure ⟨rfl,h₅⟩)) fun _ _ h'=>h')) fun _ _ h'=>h'))
def PC (X:Cx) (ifs:List Expr) (t:TT):Prop:=
 ∀ (pins:List (Addr × Obj)) (s:Shared) (σ:St) (H:Hp) (Q:Bool→Hp→Prop) (E:Value→Shared→Prop),(∀ v s,X.xe v s→E v s)→Inv X pins σ H s→t σ H Q→
  wpAny (model X.prog X.w) X.A (forIn ifs true fun c r=>if r=true then do let ok ← isTrue c X.env (eval c X.env); pure (ForInStep.yield ok) else pure (ForInStep.yield r)) (TP X pins σ Q) E s
theorem bF {X:Cx}:PC X [] (fun _ H Q=>Q true H):=fun _ _ _ H _ _ _ I h=>wpAny_tests_nil ⟨H,I,h⟩
theorem bE {X:Cx} {c:Expr} {t:TT} (p:PT X c t):PC X [c] t:=fun pins s σ H Q _ hE I h=>wpAny_tests_one (wpAny_mono (p pins s σ H Q I h) (fun _ _ z=>z) hE)
section
variable {X:Cx} {pins:List (Addr × Obj)} {σ:St} {H:Hp} {s:Shared} {scope:Scope} {cl:List (Str × Addr)} {bs caps:List Str} {js:List Nat} {fp:List Addr}
theorem lj {h₁:Heap} {t:Nat} {m:Str→Option Value} (I:Inv X pins σ H s) (S:vU X scope cl bs caps js) (hfp:∀ b∈fp,wR X pins H b) (hob:∀ b∈fp,∃ o,s.heap.get? b=some o)
  (hn:h₁.Ns s.heap.objs.size m) (hk:∀ b o,s.heap.get? b=some o→h₁.get? b=some o):Inv (zy X scope cl bs caps s.heap.objs.size s H fp pins) [] (bs.map (fun _=>none)++uy σ js) H { s with heap:=h₁,toks:=t }:=by
 refine ⟨⟨I.ok.mod,S.kind,I.ok.glob,I.ok.blt,Nat.le_refl _,fun y z c h1 h2=>?_,fun y hy=>?_,fun y c hf h=>?_,I.ok.hd,I.ok.frames,.inl rfl,fun b hb=>⟨?_,fun y c h=>?_⟩,I.bs,Nat.le_trans I.ok.bsz I.sz,fun b o e hb=>?_,fun b hb z=>?_,I.stack,I.stkFree⟩,
  rfl,I.bare,Un.kept hk,⟨_,hn,fun i y v h1 h2 h3=>?_⟩,fun y c h=>?_,I.hok.fresh (Nat.le_refl _),fun y c h=>?_,fun p hp=>?_,I.hok.kept hk,?_⟩
 ·exact I.ok.inj y z c (S.sub y c h1) (S.sub z c h2)
 ·exact S.has y hy
 ·have hf:y∈bs:=List.contains_iff_mem.mp hf
  have h:cl.lookup y=some c:=h
  rw [S.nox y hf] at h
  cases h
 ·obtain ⟨o,e⟩:=hob b hb
  exact Nat.ne_of_lt (Heap.lt_size e)
 ·exact (hfp b hb).2.2.2.2.1 y c (S.sub y c h)
 ·obtain ⟨_,_,_,h4,_⟩:=hfp b hb
  rcases h4 with h4 | h4
  ·exact I.ok.noex b o e h4
  ·exact absurd (Nat.lt_of_lt_of_le (Heap.lt_size e) (Nat.le_trans I.ok.bsz h4)) (Nat.lt_irrefl _)
 ·obtain ⟨_,h2,h3,_⟩:=hfp b hb
  rcases List.mem_cons.mp (I.stkSub b z) with q | q
  ·exact h2 q
  ·exact h3 q
 ·by_cases hi:i<bs.length
  ·rw [List.getElem?_append_left (by rw [List.length_map]; exact hi),List.getElem?_map] at h2
   obtain ⟨_,_,e⟩:=Option.map_eq_some_iff.mp h2
   cases e
  ·have hi:bs.length≤i:=Nat.le_of_not_lt hi
   have h1:(bs++caps)[i]? = some y:=h1
   rw [List.getElem?_append_right hi] at h1
   rw [List.getElem?_append_right (by rw [List.length_map]; exact hi),List.length_map] at h2
   obtain ⟨j,hj,hN⟩:=S.at_ _ y h1
   have hv:σ[j]? = some (some v):=by
    unfold uy at h2
    rw [List.getElem?_map,hj] at h2
    have h2:(σ[j]?).getD none=some v:=Option.some.inj h2
    cases q:σ[j]? with
    | none=>rw [q] at h2; cases h2
    | some w=>rw [q] at h2; exact congrArg some h2
   obtain ⟨c1,c2⟩:=S.cap y (List.mem_of_getElem? h1)
   obtain ⟨m0,_,hl⟩:=I.loc
   obtain ⟨u,ru,lk⟩:=hl j y v hN hv (.inr (.inl c2))
   refine ⟨u,ru,.inr ⟨.inl c1,?_⟩⟩
   obtain ⟨c,hc⟩:=S.has y (.inl c1)
   rcases lk with ⟨lk,_⟩ | ⟨_,c',hc',hcell⟩
   ·have lk:X.env.scope.names.lookup y=some .local:=lk
    rw [c2] at lk
    cases lk
   ·have e:=S.sub y c hc
    rw [hc'] at e
    cases e
    obtain ⟨o,ho,hd⟩:=hcell
    exact ⟨_,hc,o,hk _ _ ho,hd⟩
 ·obtain ⟨v,o,ho,hd⟩:=I.cell y c (S.sub y c h)
  exact ⟨v,o,hk _ _ ho,hd⟩
 ·exact I.freeC y c (S.sub y c h)
 ·have hp:p∈X.pn++pins:=by
   rcases List.mem_append.mp hp with q | q
   ·exact q
   ·cases q
  obtain ⟨h1,h2,h3,h4,h5⟩:=I.pin p hp
  refine ⟨hk _ _ h1,h2,Nat.ne_of_lt (Heap.lt_size h1),fun z=>?_,h5⟩
  rcases List.mem_cons.mp (I.stkSub _ z) with q | q
  ·exact h3 q
  ·exact h4 q
 ·show (bs.map (fun _=>none)++uy σ js).length=(bs++caps).length
  unfold uy
  rw [List.length_append,List.length_append,List.length_map,List.length_map,S.len]
theorem lm {C:Addr} {σ':St} {H':Hp} {s':Shared} (I:Inv X pins σ H s) (hfp:∀ b∈fp,wR X pins H b) (I':Inv (zy X scope cl bs caps C s H fp pins) [] σ' H' s'):Inv X pins σ H' s':=
 I.call' (ch:=fp) I'.os I'.base I'.hok I'.bare fun b hb=>by
  obtain ⟨_,h2,_,h4,h5,h6⟩:=hfp b hb
  exact ⟨h4,h2,h5,h6⟩
def qe (gt:TG) (tt:TT) (te:TE) (k:Nat) (τ:St) (Q:V→Hp→Prop):It→Hp→Prop:=fun J H1=>∃ n:Nat,n<sizeLine∧∀ D,H1 D=none→∃ (Pv:Nat→List V→Hp→Prop) (Nx:Nat→V→List V→Hp→Prop),
 Pv 0 [] (upd H1 D (.lst []))∧(∀ i ys H2,i≤n→Pv i ys H2→H2 D=some (.lst ys)∧ys.length≤i)∧
 (∀ i ys H2,i<n→Pv i ys H2→J.go i H2∧∀ v H3,J.yld i H2 v H3→Nx i v ys H3)∧(∀ ys H2,Pv n ys H2→J.stop n H2)∧
 (∀ i v ys H2 (σ0:St),i<n→Nx i v ys H2→σ0.length=k→gt v (σ0++τ) H2 fun σ1 H3=>(∃ σ2:St,σ1=σ2++τ∧σ2.length=k)∧tt σ1 H3 fun b H4=>
  if b=true then te σ1 H4 fun y H5=>H5 D=some (.lst ys)∧Pv (i+1) (ys++[y]) (upd H5 D (.lst (ys++[y]))) else Pv (i+1) ys H4)∧∀ ys H2,Pv n ys H2→Q (.ref D) H2
def oB (wi:TI) (gt:TG) (tt:TT) (te:TE) (k:Nat) (js:List Nat):TE:=fun σ H Q=>wi σ H (qe gt tt te k (uy σ js) Q)
theorem om {elt tg iter:Expr} {ifs:List Expr} {pos:Pos} {it D:Addr} {n:Nat} {J:It} {Nx:Nat→V→List V→Hp→Prop} {τ:St} {tn:Nat→Heap→Prop} {gt:TG} {tt:TT} {te:TE} {R:Result→Shared→Prop} {s₄:Shared} {Pv:Nat→List V→Hp→Prop} {C:Addr} (hc:X.calm=true)
  (hg:PG (zy X scope cl bs caps C s H fp pins) tg gt) (ht':PC (zy X scope cl bs caps C s H fp pins) ifs tt)
  (he:PE (zy X scope cl bs caps C s H fp pins) elt te) {σ0:St} (hσ0:σ0.length=bs.length) (I:Inv (zy X scope cl bs caps C s H fp pins) [] (σ0++τ) H s₄) (T:nE X.prog X.w X.K tg J fp it tn) (t0:tn 0 s₄.heap)
  (hfp:∀ b∈fp,wR (zy X scope cl bs caps C s H fp pins) [] H b) (hn:n<sizeLine)
  (h0:Pv 0 [] H) (hl:∀ i ys H2,i≤n→Pv i ys H2→H2 D=some (.lst ys)∧ys.length≤i)
  (hgo:∀ i ys H2,i<n→Pv i ys H2→J.go i H2∧∀ v H3,J.yld i H2 v H3→Nx i v ys H3) (hst:∀ ys H2,Pv n ys H2→J.stop n H2)
  (ht:∀ i v ys H2 (σ0:St),i<n→Nx i v ys H2→σ0.length=bs.length→gt v (σ0++τ) H2 fun σ1 H3=>(∃ σ2:St,σ1=σ2++τ∧σ2.length=bs.length)∧tt σ1 H3 fun b H4=>
   if b=true then te σ1 H4 fun y H5=>H5 D=some (.lst ys)∧Pv (i+1) (ys++[y]) (upd H5 D (.lst (ys++[y]))) else Pv (i+1) ys H4)
  (hR:∀ σ' H' ys s',Inv (zy X scope cl bs caps C s H fp pins) [] σ' H' s'→Pv n ys H'→R (.ok .next) s'):
  codeAny (model X.prog X.w) X.A (.compStart (.ListComp elt [⟨tg,iter,ifs,0⟩] scope pos) 0 (.ref it) (.ref D) (compEnvC scope cl C X.env)) R s₄:=by
 have loop:codeAny (model X.prog X.w) X.A (.compLoop (.ListComp elt [⟨tg,iter,ifs,0⟩] scope pos) 0 (.ref it) (.ref D) (compEnvC scope cl C X.env)) R s₄:=by
  refine wy (fun k s'=>∃ i ys,∃ σ1:St,∃ H',k=n+1 - i∧i≤n∧σ1.length=bs.length∧Inv (zy X scope cl bs caps C s H fp pins) [] (σ1++τ) H' s'∧tn i s'.heap∧(∀ b∈fp,wR (zy X scope cl bs caps C s H fp pins) [] H' b)∧Pv i ys H') ?_ (n+1) ⟨0,[],σ0,H,rfl,Nat.zero_le _,hσ0,I,t0,hfp,h0⟩
  rintro k s' ⟨i,ys,σ1,H',rfl,hi,hσ1,I',tn',hfp',hp⟩
  obtain ⟨q2,q3⟩:=hl i ys H' hi hp
  by_cases hlt:i<n
  ·obtain ⟨g,gy⟩:=hgo i ys H' hlt hp
   refine wpAny_mono (T.item (zy X scope cl bs caps C s H fp pins) rfl rfl rfl hc i [] s' (σ1++τ) H' (notedBy (model X.prog X.w) X.A (compEnvC scope cl C X.env) fun e s'=>R (.error e) s') I' hfp' tn' g) (fun r s1 ⟨u,er,hq⟩=>?_) fun _ _ z=>z
   subst er
   refine wpAny_mono hq (fun _ s1' hq'=>?_) fun _ _ z=>z
   obtain ⟨v,H1,I1,rv,yv,tn1,fn1⟩:=hq'
   have hv:=gy v H1 yv
   have hfp1:∀ b∈fp,wR (zy X scope cl bs caps C s H fp pins) [] H1 b:=fun b hb=>⟨fn1 b hb,(hfp' b hb).2⟩
   have hpin:∀ b∈fp,∃ o,s1'.heap.get? b=some o∧∀ v,o.data≠.cell v:=T.obj (i+1) s1'.heap tn1
   have IP:Inv (zy X scope cl bs caps C s H fp pins) (xA fp s1'.heap) (σ1++τ) H1 s1':=by
    have:=I1.pinned hfp1 hpin
    rw [List.nil_append] at this
    exact this
   refine wpAny_mono (hg (xA fp s1'.heap) s1' (σ1++τ) H1 v u _ IP rv (ht i v ys H1 σ1 hlt hv hσ1)) (fun _ s2 h2=>?_) fun _ _ z=>z.elim
   obtain ⟨σ2',H2,I2,⟨σ2,e2,l2⟩,w2⟩:=h2
   subst e2
   refine wpAny_mono (ht' (xA fp s1'.heap) s2 (σ2++τ) H2 _ (fun _ _=>False) (fun _ _ z=>z) I2 w2) (fun b s3 h3=>?_) fun _ _ z=>z.elim
   obtain ⟨H3,I3,w3⟩:=h3
   have pinned:∀ {s4:Shared} {H4:Hp} {σ4:St},Inv (zy X scope cl bs caps C s H fp pins) (xA fp s1'.heap) σ4 H4 s4→∀ b∈fp,∀ o,s1'.heap.get? b=some o→s4.heap.get? b=some o∧H4 b=none:=fun I4 b hb o e=>
    have z:=I4.pin (b,o) (List.mem_append_right _ (vc hb e))
    ⟨z.1,z.2.1⟩
   cases b with
   | false=>
    have w3:Pv (i+1) ys H3:=w3
    show ∃ m,m<n+1 - i∧_
    refine ⟨n+1 - (i+1),by omega,i+1,ys,σ2,H3,rfl,hlt,l2,I3.pins_of (fun p z=>nomatch z),T.keep _ _ _ tn1 fun b hb o e=>(pinned I3 b hb o e).1,fun b hb=>⟨?_,(hfp' b hb).2⟩,w3⟩
    obtain ⟨o,e,_⟩:=hpin b hb
    exact (pinned I3 b hb o e).2
   | true=>
    show wpAny _ _ _ _ _ _
    refine wpAny_mono (he (xA fp s1'.heap) s3 (σ2++τ) H3 _ I3 w3) (fun y s4 h4=>?_) fun _ _ z=>z.elim
    obtain ⟨y',H4,I4,ry,hD,hp4⟩:=h4
    refine wpAny_mono (rq (X:=zy X scope cl bs caps C s H fp pins) (xA fp s1'.heap) s4 (σ2++τ) H4 (.ref D) [y'] (.ref D) [y] (fun _ H5=>H5=upd H4 D (.lst (ys++[y']))) I4 rfl (.cons ry .nil) ⟨D,ys,y',rfl,rfl,hD,by omega,rfl⟩) (fun _ s5 h5=>?_) fun _ _ z=>z.elim
    obtain ⟨_,H5,I5,_,e5⟩:=h5
    subst e5
    refine ⟨n+1 - (i+1),by omega,i+1,ys++[y'],σ2,_,rfl,hlt,l2,I5.pins_of (fun p z=>nomatch z),T.keep _ _ _ tn1 fun b hb o e=>(pinned I5 b hb o e).1,fun b hb=>⟨?_,(hfp' b hb).2⟩,hp4⟩
    obtain ⟨o,e,_⟩:=hpin b hb
    exact (pinned I5 b hb o e).2
  ·have e:i=n:=by omega
   subst e
   refine wpAny_mono (T.done (zy X scope cl bs caps C s H fp pins) rfl rfl rfl hc i [] s' (σ1++τ) H' (fun _ _=>False) I' hfp' tn' (hst ys H' hp)) (fun r s1 ⟨er,I1⟩=>?_) fun _ _ z=>z.elim
   subst er
   exact hR _ H' ys s1 I1 hp
 exact codeAny_compStart_list loop (T.self X.A 0 s₄ _ _ t0 loop)
theorem sr {elt tg iter:Expr} {ifs:List Expr} {pos:Pos} {gt:TG} {tt:TT} {te:TE} {Q:V→Hp→Prop} {s2:Shared} {it:Addr} {tn:Nat→Heap→Prop} {J:It} {H':Hp} {RR:Value→Addr→Result→Shared→Prop} {E:Value→Shared→Prop} (hc:X.calm=true) (S:vU X scope cl bs caps js)
  (hg:∀ C s H fp pins,PG (zy X scope cl bs caps C s H fp pins) tg gt) (ht':∀ C s H fp pins,PC (zy X scope cl bs caps C s H fp pins) ifs tt)
  (he:∀ C s H fp pins,PE (zy X scope cl bs caps C s H fp pins) elt te) (I2:Inv X pins σ H' s2) (T:nE X.prog X.w X.K tg J fp it tn) (t0:tn 0 s2.heap) (hfp:∀ b∈fp,wR X pins H' b) (hr:qe gt tt te bs.length (uy σ js) Q J H')
  (hRR:∀ D C H3 s',Inv X pins σ H3 s'→(∃ m,s'.heap.Ns C m)→H3 C=none→C≠X.env.locals→X.s₀.heap.objs.size≤C→(∀ y c,X.env.cells.lookup y=some c→c≠C)→(∀ p∈X.pn++pins,p.1≠C)→Q (.ref D) H3→
   RR (.ref D) C (.ok .next) s'):
  wpAny (model X.prog X.w) X.A (newList []) (fun acc s₃=>wpAny (model X.prog X.w) X.A (newFunctionEnv scope X.env.globals cl [] X.env.qual none .none (some X.env)) (fun cenv s₄=>
   codeAny (model X.prog X.w) X.A (.compStart (.ListComp elt [⟨tg,iter,ifs,0⟩] scope pos) 0 (.ref it) acc { cenv with scope:=relabel scope X.env }) (RR acc cenv.locals) s₄) E s₃) E s2:=by
 obtain ⟨n,hn,hD⟩:=hr
 obtain ⟨Pv,Nx,h0,hl,hgo,hst,ht,hd⟩:=hD s2.heap.objs.size I2.fresh
 refine wpAny_newObj_type (wpAny_newFunctionEnv S.cell (by intro y hy; simp at hy) (fun h₁ hns₁ hsb₁=>?_) S.kind)
 dsimp only at hns₁ hsb₁ ⊢
 have I3:Inv X pins σ (upd H' s2.heap.objs.size (.lst [])) { s2 with heap:=s2.heap.push { cls:=.type "list",data:=.seq ([]:List Value).toArray } }:=I2.lnew (its:=[]) (t':=s2.toks) .nil (by show 0≤sizeLine; omega)
 have hob:=T.obj 0 s2.heap t0
 have keep:∀ b o,(s2.heap.push { cls:=.type "list",data:=.seq ([]:List Value).toArray }).get? b=some o→h₁.get? b=some o:=fun b o e=>
  hsb₁.extBut b o (Nat.ne_of_lt (Heap.lt_size e)) (Heap.get?_push_of_some _ e)
 have fp3:∀ b∈fp,wR X pins (upd H' s2.heap.objs.size (.lst [])) b:=fun b hb=>by
  obtain ⟨o,e,_⟩:=hob b hb
  exact ⟨(zr (Nat.ne_of_lt (Heap.lt_size e))).trans (hfp b hb).1,(hfp b hb).2⟩
 have IY:=lj (t:=s2.toks+([]:List (Str × Value)).length) I3 S fp3 (fun b hb=>by
  obtain ⟨o,e,_⟩:=hob b hb
  exact ⟨o,Heap.get?_push_of_some _ e⟩) hns₁ keep
 refine om (D:=s2.heap.objs.size) (n:=n) (Nx:=Nx) (Pv:=Pv) hc (hg _ _ _ _ _) (ht' _ _ _ _ _) (he _ _ _ _ _) (List.length_map _) IY T (T.keep _ _ _ t0 fun b hb o e=>keep b o (Heap.get?_push_of_some _ e)) (fun b hb=>?_) hn h0 hl hgo hst ht (fun σ' H3 ys s' I' hp=>?_)
 ·obtain ⟨f1,f2,f3,f4,f5,f6⟩:=fp3 b hb
  obtain ⟨o,e,_⟩:=hob b hb
  refine ⟨f1,Nat.ne_of_lt (Heap.lt_size (Heap.get?_push_of_some _ e)),fun z=>?_,.inl hb,fun y c h=>f5 y c (S.sub y c h),fun p hp=>?_⟩
  ·rcases List.mem_cons.mp (I3.stkSub b z) with q | q
   ·exact f2 q
   ·exact f3 q
  ·rcases List.mem_append.mp hp with q | q
   ·exact f6 p q
   ·cases q
 ·obtain ⟨m,hn,_⟩:=I'.loc
  refine hRR _ _ H3 s' (lm I3 fp3 I') ⟨m,hn⟩ I'.free (Nat.ne_of_gt I3.lt) I3.sz (fun y c h z=>?_) (fun p hp z=>?_) (hd ys H3 hp)
  ·obtain ⟨v,q⟩:=I3.cell y c h
   exact absurd q.lt (by rw [z]; exact Nat.lt_irrefl _)
  ·exact absurd (Heap.lt_size (I3.pin p hp).1) (by rw [z]; exact Nat.lt_irrefl _)
theorem kr {elt tg iter:Expr} {ifs:List Expr} {pos:Pos} {wi:TI} {gt:TG} {tt:TT} {te:TE} (hc:X.calm=true) (S:vU X scope cl bs caps js) (hl:PI X tg iter wi) (hg:∀ C s H fp pins,PG (zy X scope cl bs caps C s H fp pins) tg gt)
  (ht':∀ C s H fp pins,PC (zy X scope cl bs caps C s H fp pins) ifs tt) (he:∀ C s H fp pins,PE (zy X scope cl bs caps C s H fp pins) elt te)
  (hs:∀ y,foldedSetIterable iter X.env y=pure y:=by intro _; rfl):PE X (.ListComp elt [⟨tg,iter,ifs,0⟩] scope pos) (oB wi gt tt te bs.length js):=by
 intro pins s σ H Q I h
 rw [eval_ListComp]
 refine wpAny_comprehension_free (use:=none) rfl hs S.clos S.kind S.names (thn (hl pins s σ H (qe gt tt te bs.length (uy σ js) Q) I h) fun v s1 h1=>thn h1 fun itv s2 h2=>?_)
 obtain ⟨it,fp,tn,J,H',rfl,I2,T,t0,hfp,hr⟩:=h2
 refine sr (RR:=fun acc C=>compPost (model X.prog X.w) X.A X.xe none (EP X pins σ Q) acc C) hc S hg ht' he I2 T t0 hfp hr ?_
 intro D C H3 s' I' ⟨m,hn⟩ hC h1 h2 h3 h4 q
 exact ⟨m,hn,fun h' hs'=>⟨.ref D,H3,I'.turned (it:=C) (fun b o hb e=>hs'.extBut b o hb e) hC h1 (.inr h2) h3 h4,rfl,q⟩⟩
theorem pr {elt tg iter:Expr} {ifs:List Expr} {y:Str} {i:Nat} {py pos spos:Pos} {wi:TI} {gt:TG} {tt:TT} {te:TE} (hc:X.calm=true) (S:vU X scope cl bs caps js) (hN:X.N.Nodup) (hi:X.N[i]? = some y) (hy:Loc X.env.scope y) (hl:PI X tg iter wi) (hg:∀ C s H fp pins,PG (zy X scope cl bs caps C s H fp pins) tg gt)
  (ht':∀ C s H fp pins,PC (zy X scope cl bs caps C s H fp pins) ifs tt) (he:∀ C s H fp pins,PE (zy X scope cl bs caps C s H fp pins) elt te)
  (hsw:swapsWith (.ListComp elt [⟨tg,iter,ifs,0⟩] scope pos) (some (.Name y py)) spos.line X.env=pure true) (hs:∀ y,foldedSetIterable iter X.env y=pure y:=by intro _; rfl)
  (hf:X.fn y=true∨X.env.scope.names.lookup y=some .local:=by first | exact .inl rfl | exact .inr rfl | assumption):
  PS X (.Assign [.Name y py] (.ListComp elt [⟨tg,iter,ifs,0⟩] scope pos) spos) (ba (oB wi gt tt te bs.length js) (p6 i)):=by
 intro pins s σ H D I h
 rw [exec_Assign_Name_used _ _ _ _ hsw]
 refine wpAny_bind (wpAny_standAt (wpAny_bind ?_))
 show wpAny _ X.A (do let _ ← comprehension (.ListComp elt [⟨tg,iter,ifs,0⟩] scope pos) scope X.env _ (newList []) false (eval iter X.env) (some (assign (.Name y py) X.env))) _ _ s
 refine wpAny_bind (wpAny_mono (wpAny_comprehension_free (use:=some (assign (.Name y py) X.env)) (Q:=fun _ s'=>SP X pins D .next s') rfl hs S.clos S.kind S.names (thn (hl pins s σ H (qe gt tt te bs.length (uy σ js) fun v H1=>p6 i v σ H1 D.nx) I h) fun v s1 h1=>thn h1 fun itv s2 h2=>?_))
  (fun _ s' hq=>wpAny_pure (wpAny_pure hq)) fun _ _ e=>e)
 obtain ⟨it,fp,tn,J,H',rfl,I2,T,t0,hfp,hr⟩:=h2
 refine sr (RR:=fun acc C=>compPost (model X.prog X.w) X.A X.xe (some (assign (.Name y py) X.env)) (fun _ s'=>SP X pins D .next s') acc C) hc S hg ht' he I2 T t0 hfp hr ?_
 intro A C H3 s' I' ⟨m,hn⟩ hC h1 h2 h3 h4 q
 refine wpAny_assign_Name (rg I' hN hi hy (v:=.ref A) rfl (fun s3 I3 ⟨b,hb,hbb⟩=>?_) hf)
 have hCb:C≠b:=by
  rcases hbb with e | e
  ·rw [e]; exact h1
  ·exact fun z=>h3 y b e z.symm
 exact ⟨m,hn.sameBut hb hCb,fun h' hs'=>⟨_,H3,I3.turned (it:=C) (fun b o hb e=>hs'.extBut b o hb e) hC h1 (.inr h2) h3 h4,q⟩⟩
end
end OD
namespace OD
variable {Z:Hp}
open PySem PySem.Spec PyProof.Rows L2
def u7 (osc scope:Scope) (bs caps:List Str) (js:List Nat) (N:List Str):Bool:=
 scope.names.all (fun y=>y.2 != .cell && (y.2 != .local || scope.names.lookup y.1 == some .local) && (y.2 != .free || (osc.names.lookup y.1 == some .cell && !bs.contains y.1))) && (scope.kind == .function) && (osc.kind == .function) && bs.all (fun x=>scope.names.lookup x == some .local) &&
 decide (bs++caps).Nodup && (js.map (fun j=>N[j]?) == caps.map some) && caps.all (fun y=>scope.names.lookup y == some .free && osc.names.lookup y == some .cell)
theorem mx {X:Cx} {osc scope:Scope} {bs:List Str} {caps:List Str} {js:List Nat} {L:Addr} (h:u7 osc scope bs caps js X.N=true) (he:X.env.scope=osc) (hc:X.env.cells=cellsFrom (L+1) osc.names []):vU X scope (x6 X.env.cells scope.names) bs caps js:=by
 unfold u7 at h
 simp only [Bool.and_eq_true] at h
 obtain ⟨⟨⟨⟨⟨⟨h1,h2⟩,h3⟩,h4⟩,h5⟩,h6⟩,h7⟩:=h
 rw [List.all_eq_true] at h1 h4 h7
 have hfree:∀ y,(y,NameKind.free)∈scope.names→osc.names.lookup y=some .cell∧bs.contains y=false:=fun y hy=>by
  have q:=h1 _ hy
  rw [Bool.and_eq_true,Bool.and_eq_true] at q
  have q:(osc.names.lookup y == some .cell && !bs.contains y)=true:=q.2
  rw [Bool.and_eq_true] at q
  exact ⟨eq_of_beq q.1,by cases z:bs.contains y with | false=>rfl | true=>rw [z] at q; cases q.2⟩
 have hcell:∀ y,osc.names.lookup y=some .cell→∃ c,X.env.cells.lookup y=some c:=fun y hy=>by rw [hc]; exact su hy
 have hfc:∀ y,(y,NameKind.free)∈scope.names→∃ c,X.env.cells.lookup y=some c:=fun y hy=>hcell y (hfree y hy).1
 have hk:X.env.scope.kind=.function:=by rw [he]; exact eq_of_beq h3
 have hj:js.map (fun j=>X.N[j]?)=caps.map some:=eq_of_beq h6
 refine ⟨cm hfc,fun y c q=>(mem_clOf.mp (PySem.mem_of_lookup q)).2,fun y q=>?_,fun x hx=>?_,fun y hy e=>?_,eq_of_beq h2,fun y hy e=>?_,fun x hx=>eq_of_beq (h4 x hx),of_decide_eq_true h5,?_,fun k y q=>?_,fun y hy=>?_⟩
 ·have:(y,NameKind.free)∈scope.names:=by
   have mem:∃ k,(y,k)∈(relabel scope X.env).names∧(k=.cell∨k=.free):=by
    rcases q with q | q
    ·exact ⟨_,PySem.mem_of_lookup q,.inl rfl⟩
    ·exact ⟨_,PySem.mem_of_lookup q,.inr rfl⟩
   obtain ⟨k,hm,hk'⟩:=mem
   obtain ⟨⟨n,k0⟩,hn,e⟩:=List.mem_map.mp hm
   have ncell:k0≠.cell:=fun z=>by
    have q:=h1 _ hn
    rw [Bool.and_eq_true,Bool.and_eq_true] at q
    exact absurd z (bne_iff_ne.mp q.1.1)
   dsimp only at e
   split at e
   ·rename_i hz
    rw [Bool.and_eq_true,Bool.and_eq_true] at hz
    obtain rfl:=eq_of_beq hz.1.1
    cases e
    exact hn
   ·cases e
    rcases hk' with z | z
    ·exact absurd z ncell
    ·rw [z] at hn; exact hn
  obtain ⟨c,hc'⟩:=hfc y this
  exact sd (mem_clOf.mpr ⟨this,hc'⟩)
 ·cases q:(x6 X.env.cells scope.names).lookup x with
  | none=>rfl
  | some c=>
   have z:=(hfree x (mem_clOf.mp (PySem.mem_of_lookup q)).1).2
   rw [List.contains_iff_mem.mpr hx] at z
   cases z
 ·have q:=h1 y hy
  rw [Bool.and_eq_true,Bool.and_eq_true] at q
  exact absurd e (bne_iff_ne.mp q.1.1)
 ·have q:=h1 y hy
  rw [Bool.and_eq_true,Bool.and_eq_true,e] at q
  exact eq_of_beq (show (scope.names.lookup y.1 == some .local)=true from q.1.2)
 ·have:=congrArg List.length hj
  rwa [List.length_map,List.length_map] at this
 ·have e:(js.map fun j=>X.N[j]?)[k]? = (caps.map some)[k]?:=by rw [hj]
  rw [List.getElem?_map,List.getElem?_map,q] at e
  obtain ⟨j,hj1,hj2⟩:=Option.map_eq_some_iff.mp e
  exact ⟨j,hj1,hj2⟩
 ·have q:=h7 y hy
  rw [Bool.and_eq_true] at q
  have q2:X.env.scope.names.lookup y=some .cell:=by rw [he]; exact eq_of_beq q.2
  exact ⟨yS hk (eq_of_beq q.1) q2,q2⟩
theorem nX {K:PySem.W.Frag} {F:Hp} {W W2:Vw} {ρ:DS} {σ:St} {js:List Nat} {ds:List Dt} {vs:List V} (r:Rl K Z F W ρ σ) (s2:Same W.g W2.g) (i:AllIs K W2.g ds vs):Rl K (fun _=>none) W2.h W2 (ds.map Sl.some++vg ρ js) (vs.map some++uy σ js):=by
 have no:∀ (j:Nat) (es:List Dt),(ds.map Sl.some++vg ρ js)[j]? = some (.own es)→False:=fun j es q=>by
  have q:=List.mem_of_getElem? q
  rcases List.mem_append.mp q with q | q
  ·obtain ⟨_,_,e⟩:=List.mem_map.mp q
   cases e
  ·unfold vg at q
   obtain ⟨j,_,e⟩:=List.mem_map.mp q
   split at e <;> cases e
 have noA:∀ (j:Nat) (a:Addr) (es:List Dt),(ds.map Sl.some++vg ρ js)[j]? = some (.arg a es)→False:=fun j a es q=>by
  have q:=List.mem_of_getElem? q
  rcases List.mem_append.mp q with q | q
  ·obtain ⟨_,_,e⟩:=List.mem_map.mp q
   cases e
  ·unfold vg at q
   obtain ⟨j,_,e⟩:=List.mem_map.mp q
   split at e <;> cases e
 refine ⟨by unfold vg uy; rw [List.length_append,List.length_append,List.length_map,List.length_map,List.length_map,List.length_map,i.length],fun j e q=>?_,fun j ds q=>(no j ds q).elim,fun j j' ds ds' _ q _=>(no j ds q).elim,Same.refl _,(fun _ _ q=>nomatch q),fun j a ds q=>(noA j a ds q).elim⟩
 by_cases hj:j<ds.length
 ·rw [List.getElem?_append_left (by rw [List.length_map]; exact hj),List.getElem?_map] at q
  obtain ⟨d,hd,e1⟩:=Option.map_eq_some_iff.mp q
  cases e1
  obtain ⟨v,hv,iv⟩:=i.get hd
  exact ⟨v,by rw [List.getElem?_append_left (by rw [List.length_map,← i.length]; exact hj),List.getElem?_map,hv]; rfl,iv⟩
 ·have hj:ds.length≤j:=Nat.le_of_not_lt hj
  rw [List.getElem?_append_right (by rw [List.length_map]; exact hj),List.length_map] at q
  rw [List.getElem?_append_right (by rw [List.length_map,← i.length]; exact hj),List.length_map,← i.length]
  unfold vg at q
  rw [List.getElem?_map] at q
  obtain ⟨k,hk,e2⟩:=Option.map_eq_some_iff.mp q
  split at e2
  ·rename_i d' hd
   cases e2
   obtain ⟨u,hu,iu⟩:=r.at_ k e hd
   refine ⟨u,?_,Is.mono0 s2 iu⟩
   unfold uy
   rw [List.getElem?_map,hk]
   show some ((σ[k]?).getD none)=_
   rw [hu]
   rfl
  ·cases e2
abbrev DTI:=DS→(Nat→(Nat→Dt→Prop)→Prop)→Prop
def LiI (K:PySem.W.Frag) (Z:Hp) (wi:TI) (di:DTI):Prop:=∀ {F:Hp} (ρ:DS) (σ:St) (W:Vw) (Q:Nat→(Nat→Dt→Prop)→Prop),Rl K Z F W ρ σ→di ρ Q→∀ R:It→Hp→Prop,
 (∀ (J:It) (n:Nat) (vals:Nat→Dt→Prop) (W1:Vw),Le W W1→n≤100000→(∀ W2:Vw,Same W1.g W2.g→(∀ i,i<n→J.go i W2.h∧∀ v H3,J.yld i W2.h v H3→∃ W3:Vw,Le W2 W3∧W3.h=H3∧∃ e,vals i e∧Is K W3.g e v)∧J.stop n W2.h)→Q n vals→R J W1.h)→wi σ W.h R
def DI (X:Cx) (tg iter:Expr) (di:DTI):Prop:=∃ wi,PI X tg iter wi∧LiI X.K (Zx X) wi di
def LiG (K:PySem.W.Frag) (k:Nat) (gt:TG) (dg:Dt→List Dt→Prop):Prop:=∀ (e:Dt) (v:V) (σ0 τ:St) (W:Vw) (as:List Dt),σ0.length=k→Is K W.g e v→dg e as→∀ Q:St→Hp→Prop,
 (∀ vs,AllIs K W.g as vs→vs.length=k→Q (vs.map some++τ) W.h)→gt v (σ0++τ) W.h Q
def qH:Dt→List Dt→Prop:=fun e as=>as=[e]
theorem wE {K:PySem.W.Frag}:LiG K 1 (p6 0) qH:=by
 rintro e v σ0 τ W as hl i rfl Q q
 match σ0,hl with
 | [a],_=>exact q [v] (allIs_cons.mpr ⟨v,[],rfl,i,allIs_nil.mpr rfl⟩) rfl
def DC (X:Cx) (ifs:List Expr) (t:DTT):Prop:=∃ tt,PC X ifs tt∧LiT X.K (Zx X) tt t
def vQ:DTT:=fun _ Q=>Q true
theorem qG {X:Cx}:DC X [] vQ:=⟨_,bF,fun _ _ W _ _ h _ k=>k true W (Le.refl W) h⟩
theorem iw {X:Cx} {c:Expr} {t:DTT} (h:DT X c t):DC X [c] t:=let ⟨_,p,l⟩:=h; ⟨_,bE p,l⟩
def jG (K:PySem.W.Frag) (t:DTT):TT:=fun σ H R=>∃ (F:Hp) (ρ:DS) (W:Vw) (Q:Bool→Prop),W.h=H∧Rl K (fun _=>none) F W ρ σ∧t ρ Q∧∀ d W',Le W W'→Q d→R d W'.h
theorem DC.up {X:Cx} {ifs:List Expr} {t:DTT} (h:DC X ifs t) (hz:X.stack.length=X.outer.length:=by rfl):PC X ifs (jG X.K t):=by
 obtain ⟨te,p,l⟩:=h
 intro pins s σ H R E hE I q
 obtain ⟨F,ρ,W,Q,rfl,r,h,k⟩:=q
 have r':Rl X.K (Zx X) F W ρ σ:=by unfold Zx; rw [if_pos (Or.inl hz)]; exact r
 exact p pins s σ W.h R E hE I (l ρ σ W Q r' h R k)
theorem pQ {K:PySem.W.Frag} {t:DTT}:LiT K (fun _=>none) (jG K t) t:=fun ρ σ H Q r h R k=>⟨_,ρ,H,Q,rfl,r,h,k⟩
def xC (js:List Nat) (di:DTI) (dg:Dt→List Dt→Prop) (tt:DTT) (te:DTE):DTE:=fun ρ Q=>di ρ fun n vals=>∃ Pv:Nat→List Dt→Prop,Pv 0 []∧
 (∀ (i:Nat) e es,i<n→vals i e→Pv i es→∃ as,dg e as∧tt (as.map Sl.some++vg ρ js) fun b=>if b=true then te (as.map Sl.some++vg ρ js) fun y=>Pv (i+1) (es++[y]) else Pv (i+1) es)∧∀ es,Pv n es→Q (.lst es)
theorem pR {K:PySem.W.Frag} {wi:TI} {gt:TG} {tt:TT} {te:TE} {di:DTI} {dg:Dt→List Dt→Prop} {dt:DTT} {u:DTE} {k:Nat} {js:List Nat} (h1:LiI K Z wi di) (hg:LiG K k gt dg) (ht':LiT K (fun _=>none) tt dt) (h2:LiE K (fun _=>none) te u):LiF K Z (oB wi gt tt te k js) (xC js di dg dt u):=by
 intro F ρ σ H Q r h R kk
 refine h1 ρ σ H _ r h _ fun J n vals W1 s1 hn hJ ⟨Pv,h0,ht,hd⟩=>?_
 have r1:=r.mono s1
 refine ⟨n,Nat.lt_of_le_of_lt hn (by decide),fun D hD=>?_⟩
 have gD:W1.g D=none:=W1.sub.free hD
 have stp:∀ {W2 W3:Vw} {ys:List V} {es:List Dt},Same W1.g W2.g∧Same W1.h (fun b=>if b=D then none else W2.h b)∧(∀ b,W1.h b≠none→W1.g b=none→W2.g b=none)∧W2.h D=some (.lst ys)∧W2.g D=none∧AllIs K W2.g es ys→Le W2 W3→
   Same W1.g W3.g∧Same W1.h (fun b=>if b=D then none else W3.h b)∧(∀ b,W1.h b≠none→W1.g b=none→W3.g b=none)∧W3.h D=some (.lst ys)∧W3.g D=none∧AllIs K W3.g es ys:=by
  rintro W2 W3 ys es ⟨s2,sh,sn,q1,q2,q3⟩ s3
  refine ⟨s2.trans s3.g,fun b o q=>?_,fun b z1 z2=>?_,s3.h _ _ q1,s3.n D (by rw [q1]; intro z; cases z) q2,q3.mono s3⟩
  ·have q':(if b=D then none else W2.h b)=some o:=sh b o q
   have hb:b≠D:=fun e=>by rw [e,hD] at q; cases q
   rw [if_neg hb] at q'
   show (if b=D then none else W3.h b)=some o
   rw [if_neg hb]
   exact s3.h _ _ q'
  ·have hb:b≠D:=fun e=>z1 (e ▸ hD)
   have z3:=sn b z1 z2
   refine s3.n b ?_ z3
   cases q:W1.h b with
   | none=>exact absurd q z1
   | some o=>
    have q':(if b=D then none else W2.h b)=some o:=sh b o q
    rw [if_neg hb] at q'
    rw [q']
    intro z; cases z
 refine ⟨fun i ys H2=>∃ (W2:Vw) (es:List Dt),W2.h=H2∧(Same W1.g W2.g∧Same W1.h (fun b=>if b=D then none else W2.h b)∧(∀ b,W1.h b≠none→W1.g b=none→W2.g b=none)∧W2.h D=some (.lst ys)∧W2.g D=none∧AllIs K W2.g es ys)∧ys.length≤i∧Pv i es,fun i v ys H2=>∃ (W2:Vw) (es:List Dt) (e:Dt),W2.h=H2∧(Same W1.g W2.g∧Same W1.h (fun b=>if b=D then none else W2.h b)∧(∀ b,W1.h b≠none→W1.g b=none→W2.g b=none)∧W2.h D=some (.lst ys)∧W2.g D=none∧AllIs K W2.g es ys)∧ys.length≤i∧Pv i es∧vals i e∧Is K W2.g e v,?_,?_,?_,?_,?_,?_⟩
 ·refine ⟨W1.mine D (.lst []) gD,[],rfl,⟨Same.refl _,fun b o q=>?_,fun b _ q=>q,zp,gD,allIs_nil.mpr rfl⟩,Nat.le_refl _,h0⟩
  have hb:b≠D:=fun e=>by rw [e,hD] at q; cases q
  show (if b=D then none else upd W1.h D (.lst []) b)=some o
  rw [if_neg hb,zr hb]
  exact q
 ·rintro i ys _ _ ⟨W2,es,rfl,⟨s2,_,_,q1,q2,_⟩,q4,_⟩
  exact ⟨q1,q4⟩
 ·rintro i ys _ hi ⟨W2,es,rfl,hW2,q4,q5⟩
  obtain ⟨g1,g2⟩:=(hJ W2 hW2.1).1 i hi
  refine ⟨g1,fun v H3 y=>?_⟩
  obtain ⟨W3,s3,e3,e,he,ie⟩:=g2 v H3 y
  exact ⟨W3,es,e,e3,stp hW2 s3,q4,q5,he,ie⟩
 ·rintro ys _ ⟨W2,es,rfl,⟨s2,_⟩,_⟩
  exact (hJ W2 s2).2
 ·rintro i v ys _ σ0 hi ⟨W2,es,e,rfl,hW2,q4,q5,he,ie⟩ hσ0
  obtain ⟨as,da,w⟩:=ht i e es hi he q5
  refine hg e v σ0 _ W2 as hσ0 ie da _ fun vs ivs lvs=>⟨⟨vs.map some,rfl,by rw [List.length_map]; exact lvs⟩,?_⟩
  refine ht' (F:=W2.h) (as.map Sl.some++vg ρ js) (vs.map some++uy σ js) W2 _ (nX r1 hW2.1 ivs) w _ fun b W3 s3 w3=>?_
  have hW3:=stp hW2 s3
  cases b with
  | false=>exact ⟨W3,es,rfl,hW3,Nat.le_succ_of_le q4,w3⟩
  | true=>
   show te _ _ _
   refine h2 (F:=W3.h) (as.map Sl.some++vg ρ js) (vs.map some++uy σ js) W3 _ (nX r1 hW3.1 (ivs.mono s3)) w3 _ fun y w W4 s4 i4 q6=>?_
   obtain ⟨a1,a2,a3,a4,a5,a6⟩:=stp hW3 s4
   refine ⟨a4,W4.mine D (.lst (ys++[w])) a5,es++[y],rfl,⟨a1,fun b o q=>?_,a3,zp,a5,a6.append (allIs_cons.mpr ⟨w,[],rfl,i4,allIs_nil.mpr rfl⟩)⟩,by rw [List.length_append]; exact Nat.succ_le_succ q4,q6⟩
   have q':(if b=D then none else W4.h b)=some o:=a2 b o q
   have hb:b≠D:=fun e=>by rw [e,hD] at q; cases q
   rw [if_neg hb] at q'
   show (if b=D then none else upd W4.h D (.lst (ys++[w])) b)=some o
   rw [if_neg hb,zr hb]
   exact q'
 ·rintro ys _ ⟨W2,es,rfl,⟨s2,sh,sn,q1,q2,q3⟩,_,q5⟩
  refine kk es D ys W2 (s1.trans ⟨s2,fun b o q=>?_,sn⟩) (s1.h.free hD) q1 q2 q3 (hd es q5)
  have q':(if b=D then none else W2.h b)=some o:=sh b o q
  have hb:b≠D:=fun e=>by rw [e,hD] at q; cases q
  rwa [if_neg hb] at q'
def oh (ta:DTE):DTI:=fun ρ Q=>ta ρ fun d=>∃ ds,yO d=some ds∧ds.length≤100000∧Q ds.length fun i e=>ds[i]? = some e
def cj (ta:DTE):DTI:=fun ρ Q=>ta ρ fun d=>∃ m:Int,d=.int m∧-(2 ^ 62)≤m∧m≤100000∧Q m.toNat fun i e=>e=.int i
section
variable {X:Cx} {fr:Fr} {osc scope:Scope} {bs caps:List Str} {js:List Nat} {N0:List Str} {L:Addr} {tg iter elt a:Expr} {ifs:List Expr} {ta te:DTE} {di:DTI} {tt:DTT} {dg:Dt→List Dt→Prop} {gt:TG} {px p0 pos pos1:Pos}
theorem qE (h:DE X iter ta):DI X tg iter (oh ta):=by
 obtain ⟨te,p,l⟩:=h
 refine ⟨_,nZ p,fun ρ σ W Q r h R k=>l ρ σ W _ r h _ fun d v W1 s1 i1 ⟨ds,el,hl,q⟩=>?_⟩
 obtain ⟨a,xs,rfl,hq,ha⟩:=jF i1 el
 refine ⟨a,rfl,⟨xs,hq W1 (Same.refl _)⟩,k _ _ _ W1 s1 hl (fun W2 s2=>⟨fun i hi=>?_,?_⟩) q⟩
 ·rw [ha.length] at hi
  have hv:=List.getElem?_eq_getElem hi
  refine ⟨⟨xs,_,hq W2 s2,hv⟩,fun v' H3 ⟨e1,e2⟩=>⟨W2,Le.refl _,e1.symm,?_⟩⟩
  obtain ⟨e,he,ie⟩:=ha.get' (e2 xs (hq W2 s2))
  exact ⟨e,he,Is.mono0 s2 ie⟩
 ·exact ⟨xs,hq W2 s2,by rw [ha.length]; exact Nat.le_refl _⟩
theorem sk (hg:Gl X "range") (hm:X.mg "range"=none) (h:DE X a ta) (hst:starEach [a] X.env=[(false,eval a X.env)]:=by rfl) (hst2:starEach [a] X.env=(false,eval a X.env)::starEach [] X.env:=by rfl):DI X tg (.Call (.Name "range" p0) [a] [] pos1) (cj ta):=by
 obtain ⟨te,p,l⟩:=h
 refine ⟨_,mY hg hm p hst hst2,fun ρ σ W Q r h R k=>l ρ σ W _ r h _ fun d v W1 s1 i1 ⟨m,ed,m1,m2,q⟩=>?_⟩
 subst ed
 refine ⟨m,is_int.mp i1,m1,by omega,k _ _ (fun i e=>e=.int i) W1 s1 (by omega) (fun W2 s2=>⟨fun i hi=>⟨hi,fun v H3 ⟨e1,e2⟩=>⟨W2,Le.refl _,e1.symm,.int i,rfl,?_⟩⟩,Nat.le_refl _⟩) q⟩
 rw [Int.zero_add] at e2
 exact is_int.mpr e2
theorem vN (hc:X.calm=true) (S:u7 osc scope bs caps js N0=true) (hN0:X.N=N0) (he':X.env.scope=osc) (hcs:X.env.cells=cellsFrom (L+1) osc.names []) (hl:DI X tg iter di)
  (hg:∀ C s H fp pins,PG (zy X scope (x6 X.env.cells scope.names) bs caps C s H fp pins) tg gt) (lg:LiG X.K bs.length gt dg)
  (ht:∀ C s H fp pins,DC (zy X scope (x6 X.env.cells scope.names) bs caps C s H fp pins) ifs tt)
  (he:∀ C s H fp pins,DE (zy X scope (x6 X.env.cells scope.names) bs caps C s H fp pins) elt te) (hs:∀ y,foldedSetIterable iter X.env y=pure y:=by intro _; rfl):
  DF X (.ListComp elt [⟨tg,iter,ifs,0⟩] scope pos) (xC js di dg tt te):=by
 obtain ⟨wi,p,l⟩:=hl
 exact ⟨_,kr hc (mx (hN0 ▸ S) he' hcs) p hg (fun C s H fp pins=>(ht C s H fp pins).up) (fun C s H fp pins=>(he C s H fp pins).up) hs,pR l lg pQ n6⟩
theorem vL {y:Str} {i:Nat} {py spos:Pos} (hc:X.calm=true) (S:u7 osc scope bs caps js N0=true) (hN0:X.N=N0) (he':X.env.scope=osc) (hcs:X.env.cells=cellsFrom (L+1) osc.names []) (hN:X.N.Nodup) (hi:X.N[i]? = some y) (hy:Loc X.env.scope y) (hl:DI X tg iter di)
  (hg:∀ C s H fp pins,PG (zy X scope (x6 X.env.cells scope.names) bs caps C s H fp pins) tg gt) (lg:LiG X.K bs.length gt dg)
  (ht:∀ C s H fp pins,DC (zy X scope (x6 X.env.cells scope.names) bs caps C s H fp pins) ifs tt)
  (he:∀ C s H fp pins,DE (zy X scope (x6 X.env.cells scope.names) bs caps C s H fp pins) elt te)
  (hsw:swapsWith (.ListComp elt [⟨tg,iter,ifs,0⟩] scope pos) (some (.Name y py)) spos.line X.env=pure true:=by rfl) (hs:∀ y,foldedSetIterable iter X.env y=pure y:=by intro _; rfl)
  (hf:X.fn y=true∨X.env.scope.names.lookup y=some .local:=by first | exact .inl rfl | exact .inr rfl | assumption):
  DSt X fr (.Assign [.Name y py] (.ListComp elt [⟨tg,iter,ifs,0⟩] scope pos) spos) (Xx i (xC js di dg tt te)):=by
 obtain ⟨wi,p,l⟩:=hl
 exact ⟨_,pr (te:=jI X.K te) (tt:=jG X.K tt) hc (mx (hN0 ▸ S) he' hcs) hN hi hy p hg (fun C s H fp pins=>(ht C s H fp pins).up) (fun C s H fp pins=>(he C s H fp pins).up) hsw hs hf,fun W0 G ρ σ W D D' a s h=>LiF.le (pR l lg (pQ (t:=tt)) (n6 (t:=te))) ρ σ W _ a.rl h _ fun d v W1 s1 i1 q1=>s.nx _ _ W1 ((a.step s1).set i i1) q1⟩
end
end OD
namespace OD
variable {Z:Hp}
open PySem PySem.Spec PyProof.Rows L2
section
variable {K:PySem.W.Frag} {F:Hp} {W W' W0:Vw}
theorem NewL.mono {d:Dt} {v:V} (h:NewL K F W d v) (s:Le W W'):NewL K F W' d v:=by
 obtain ⟨es,p,xs,h1,h2,h3,h4,h5,h6⟩:=h
 exact ⟨es,p,xs,h1,h2,h3,s.h _ _ h4,s.n p (by rw [h4]; intro z; cases z) h5,h6.mono s⟩
theorem Prt.mono {b:Bool} {d:Dt} {v:V} (h:Prt K F W b d v) (s:Le W W'):Prt K F W' b d v:=by
 cases b with
 | false=>exact Is.mono h s
 | true=>
  rcases h with h | ⟨h1,h2⟩
  ·exact .inl (h.mono s)
  ·exact .inr ⟨h1,Is.mono h2 s⟩
theorem Prt.frz {b:Bool} {d:Dt} {u:V} (le:Le W0 W) (h:Prt K W0.h W b d u):∃ W1:Vw,W1.h=W.h∧Same W.g W1.g∧Le W0 W1∧Is K W1.g d u∧
  ∀ b2 d2 u2,Prt K W0.h W b2 d2 u2→(∀ es fs,b=true→b2=true→d=.lst es→d2=.lst fs→u≠u2)→Prt K W0.h W1 b2 d2 u2:=by
 cases b with
 | false=>exact ⟨W,rfl,Same.refl _,le,h,fun _ _ _ k _=>k⟩
 | true=>
  rcases h with ⟨es,p,xs,rfl,rfl,h3,h4,h5,h6⟩ | ⟨_,h2⟩
  ·refine ⟨W.frz p _ h4,rfl,zM h5 _,um le h3 h4 h5,is_lst.mpr ⟨p,xs,rfl,zp,AllIs.mono0 (zM h5 _) h6⟩,fun b2 d2 u2 k ne=>?_⟩
   cases b2 with
   | false=>exact Is.mono0 (zM h5 _) k
   | true=>
    rcases k with ⟨fs,q,ys,rfl,rfl,k3,k4,k5,k6⟩ | ⟨k1,k2⟩
    ·have hq:q≠p:=fun z=>ne es fs rfl rfl rfl rfl (by rw [z])
     exact .inl ⟨fs,q,ys,rfl,rfl,k3,k4,(zr hq).trans k5,AllIs.mono0 (zM h5 _) k6⟩
    ·exact .inr ⟨k1,Is.mono0 (zM h5 _) k2⟩
  ·exact ⟨W,rfl,Same.refl _,le,h2,fun _ _ _ k _=>k⟩
theorem Tld.frz {fr:Fr} {d:Dt} {v:V} (le:Le W0 W) (h:Tld K W0.h W fr d v):∃ W1:Vw,W1.h=W.h∧Le W0 W1∧Is K W1.g d v:=by
 match fr,h with
 | .d,h=>exact ⟨W,rfl,le,h⟩
 | .l,⟨es,p,xs,e1,e2,h3,h4,h5,h6⟩=>
  subst e1; subst e2
  exact ⟨W.frz p _ h4,rfl,um le h3 h4 h5,is_lst.mpr ⟨p,xs,rfl,zp,AllIs.mono0 (zM h5 _) h6⟩⟩
 | .t a b,⟨d1,d2,q,u1,u2,e1,e2,hq,p1,p2,ne⟩=>
  subst e1; subst e2
  obtain ⟨W1,e1,s1,le1,i1,k1⟩:=p1.frz le
  obtain ⟨W2,e2,s2,le2,i2,_⟩:=(k1 b d2 u2 p2 ne).frz le1
  exact ⟨W2,e2.trans e1,le2,is_tup.mpr ⟨q,_,rfl,s2 _ _ (s1 _ _ hq),allIs_cons.mpr ⟨u1,_,rfl,Is.mono0 s2 i1,allIs_cons.mpr ⟨u2,_,rfl,i2,allIs_nil.mpr rfl⟩⟩⟩⟩
end
def cR (K:PySem.W.Frag) (fr:Fr) (S:DSp):Sp:=fun vs H Q _=>∃ (W:Vw) (ds:List Dt) (Qd:Dt→Prop),W.h=H∧AllIs K W.g ds vs∧S ds Qd∧∀ d v W',Le W W'→Tld K W.h W' fr d v→Qd d→Q v W'.h
def qP (K:PySem.W.Frag) (fr:Fr) (S:yt):Sp:=fun vs H Q E=>∃ (W:Vw) (ds:List Dt) (Qd:Dt→Prop) (Ed:Addr→Prop),W.h=H∧AllIs K W.g ds vs∧S ds Qd Ed∧
 (∀ d v W',Le W W'→Tld K W.h W' fr d v→Qd d→Q v W'.h)∧∀ C H',Same W.h H'→Ed C→E (.ref C) none H'
structure TOk (P:Program) (w:World) (K:PySem.W.Frag) (mg:Str→Option Value) (base:Heap) (n:Nat) (x:Str) (fr:Fr) (S:DSp):Prop where
 ex:∃ f fd ps,mg x=some (.ref f)∧PySem.W.keepIn K (.ref f)=true∧Binds K fd ps []∧FnOk P w K mg base CX0 n f fd ps (cR K fr S)
structure TOkX (P:Program) (w:World) (K:PySem.W.Frag) (mg:Str→Option Value) (base:Heap) (n:Nat) (x:Str) (fr:Fr) (S:yt):Prop where
 ex:∃ f fd ps,mg x=some (.ref f)∧PySem.W.keepIn K (.ref f)=true∧Binds K fd ps []∧FnOk P w K mg base (CX1 P w) n f fd ps (qP K fr S)
section
variable {P:Program} {w:World} {K:PySem.W.Frag} {mg:Str→Option Value} {base:Heap} {fr:Fr}
theorem TOk.dok {x:Str} {n:Nat} {S:DSp} (h:TOk P w K mg base n x fr S):DOk P w K mg base n x S:=
 let ⟨f,fd,ps,h1,h2,h3,h4⟩:=h.ex; ⟨f,fd,ps,h1,h2,h3,h4.imp fun vs H Q E ⟨W,ds,Qd,a,b,c,k⟩=>⟨W,ds,Qd,a,b,c,fun d v W' le t q=>by
  obtain ⟨W1,e1,le1,i1⟩:=t.frz le
  rw [← e1]
  exact k d v W1 le1 i1 q⟩⟩
theorem TOkX.dok {x:Str} {n:Nat} {S:yt} (h:TOkX P w K mg base n x fr S):DOkX P w K mg base n x S:=
 let ⟨f,fd,ps,h1,h2,h3,h4⟩:=h.ex; ⟨f,fd,ps,h1,h2,h3,h4.imp fun vs H Q E ⟨W,ds,Qd,Ed,a,b,c,k,ke⟩=>⟨W,ds,Qd,Ed,a,b,c,fun d v W' le t q=>by
  obtain ⟨W1,e1,le1,i1⟩:=t.frz le
  rw [← e1]
  exact k d v W1 le1 i1 q,ke⟩⟩
theorem Uj {x qual:Str} {st:Stmt} {f:Addr} {fd:FuncData} {N ps:List Str} {k:Nat} {S:yt} (F:Fun K x qual st f fd) (sc:zi N ps (defScope st)) (len:∀ ds Q R,S ds Q R→ds.length=ps.length)
  (hbody:∀ (cdv:Value) (A:Around) (outer:List Env) (s:Shared) (H:Hp) (E:XK),Room k (A.deeper (envOfC qual (defScope st) s.heap.objs.size f cdv))→∀ (ds:List Dt) (Q:Dt→Prop) (R:Addr→Prop),S ds Q R→
   (∀ C,R C→Rz (yQ (CX1 P w) P w K mg base N qual (defScope st) f cdv A outer s H E) C)→
   ∃ t,DSs (yQ (CX1 P w) P w K mg base N qual (defScope st) f cdv A outer s H E) fr (defBody st) t∧t { nx:=fun _=>False,rt:=Q } (yC N.length ds)):FnOk P w K mg base (CX1 P w) (k+1) f fd ps (qP K fr S):=by
 refine Fun.okX F sc (fun vs H Q E h=>?_) (fun cdv A outer s H vs Q E hr h=>?_)
 ·obtain ⟨W,ds,Qd,Ed,_,ia,hS,_⟩:=h
  rw [← ia.length]
  exact len ds Qd Ed hS
 obtain ⟨W,ds,Qd,Ed,rfl,ia,hS,kk,ke⟩:=h
 obtain ⟨t,⟨ts,p,l⟩,ht⟩:=hbody cdv A outer s W.h E hr ds Qd Ed hS fun C hC=>cy fun H' z=>ke C H' z hC
 exact ⟨ts,p,l W W.g (yC N.length ds) (start N vs) W { nx:=fun _=>False,rt:=Qd } _ (vS ia (rO (Nat.succ_ne_self _))) ⟨fun ρ σ W' a q=>q.elim,kk,fun _ _ _ _ q=>q.elim,fun _ _ _ _ q=>q.elim⟩ ht⟩
theorem TOk.mk' {x qual:Str} {st:Stmt} {f:Addr} {fd:FuncData} {ps:List Str} {n:Nat} {S:DSp} (F:Fun K x qual st f fd) (hm:mg x=some (.ref f)) (hb:Binds K fd ps []) (h:FnOk P w K mg base CX0 n f fd ps (cR K fr S)):TOk P w K mg base n x fr S:=
 ⟨f,fd,ps,hm,F.kp,hb,h⟩
theorem TOkX.mk' {x qual:Str} {st:Stmt} {f:Addr} {fd:FuncData} {ps:List Str} {n:Nat} {S:yt} (F:Fun K x qual st f fd) (hm:mg x=some (.ref f)) (hb:Binds K fd ps []) (h:FnOk P w K mg base (CX1 P w) n f fd ps (qP K fr S)):TOkX P w K mg base n x fr S:=
 ⟨f,fd,ps,hm,F.kp,hb,h⟩
end
def LiR (K:PySem.W.Frag) (Z:Hp) (fr:Fr) (te:TE) (t:DTE):Prop:=
 ∀ {F:Hp} (ρ:DS) (σ:St) (H:Vw) (Q:Dt→Prop),Rl K Z F H ρ σ→t ρ Q→∀ R:VK,(∀ d v H',Le H H'→Tld K H.h H' fr d v→Q d→R v H'.h)→te σ H.h R
def DR (X:Cx) (fr:Fr) (e:Expr) (t:DTE):Prop:=∃ te,PE X e te∧LiR X.K (Zx X) fr te t
theorem c7 {K:PySem.W.Frag} {F G:Hp} {W:Vw} {fr:Fr} {d:Dt} {v:V} (z:∀ p,F p=none→G p=none) (h:Tld K F W fr d v):Tld K G W fr d v:=by
 have pp:∀ {b:Bool} {d:Dt} {v:V},Prt K F W b d v→Prt K G W b d v:=fun {b d v} h=>by
  cases b with
  | false=>exact h
  | true=>exact h.imp (fun h=>h.le z) id
 match fr,h with
 | .d,h=>exact h
 | .l,h=>exact NewL.le h z
 | .t a b,⟨d1,d2,q,u1,u2,e1,e2,hq,p1,p2,ne⟩=>exact ⟨d1,d2,q,u1,u2,e1,e2,hq,pp p1,pp p2,ne⟩
section
variable {X:Cx} {fr:Fr} {a b:Bool} {e e1 e2:Expr} {es:List Expr} {t t1 t2:DTE} {ta:DTA} {n:Nat} {x y:Str} {S:DSp} {SX:yt} {p pos p0 p1 p2:Pos} {i j:Nat}
theorem ik (G:TOkX X.prog X.w X.K X.mg X.base n x fr SX) (hr:Room n X.A) (hg:Gl X x) (ha:DA X (e::es) ta) (hdb:(x == ("__debug__":Str))=false:=by decide)
  (he:starEach (e::es) X.env=(false,eval e X.env)::starEach es X.env:=by rfl) (hpl:(backTo pos (starEach es X.env)).any (·.1)=false:=by rfl):DR X fr (.Call (.Name x p) (e::es) [] pos) (nA X SX ta):=by
 obtain ⟨f,fd,ps,hm,hk,hb,F⟩:=G.ex
 obtain ⟨te,p1,l1⟩:=ha
 refine ⟨_,vt F hr hg hm hk hb .nil tO p1 hdb he hpl,fun ρ σ H Q r h R k=>l1 ρ σ H _ r h _ fun ds vs H1 s1 i1 q1=>?_⟩
 rw [List.append_nil]
 exact ⟨H1,ds,Q,Rz X,rfl,i1,q1,fun d v H2 s2 t2 q2=>k d v H2 (s1.trans s2) (c7 (fun _ z=>s1.h.free z) t2) q2,fun C H' s' hC=>⟨C,rfl,(hC H' (((nW r).trans s1.h).trans s')).2⟩⟩
def UE (t:DTE):DTE:=fun ρ Q=>t ρ fun d=>∃ d1 es,d=.tup [d1,.lst es]∧Q (.lst es)
theorem Xs {jj} (h:DR X (.t a true) e t) (hs:tj (.Constant (.int 1) jj p0)):DF X (.Subscript e (.Constant (.int 1) jj p0) pos) (UE t):=by
 obtain ⟨te,p1,l1⟩:=h
 refine ⟨_,ko jL p1 kq hs,fun ρ σ H Q r h R k=>l1 ρ σ H _ r h _ fun d v H1 s1 ⟨d1,d2,q,u1,u2,e1,e2,hq,pt1,pt2,ne⟩ ⟨d1',es,ed,qq⟩=>?_⟩
 subst e2
 rw [ed] at e1
 cases e1
 rcases pt2 with ⟨fs,p,xs,e1,e2,h3,h4,h5,h6⟩ | ⟨z,_⟩
 ·cases e1; subst e2
  exact .inr (.inl ⟨q,_,1,_,rfl,rfl,.of (H1.sub _ _ hq),rfl,k es p xs H1 s1 h3 h4 h5 h6 qq⟩)
 ·cases z
def VB (i:Nat):DTE:=fun ρ Q=>∃ ds,ρ[i]? = some (.own ds)∧Q (.lst ds)
def Vx (t1 t2:DTE):DTS:=fun D ρ=>t1 ρ fun d1=>t2 ρ fun d2=>D.rt (.tup [d1,d2])
theorem ic {x1} (i j:Nat) (hij:i≠j:=by decide) (hN:X.N[i]? = some x:=by rfl) (hN2:X.N[j]? = some y:=by rfl) (hv:Vis X.env.scope x:=by first | exact Or.inl rfl | exact Or.inr (Or.inl rfl) | exact Or.inr (Or.inr rfl)) (hv2:Vis X.env.scope y:=by first | exact Or.inl rfl | exact Or.inr (Or.inl rfl) | exact Or.inr (Or.inr rfl)) (hd:(x == ("__debug__":Str))=false:=by decide)
  (hcd:(x == ("__classdict__":Str))=false:=by decide) (hd2:(y == ("__debug__":Str))=false:=by decide) (hcd2:(y == ("__classdict__":Str))=false:=by decide)
  (hst:starEach [.Name x p1,.Name y p2] X.env=(false,eval (.Name x p1) X.env)::starEach [.Name y p2] X.env:=by rfl) (hst2:starEach [.Name y p2] X.env=(false,eval (.Name y p2) X.env)::starEach [] X.env:=by rfl):
  DSt X (.t true true) (.Return (some (.Tuple [.Name x p1,.Name y p2] x1 p0)) pos) (Vx (VB i) (VB j)):=by
 refine ⟨_,qg (kj (zT (xb hN hv hd hcd) (zT (xb hN2 hv2 hd2 hcd2) yA hst2) hst)),fun W0 G ρ σ W D D' at_ s h=>?_⟩
 obtain ⟨ds,e,es,e',h⟩:=h
 obtain ⟨c,xs,e1,k2,k3,k4,k5⟩:=at_.rl.ow i ds e
 obtain ⟨c',ys,e1',k2',k3',k4',k5'⟩:=at_.rl.ow j es e'
 refine ⟨.ref c,e1,.ref c',e1',by show 2≤_; decide,fun p hp=>?_⟩
 have s3:=ul hp (.tup [.ref c,.ref c'])
 have n1:NewL X.K W0.h W (.lst ds) (.ref c):=⟨ds,c,xs,rfl,rfl,k4,k2,k3,k5⟩
 have n2:NewL X.K W0.h W (.lst es) (.ref c'):=⟨es,c',ys,rfl,rfl,k4',k2',k3',k5'⟩
 refine s.tl _ (.ref p) (W.new p (.tup [.ref c,.ref c'])) (at_.le.trans s3) ⟨_,_,p,_,_,rfl,rfl,zp,.inl (n1.mono s3),.inl (n2.mono s3),fun _ _ _ _ _ _ z=>?_⟩ h
 exact at_.rl.ne i j ds es hij e e' (by rw [e1,e1',z])
def slP:Bool→Dt→Sl
 | true,.lst es=>.own es
 | _,d=>.some d
theorem Rl.ownN {K:PySem.W.Frag} {F:Hp} {W:Vw} {ρ:DS} {σ:St} (r:Rl K Z F W ρ σ) {p:Addr} {xs:List V} {ds:List Dt} (i:Nat) (nep:∀ (j:Nat) (es:List Dt),ρ[j]? = some (Sl.own es)→σ[j]?≠some (some (V.ref p))) (nea:∀ (j:Nat) (a:Addr) (es:List Dt),ρ[j]? = some (Sl.arg a es)→a≠p)
  (hF:F p=none) (h1:W.h p=some (.lst xs)) (h2:W.g p=none) (h3:AllIs K W.g ds xs):Rl K Z F W (ρ.set i (.own ds)) (σ.set i (some (.ref p))):=by
 refine ⟨by rw [List.length_set,List.length_set]; exact r.len,fun j e q=>?_,fun j es q=>?_,fun j k es es' hjk q1 q2=>?_,r.fr,r.z,fun j a fs q=>?_⟩
 ·rcases zn q with ⟨_,_,e1⟩ | ⟨hij,q⟩
  ·cases e1
  ·rw [List.getElem?_set_ne hij]
   exact r.at_ j e q
 ·rcases zn q with ⟨rfl,hl,e1⟩ | ⟨hij,q⟩
  ·cases e1
   exact ⟨p,xs,by rw [List.getElem?_set_self (by rw [← r.len]; exact hl)],h1,h2,hF,h3⟩
  ·rw [List.getElem?_set_ne hij]
   exact r.ow j es q
 ·rcases zn q1 with ⟨rfl,hl,e1⟩ | ⟨hij,q1⟩
  ·rcases zn q2 with ⟨rfl,_,_⟩ | ⟨hik,q2⟩
   ·exact absurd rfl hjk
   ·rw [List.getElem?_set_self (by rw [← r.len]; exact hl),List.getElem?_set_ne hik]
    exact fun z=>nep k es' q2 z.symm
  ·rcases zn q2 with ⟨rfl,hl,_⟩ | ⟨hik,q2⟩
   ·rw [List.getElem?_set_self (by rw [← r.len]; exact hl),List.getElem?_set_ne hij]
    exact nep j es q1
   ·rw [List.getElem?_set_ne hij,List.getElem?_set_ne hik]
    exact r.ne j k es es' hjk q1 q2
 ·rcases zn q with ⟨_,_,e1⟩ | ⟨hij,q⟩
  ·cases e1
  obtain ⟨⟨ys,g1,g2⟩,k1,k2⟩:=r.ar j a fs q
  refine ⟨⟨ys,by rw [List.getElem?_set_ne hij]; exact g1,g2⟩,fun k es q'=>?_,fun k c es q'=>?_⟩
  ·rcases zn q' with ⟨rfl,hl,e1⟩ | ⟨hik,q'⟩
   ·rw [List.getElem?_set_self (by rw [← r.len]; exact hl)]
    intro z
    cases z
    exact nea j _ fs q rfl
   ·rw [List.getElem?_set_ne hik]
    exact k1 k es q'
  ·rcases zn q' with ⟨_,_,e1⟩ | ⟨hik,q'⟩
   ·cases e1
   exact k2 k c es q'
theorem Rl.part {K:PySem.W.Frag} {F F':Hp} {W:Vw} {ρ:DS} {σ:St} (r:Rl K Z F W ρ σ) {b:Bool} {d:Dt} {v:V} (i:Nat) (h:Prt K F' W b d v) (hF:∀ p,F' p=none→F p=none)
  (nep:∀ (p:Addr) (j:Nat) (es fs:List Dt),b=true→d=.lst fs→v=.ref p→F' p=none→ρ[j]? = some (Sl.own es)→σ[j]?≠some (some (V.ref p))) (nea:∀ (p:Addr) (j:Nat) (a:Addr) (es:List Dt),F' p=none→ρ[j]? = some (Sl.arg a es)→a≠p):
  Rl K Z F W (ρ.set i (slP b d)) (σ.set i (some v)):=by
 cases b with
 | false=>cases d <;> exact r.set i h
 | true=>
  rcases h with ⟨es,p,xs,rfl,rfl,h3,h4,h5,h6⟩ | ⟨z,h2⟩
  ·exact r.ownN i (fun j fs e=>nep p j fs es rfl rfl rfl h3 e) (fun j a fs e=>nea p j a fs h3 e) (hF p h3) h4 h5 h6
  ·cases d <;> first | exact r.set i h2 | cases z
end
end OD
namespace L2
open PySem PySem.Spec PyProof.Rows
def Cx.arg (X:Cx):Cx:={ X with fn:=fun y=>!(y == "") }
section
variable {X:Cx} {pins:List (Addr × Obj)} {σ:St} {H:Hp} {s:Shared}
theorem Inv.arg (I:Inv X pins σ H s) (hf:∀ y,X.fn y=true):Inv X.arg pins σ H s:=
 ⟨⟨I.ok.mod,I.ok.kind,I.ok.glob,I.ok.blt,I.ok.above,I.ok.inj,I.ok.has,fun x c _=>I.ok.cab x c (hf x),I.ok.hd,I.ok.frames,I.ok.stk,I.ok.exf,I.ok.bs,I.ok.bsz,I.ok.noex,I.ok.exfs,I.ok.funs,I.ok.frf⟩,I.os,I.bare,I.base,I.loc,I.cell,I.free,I.freeC,I.pin,I.hok,I.len⟩
end
end L2
namespace OD
variable {Z:Hp}
open PySem PySem.Spec PyProof.Rows L2
def Vw.del (W:Vw) (a:Addr) (hg:W.g a=none):Vw:=⟨W.g,fun b=>if b=a then none else W.h b,fun b o q=>by
 have:b≠a:=fun e=>by rw [e,hg] at q; cases q
 show (if b=a then none else W.h b)=some o
 rw [if_neg this]
 exact W.sub _ _ q⟩
abbrev ASp:=Dt→List Dt→List Dt→(List Dt→Prop)→Prop
def cU (K:PySem.W.Frag) (S:ASp):Sp:=fun vs H Q _=>∃ (W:Vw) (d0:Dt) (es0 ds:List Dt) (Qd:List Dt→Prop) (v0:V) (a:Addr) (xs vs':List V) (hg:W.g a=none),W.h=H∧vs=v0::.ref a::vs'∧W.h a=some (.lst xs)∧Is K W.g d0 v0∧AllIs K W.g es0 xs∧AllIs K W.g ds vs'∧S d0 es0 ds Qd∧
 ∀ es ys W',Le (W.del a hg) W'→W'.h a=some (.lst ys)→W'.g a=none→AllIs K W'.g es ys→Qd es→Q .non W'.h
structure AOk (P:Program) (w:World) (K:PySem.W.Frag) (mg:Str→Option Value) (base:Heap) (n:Nat) (x:Str) (S:ASp):Prop where
 ex:∃ f fd ps,mg x=some (.ref f)∧PySem.W.keepIn K (.ref f)=true∧Binds K fd ps []∧FnOk P w K mg base CX0 n f fd ps (cU K S)
section
variable {P:Program} {w:World} {K:PySem.W.Frag} {mg:Str→Option Value} {base:Heap}
theorem AOk.mk' {x qual:Str} {st:Stmt} {f:Addr} {fd:FuncData} {ps:List Str} {n:Nat} {S:ASp} (F:Fun K x qual st f fd) (hm:mg x=some (.ref f)) (hb:Binds K fd ps []) (h:FnOk P w K mg base CX0 n f fd ps (cU K S)):AOk P w K mg base n x S:=
 ⟨f,fd,ps,hm,F.kp,hb,h⟩
end
section
variable {X:Cx} {fr:Fr} {e e0 k:Expr} {es:List Expr} {t te tk:DTE} {ta:DTA} {n:Nat} {x y:Str} {S:ASp} {p pos p0 p1 p2 p3:Pos} {i:Nat}
end
end OD
namespace OD
variable {Z:Hp}
open PySem PySem.Spec PyProof.Rows L2
section
variable {X:Cx} {tg:Expr}
variable {a b c:Expr} {ta:DTA} {p0 pos1:Pos}
end
end OD
namespace L2
open PySem PySem.Spec PyProof.Rows
section
variable {X:Cx}
end
end L2
namespace OD
variable {Z:Hp}
open PySem PySem.Spec PyProof.Rows L2
abbrev DTB:=Prop→(Addr→Prop)→DS→Prop
section
variable {X:Cx} {e:Expr} {es:List Expr} {t:DTA} {n:Nat} {x y m:Str} {j:Nat} {S:yt} {p pos py hpos epos tpos:Pos} {fr:Fr} {th:DTS} {c:Value} {b₀:Stmt} {suite body:List Stmt} {d:DTB}
end
end OD
namespace OD
open PySem L2
variable {X:Cx} {e:Expr} {t:DTE}
end OD
namespace OD
open PySem L2 PyProof.Rows
section
variable {Z F:Hp} {K:PySem.W.Frag} {W W' W0:Vw} {G:Hp} {ρ:DS} {σ:L2.St}
theorem lO {α:Type} {l:List α} {x y:α} {i:Nat} (q:(l++[x])[i]? = some y):l[i]? = some y∨(i=l.length∧x=y):=by
 rcases Nat.lt_trichotomy i l.length with h | h | h
 ·rw [List.getElem?_append_left h] at q; exact .inl q
 ·subst h
  rw [List.getElem?_append_right (Nat.le_refl _),Nat.sub_self] at q
  exact .inr ⟨rfl,Option.some.inj q⟩
 ·rw [List.getElem?_eq_none (by rw [List.length_append]; show l.length+1≤i; omega)] at q
  cases q
theorem jS {α:Type} {l:List α} {y:α} {i:Nat} (q:l[i]? = some y):i<l.length:=by
 rcases Nat.lt_or_ge i l.length with h | h
 ·exact h
 ·rw [List.getElem?_eq_none h] at q; cases q
theorem i8 {α:Type} {l:List α} {x:α} {i:Nat} (h:i<l.length):(l++[x])[i]? = l[i]?:=List.getElem?_append_left h
theorem Rl.push (r:Rl K Z F W ρ σ):Rl K Z F W (ρ++[Sl.none]) (σ++[none]):=by
 have hs:∀ i y,ρ[i]? = some y→(σ++[none])[i]? = σ[i]?:=fun i y q=>i8 (by rw [← r.len]; exact jS q)
 have cl:∀ i y,(ρ++[Sl.none])[i]? = some y→y≠Sl.none→ρ[i]? = some y:=fun i y q hy=>by
  rcases lO q with q | ⟨_,e⟩
  ·exact q
  ·exact absurd e.symm hy
 refine ⟨by rw [List.length_append,List.length_append,r.len]; rfl,fun i d q=>?_,fun i ds q=>?_,fun i k ds es hik q1 q2=>?_,r.fr,r.z,fun i c ds q=>?_⟩
 ·have q:=cl i _ q (fun z=>nomatch z)
  rw [hs i _ q]; exact r.at_ i d q
 ·have q:=cl i _ q (fun z=>nomatch z)
  rw [hs i _ q]; exact r.ow i ds q
 ·have q1:=cl i _ q1 (fun z=>nomatch z)
  have q2:=cl k _ q2 (fun z=>nomatch z)
  rw [hs i _ q1,hs k _ q2]; exact r.ne i k ds es hik q1 q2
 ·have q:=cl i _ q (fun z=>nomatch z)
  obtain ⟨⟨xs,h1,h2⟩,k1,k2⟩:=r.ar i c ds q
  refine ⟨⟨xs,by rw [hs i _ q]; exact h1,h2⟩,fun k es q'=>?_,fun k b es q'=>k2 k b es (cl k _ q' (fun z=>nomatch z))⟩
  have q':=cl k _ q' (fun z=>nomatch z)
  rw [hs k _ q']; exact k1 k es q'
structure TAt (K:PySem.W.Frag) (Z:Hp) (W0:Vw) (G:Hp) (W:Vw) (ρ:DS) (σ:L2.St) (i:Nat) (es:List Dt) (d:Dt):Prop where
 ex:∃ p q v,At K Z W0 G W (ρ++[.own es]) (σ++[some (.ref p)])∧σ[i]? = some (some (.ref q))∧W.g q=some (.tup [.ref p,v])∧Is K W.g d v
variable {i:Nat} {es:List Dt} {d:Dt}
theorem TAt.step (t:TAt K Z W0 G W ρ σ i es d) (s:Le W W'):TAt K Z W0 G W' ρ σ i es d:=
 let ⟨p,q,v,a,h1,h2,h3⟩:=t.ex; ⟨p,q,v,a.step s,h1,s.g _ _ h2,h3.mono s⟩
abbrev DTG:=List Dt→Dt→DTS
end
section
variable {X:Cx} {fr:Fr} {st:Stmt} {yJ:List Stmt} {t:DTE} {u:DTS} {ug:DTG} {e:Expr} {te:DTE} {pos p0 p1 p2 p3 pos':Pos} {i j:Nat} {x y:Str}
end
end OD
namespace OD
open PySem L2
section
variable {js:List Nat} {ta te:DTE} {X:Cx} {e:Expr} {fr:Fr} {st:Stmt} {i:Nat}
theorem each_t {s:DS} {P R:Prop}:(vQ s fun b=>if b=true then P else R)=P:=by show (if true=true then P else R)=P; rw [if_pos rfl]
theorem cB {e:Dt} {s:List Dt→DS} {P R:List Dt→Prop} (h:∃ as,qH e as∧vQ (s as) fun b=>if b=true then P as else R as):P [e]:=by
 obtain ⟨as,z,h⟩:=h
 cases z
 exact each_t.mp h
theorem iD:iA js ta te=xC js (cj ta) qH vQ te:=funext fun ρ=>funext fun Q=>congrArg (ta ρ) (funext fun d=>propext
 ⟨fun ⟨m,Pv,h1,h2,h3,h4,h5,h6⟩=>⟨m,h1,h2,h3,Pv,h4,fun i e es hi he hp=>⟨_,rfl,each_t.mpr (he ▸ h5 i es hi hp)⟩,h6⟩,
  fun ⟨m,h1,h2,h3,Pv,h4,h5,h6⟩=>⟨m,Pv,h1,h2,h3,h4,fun i es hi hp=>cB (h5 i _ es hi rfl hp),h6⟩⟩)
theorem oo:qI js ta te=xC js (oh ta) qH vQ te:=funext fun ρ=>funext fun Q=>congrArg (ta ρ) (funext fun d=>propext
 ⟨fun ⟨ds,Pv,h1,h3,h4,h5,h6⟩=>⟨ds,h1,h3,Pv,h4,fun i e es _ he hp=>⟨_,rfl,each_t.mpr (h5 i e es he hp)⟩,h6⟩,
  fun ⟨ds,h1,h3,Pv,h4,h5,h6⟩=>⟨ds,Pv,h1,h3,h4,fun i e es he hp=>cB (h5 i e es (jS he) he hp),h6⟩⟩)
theorem iE:iB ta te=xC [] (oh ta) qH vQ te:=(show iB ta te=qI [] ta te from rfl).trans oo
theorem VU (h:DF X e (xC js (cj ta) qH vQ te)):DF X e (iA js ta te):=iD ▸ h
theorem cQ (h:DF X e (xC js (oh ta) qH vQ te)):DF X e (qI js ta te):=oo ▸ h
theorem VV (h:DF X e (xC [] (oh ta) qH vQ te)):DF X e (iB ta te):=iE ▸ h
end
end OD
namespace L2
open PySem PySem.Spec PyProof.Rows
section
variable {X:Cx} {o e:Expr} {es:List Expr} {n:Nat} {m x:Str} {pos p apos py epos:Pos} {i:Nat}
end
end L2
namespace OD
variable {Z:Hp}
open PySem PySem.Spec PyProof.Rows L2
structure MOkX (P:Program) (w:World) (K:PySem.W.Frag) (mg:Str→Option Value) (base:Heap) (n:Nat) (C:Addr) (m:Str) (S:yt):Prop where
 cl:Cls K C
 ex:∃ f fd ps,iU K C m f∧Binds K fd ps []∧FnOk P w K mg base (CX1 P w) n f fd ps (qU K S)
theorem MOkX.mono {P:Program} {w:World} {K:PySem.W.Frag} {mg:Str→Option Value} {base:Heap} {C:Addr} {x:Str} {m n:Nat} {S:yt} (h:MOkX P w K mg base m C x S) (hl:m≤n):MOkX P w K mg base n C x S:=
 let ⟨f,fd,ps,a,b,c⟩:=h.ex; ⟨h.cl,f,fd,ps,a,b,c.mono hl⟩
abbrev DTC:=(DS→Prop)→(Addr→Prop)→DS→Prop
section
variable {X:Cx} {o e:Expr} {es:List Expr} {t:DTA} {ta:DTE} {n:Nat} {x y m z:Str} {i j:Nat} {S:yt} {p pos py hpos epos tpos apos:Pos} {fr:Fr} {th:DTS} {c:Value} {b₀:Stmt} {suite body:List Stmt} {d:DTC}
end
end OD
namespace OD
variable {Z:Hp}
open PySem PySem.Spec PyProof.Rows L2
section
variable {X:Cx} {a b:Expr} {ta:DTA} {te:DTE} {p0 pos pos1 tpos:Pos} {elts:List Expr} {x1:Nat}
end
end OD
namespace OD
open PySem L2 PyProof.Rows
def V3 (K:PySem.W.Frag) (S:DSp):Sp:=fun vs H Q _=>∃ (W:Vw) (d0:Dt) (es0 ds:List Dt) (Qd:Dt→Prop) (v0:V) (a:Addr) (xs vs':List V) (hg:W.g a=none),W.h=H∧vs=v0::.ref a::vs'∧W.h a=some (.lst xs)∧Is K W.g d0 v0∧AllIs K W.g es0 xs∧AllIs K W.g ds vs'∧S (d0::.lst es0::ds) Qd∧
 ∀ es p ys W',Le (W.del a hg) W'→(W.del a hg).h p=none→W'.h p=some (.lst ys)→W'.g p=none→AllIs K W'.g es ys→Qd (.lst es)→Q (.ref p) W'.h
structure VOk (P:Program) (w:World) (K:PySem.W.Frag) (mg:Str→Option Value) (base:Heap) (n:Nat) (x:Str) (S:DSp):Prop where
 ex:∃ f fd ps,mg x=some (.ref f)∧PySem.W.keepIn K (.ref f)=true∧Binds K fd ps []∧FnOk P w K mg base CX0 n f fd ps (V3 K S)
section
variable {P:Program} {w:World} {K:PySem.W.Frag} {mg:Str→Option Value} {base:Heap}
theorem VOk.mk' {x qual:Str} {st:Stmt} {f:Addr} {fd:FuncData} {ps:List Str} {n:Nat} {S:DSp} (F:Fun K x qual st f fd) (hm:mg x=some (.ref f)) (hb:Binds K fd ps []) (h:FnOk P w K mg base CX0 n f fd ps (V3 K S)):VOk P w K mg base n x S:=
 ⟨f,fd,ps,hm,F.kp,hb,h⟩
end
section
variable {X:Cx} {e0 e1:Expr} {es:List Expr} {t tf:DTE} {ta:DTA} {n:Nat} {x:Str} {S:DSp} {p pos:Pos}
end
end OD
namespace L2
open PySem PySem.Spec PyProof.Rows
section
variable {X:Cx} {a b:Expr} {ta tb:TE} {x1 x2:Str} {p1 p2 p3 p4 pos:Pos}
end
end L2
namespace OD
open PySem PySem.Spec PyProof.Rows L2
section
variable {X:Cx} {a b:Expr} {ta tb:DTE} {x1 x2:Str} {p1 p2 p3 p4 pos:Pos}
end
section
variable {X:Cx} {e:Expr} {es:List Expr} {t:DTA} {n:Nat} {x:Str} {p pos:Pos}
end
section
variable {P:Program} {w:World} {K:PySem.W.Frag} {mg:Str→Option Value} {base:Heap}
end
end OD
namespace OD
variable {Z:Hp}
open PySem PySem.Spec PyProof.Rows L2
section
variable {X:Cx} {tg:Expr}
variable {a b c:Expr} {ta:DTA} {p0 pos1:Pos}
end
end OD
namespace L2
open PySem PySem.Spec PyProof.Rows
section
variable {prog:Program} {w:World} {A:Around} {E:Value→Shared→Prop} {s:Shared}
end
section
variable {X:Cx} {pos:Pos}
end
end L2
namespace OD
open PySem PySem.Spec PyProof.Rows L2
section
variable {X:Cx} {fr:Fr} {e:Expr} {te:DTE} {pos:Pos}
end
end OD
namespace L2
open PySem PySem.Spec PyProof.Rows
section
variable {X:Cx}
end
end L2
namespace OD
open PySem PySem.Spec PyProof.Rows L2
section
variable {X:Cx} {a b e:Expr} {ta tb t:DTE} {p pos p0:Pos} {x:Str}
variable {apos cpos:Pos}
end
end OD
namespace L2
open PySem PySem.Spec PyProof.Rows
section
variable {X:Cx} {tg:Expr}
end
end L2
namespace OD
open PySem PySem.Spec PyProof.Rows L2
section
variable {X:Cx} {fr:Fr} {te:DTE} {pos:Pos}
end
end OD
namespace OD
open PySem
local macro_rules | `(tactic| walk_at "ws") => `(tactic| any_goals (first | assumption | wp_step))
def Xh (c:Nat):Prop:=48≤c∧c≤57
def Numl (l:List Nat):Prop:=l=[48]∨∃ c r,49≤c∧c≤57∧(∀ x∈r,Xh x)∧(l=c::r∨l=45::c::r)
theorem Numl.mem {l:List Nat} (h:Numl l):∀ c∈l,45≤c∧c≤57:=by
 rcases h with rfl | ⟨c,r,c1,c2,hr,rfl | rfl⟩
 ·intro c hc
  rw [List.mem_singleton.mp hc]; decide
 ·intro x hx
  rcases List.mem_cons.mp hx with rfl | hx
  ·omega
  ·have:=hr x hx
   unfold Xh at this; omega
 ·intro x hx
  rcases List.mem_cons.mp hx with rfl | hx
  ·decide
  rcases List.mem_cons.mp hx with rfl | hx
  ·omega
  ·have:=hr x hx
   unfold Xh at this; omega
end OD
namespace L2
open PySem PySem.Spec PyProof.Rows
section
variable {X:Cx}
end
end L2
namespace OD
open PySem PySem.Spec PyProof.Rows L2
section
variable {X:Cx} {a b e:Expr} {ta tb t:DTE} {p pos p0:Pos} {x:Str}
variable {apos cpos:Pos}
end
end OD
namespace PySem
open Sem (wp)
theorem oR:typeLookup (.type "list_reverseiterator") "__len__"=pure none:=by rw [typeLookup_type,builtinLookup_eq_fast]; kernel_rfl
theorem l6:typeLookup (.type "list_reverseiterator") "__length_hint__"=pure (some (.builtin "list_reverseiterator.__length_hint__")):=by rw [typeLookup_type,builtinLookup_eq_fast]; kernel_rfl
theorem h9:isSubtype (.type "list_reverseiterator") (.type "list_reverseiterator")=pure true:=by rw [isSubtype_type]; kernel_rfl
section
variable {A:Around} {R:Result→Shared→Prop} {s:Shared} {w:World} {prog:Program}
abbrev iV (prog:Program) (w:World) (A:Around) (R:Result→Shared→Prop):Fin→Shared→Prop:=fun e t=>match e with
 | .done x=>R (.ok x) t
 | .again k=>k.quiet=true∧codeAny (model prog w) A k R t
def nY (l it:Addr) (items:Array Value) (i:Nat) (s:Shared):Prop:=i≤items.size∧s.heap.IsRevIter it l ((items.size:Int) - 1 - (i:Int))∧s.heap.IsList l items
theorem vV (hh:A.handled=none) (l it:Addr) (hne:l≠it) (items:Array Value):WalksS prog w A it [it,l] [it] (fun a b=>a=b) items.size (fun i v=>items[items.size - 1 - i]? = some v) (nY l it items) where
 sub:=fun b hb=>by rw [List.mem_singleton.mp hb]; exact List.mem_cons_self
 grefl:=fun _=>rfl
 gtrans:=fun _ _ _ h h'=>h.trans h'
 frame:=fun i s h' tk ⟨hi,⟨o,e,r⟩,⟨o2,e2,r2⟩⟩ _ k=>⟨hi,⟨o,k it List.mem_cons_self o e,r⟩,⟨o2,k l (List.mem_cons_of_mem _ List.mem_cons_self) o2 e2,r2⟩⟩
 item:=by
  intro i s Q E hi ⟨_,st,hl⟩ hQ
  have e1:(items.size:Int) - 1 - (i:Int)=((items.size - 1 - i:Nat):Int):=by omega
  rw [e1] at st
  have hx:items[items.size - 1 - i]? = some items[items.size - 1 - i]:=Array.getElem?_eq_getElem (by omega)
  refine wpAny_pyNext_rev_item st hl hx fun h' st' sb=>?_
  refine hQ _ _ hx ⟨hi,?_,?_⟩ ⟨?_,rfl,rfl,rfl,Nat.le_refl _⟩
  ·have e2:(items.size:Int) - 1 - ((i+1:Nat):Int)=((items.size - 1 - i:Nat):Int) - 1:=by omega
   rw [e2]; exact st'
  ·obtain ⟨o,e,r⟩:=hl
   exact ⟨o,(sb.2 l hne).trans e,r⟩
  ·intro b o hb e
   exact (sb.2 b fun z=>hb (by rw [z]; exact List.mem_singleton.mpr rfl)).trans e
 done:=by
  intro s Q E ⟨_,st,hl⟩ hQ
  have e1:(items.size:Int) - 1 - (items.size:Int)=-1:=by omega
  rw [e1] at st
  refine wpAny_pyNext_rev_end hh st fun h' eb=>hQ _ ⟨?_,rfl,rfl,rfl,Nat.le_refl _⟩
  intro b o hb e
  exact eb b o (fun z=>hb (by rw [z]; exact List.mem_singleton.mpr rfl)) e
 self:=fun i s Q E ⟨_,st,_⟩ h=>wpAny_pyIter_revIter st h
end
end PySem
namespace PySem
open Sem (wp)
section
variable {A:Around} {R:Result→Shared→Prop} {s:Shared} {w:World} {prog:Program}
theorem l5 {it l:Addr} {i:Int} {Q:Bool→Shared→Prop} {E:Value→Shared→Prop} (hit:s.heap.IsRevIter it l i) (h:Q false s):wpAny (model prog w) A (Builtin.List.listLengthHint (.ref it)) Q E s:=by
 obtain ⟨o,ho,hc,_⟩:=id hit
 have hT:s.TypeIs (.ref it) "list_reverseiterator":=⟨o,ho,hc⟩
 unfold Builtin.List.listLengthHint
 refine wpAny_bind (wpAny_specialOf hT oR ?_)
 show wpAny _ A (specialOf (Value.ref it) (Str.ofString "__length_hint__") >>= _) _ _ _
 refine wpAny_bind (wpAny_specialOf hT l6 ?_)
 have e1:splitId "list_reverseiterator.__length_hint__"=some ("list_reverseiterator","__length_hint__"):=by decide +kernel
 simp only [e1]
 refine wpAny_bind (wpAny_isInstance hT h9 ?_)
 simp only [Bool.not_true,Bool.false_eq_true,if_false]
 split
 ·split
  ·rename_i z
   exact absurd z (by decide)
  ·exact wpAny_pure h
 ·rename_i z
  exact absurd (by kernel_rfl) z
theorem nl {l it:Addr} {items:Array Value} (hh:A.in1.handled=none) (hne:l≠it) (S:Addr) (res:Value) (c₀:Nat) (hst:nY l it items 0 s) (hSf:S∉[it,l])
  (hS:s.heap.get? S=some { cls:=.type "list",data:=.seq #[] c₀ })
  (hR:∀ s' acc' c',Moved [S,it] (fun a b=>a=b) s s'→s'.heap.get? S=some { cls:=.type "list",dict:=none,data:=.seq acc' c',slots:=#[] }→ItemsOf (fun i v=>items[items.size - 1 - i]? = some v) acc' items.size→R (.ok (.ret res)) s') (hn:items.size≤sizeLine):
  wpAny (model prog w) A.in1 (Builtin.List.listExtendWith (.ref S) (.ref it) res) (iV prog w A R) (fun x t=>R (.error x) t) s:=by
 have W:=vV (prog:=prog) (w:=w) hh l it hne items
 have hSI:S≠it:=fun e=>hSf (e ▸ List.mem_cons_self)
 obtain ⟨o,ho,hc,_⟩:=id hst.2.1
 have hT:s.TypeIs (.ref it) "list_reverseiterator":=⟨o,ho,hc⟩
 unfold Builtin.List.listExtendWith
 refine wpAny_bind (wpAny_typeOf hT ?_)
 have h1:Builtin.List.listSameRef (.ref S) (.ref it)=false:=by simp [Builtin.List.listSameRef,hSI]
 have h2:(Value.type "list_reverseiterator" == Value.type "list")=false:=by decide
 have h3:(Value.type "list_reverseiterator" == Value.type "tuple")=false:=by decide
 simp only [h1,h2,h3,Bool.or_false,Bool.false_eq_true,if_false]
 refine wpAny_bind (W.self 0 _ _ _ hst ?_)
 refine wpAny_bind (wpAny_holding (l5 hst.2.1 ?_))
 split
 ·rename_i z
  exact absurd z (by rw [Bool.false_or]; decide +kernel)
 ·exact wpAny_pure ⟨plainId_quiet F.plain_extend_loop _,codeAny_extend_loopS W hn _ hSf _ items.size 0 _ _ _ rfl (Nat.zero_le _) hst hS (ItemsOf.nil _) fun s' acc' c' hm hS' hacc=>hR s' acc' c' hm hS' hacc⟩
theorem jN {l it:Addr} {items:Array Value} (hh:A.in1.handled=none) (hne:l≠it) (S:Addr) (hst:nY l it items 0 s) (hSf:S∉[it,l])
  (hS:s.heap.get? S=some { cls:=.type "list",data:=.seq #[] })
  (hR:∀ s' acc' c',Moved [S,it] (fun a b=>a=b) s s'→s'.heap.get? S=some { cls:=.type "list",dict:=none,data:=.seq acc' c',slots:=#[] }→ItemsOf (fun i v=>items[items.size - 1 - i]? = some v) acc' items.size→R (.ok (.ret .none)) s') (hn:items.size≤sizeLine):
  wpAny (model prog w) A.in1 (Builtin.«list.__init__» ⟨[.ref S,.ref it],[]⟩) (iV prog w A R) (fun x t=>R (.error x) t) s:=by
 have W:=vV (prog:=prog) (w:=w) hh l it hne items
 show wpAny _ A.in1 (Builtin.List.listItems (.ref S) >>= fun old=>Builtin.List.listUpdate (.ref S) (fun _=>#[]) >>= fun _=>letGo old.toList.reverse >>= fun _=>Builtin.List.listExtendWith (.ref S) (.ref it) .none) _ _ s
 refine wpAny_bind ?_
 unfold Builtin.List.listItems
 refine wpAny_bind (wpAny_seqItems hS rfl (wpAny_pure ?_))
 show wpAny _ A.in1 (updateSeq S (fun _=>#[]) >>= fun _=>letGo [] >>= fun _=>Builtin.List.listExtendWith (.ref S) (.ref it) .none) _ _ s
 refine wpAny_bind (wpAny_updateSeq hS rfl ?_)
 have hS2:=Heap.get?_update_self (Obj.mapSeq (fun _=>(#[]:Array Value))) hS rfl
 have oth:∀ b o,b≠S→s.heap.get? b=some o→(s.heap.update S (Obj.mapSeq (fun _=>(#[]:Array Value)))).get? b=some o:=
  fun b o hb e=>(Heap.get?_update_other _ _ (Ne.symm hb)).trans e
 refine wpAny_bind (wpAny_letGo ?_)
 refine nl hh hne S .none _ (W.frame 0 s _ s.toks hst (Nat.le_refl _) fun b hb o e=>oth b o (fun h=>hSf (h ▸ hb)) e) hSf hS2 (fun s' acc' c' hm hS' hacc=>?_) hn
 exact hR s' acc' c' (Moved.trans W.gtrans ((Moved.refl W.grefl).then_heap (Nat.le_refl _) fun b o hb e=>oth b o (fun h=>hb (h ▸ List.mem_cons_self)) e) hm) hS' hacc
theorem s_ {l it:Addr} {items:Array Value} {Q:Value→Shared→Prop} {E:Value→Shared→Prop} (hh:A.in1.in1.handled=none) (hne:l≠it) (hst:nY l it items 0 s) (hn:items.size≤sizeLine)
  (hQ:∀ s' acc' c',Moved [s.heap.objs.size,it] (fun a b=>a=b) { s with heap:=s.heap.push { cls:=.type "list",data:=.seq #[] } } s'→
   s'.heap.get? s.heap.objs.size=some { cls:=.type "list",dict:=none,data:=.seq acc' c',slots:=#[] }→ItemsOf (fun i v=>items[items.size - 1 - i]? = some v) acc' items.size→Q (.ref s.heap.objs.size) s'):
  wpAny (model prog w) A (call (.type "list") [.ref it]) Q E s:=by
 have W:=vV (prog:=prog) (w:=w) hh l it hne items
 have hlt:∀ b∈[it,l],b<s.heap.objs.size:=fun b hb=>by
  obtain ⟨_,⟨o,e,_⟩,⟨o2,e2,_⟩⟩:=hst
  rcases List.mem_cons.mp hb with rfl | hb
  ·exact Heap.lt_size e
  ·rw [List.mem_singleton.mp hb]; exact Heap.lt_size e2
 have hSf:s.heap.objs.size∉[it,l]:=fun hm=>Nat.lt_irrefl _ (hlt _ hm)
 refine callType_codes (Q₁:=fun obj s₁=>obj=.ref s.heap.objs.size∧s₁={ s with heap:=s.heap.push { cls:=.type "list",data:=.seq #[] } }) F.called_list (F.typeCall_list_1 _) F.entry_list_init
  (code_list_new _ ⟨rfl,rfl⟩) fun obj s₁ h₁=>?_
 obtain ⟨rfl,rfl⟩:=h₁
 have hS:(s.heap.push { cls:=.type "list",data:=.seq #[] }).get? s.heap.objs.size=some { cls:=.type "list",data:=.seq #[] }:=Heap.get?_push_size _ rfl
 refine ⟨⟨_,hS,rfl⟩,F.args_list_init_2 _ _,jN hh hne _ (W.frame 0 s _ s.toks hst (Nat.le_refl _) fun b _ o e=>Heap.get?_push_of_some _ e) hSf hS (fun s' acc' c' hm hS' hacc=>?_) hn⟩
 exact ⟨rfl,hQ s' acc' c' hm hS' hacc⟩
end
end PySem
namespace L2
open PySem PySem.Spec PyProof.Rows
section
variable {X:Cx} {a:Expr} {p0 p1 pos pos1:Pos}
theorem nD:bootBuiltins "list"=some (.type "list"):=by decide +kernel
def lL (K:PySem.W.Frag) (ta:TA):TE:=fun σ H Q=>ta σ H fun vs H1=>∃ l xs,vs=[.ref l]∧SqL K H1 l xs∧∀ p,H1 p=none→Q (.ref p) (upd H1 p (.lst xs.reverse))
theorem lH {xs:List V} {its:List Value} (r:Vals xs its) {acc:Array Value} (h:ItemsOf (fun i v=>its.toArray[its.toArray.size - 1 - i]? = some v) acc its.toArray.size):Vals xs.reverse acc.toList:=by
 have e:acc.toList=its.reverse:=by
  obtain ⟨hn,hj⟩:=h
  have hn:acc.size=its.length:=hn.trans List.size_toArray
  apply List.ext_getElem?
  intro j
  by_cases hlt:j<its.length
  ·have e1:acc[j]? = some acc[j]:=Array.getElem?_eq_getElem (by omega)
   have e2:=hj j _ e1
   rw [List.getElem?_reverse hlt,Array.getElem?_toList,e1]
   simpa using e2.symm
  ·rw [List.getElem?_eq_none (by rw [Array.length_toList]; omega),List.getElem?_eq_none (by rw [List.length_reverse]; omega)]
 rw [e]
 exact r.reverse
theorem oS {ta:TA} (hc:X.calm=true) (hg:Gl X "list") (hm:X.mg "list"=none) (hg':Gl X "reversed") (hm':X.mg "reversed"=none) (ha:PA X [a] ta) (hs:starEach [a] X.env=(false,eval a X.env)::starEach [] X.env:=by rfl)
  (hpl:(backTo pos1 (starEach [] X.env)).any (·.1)=false:=by rfl) (hs2:starEach [.Call (.Name "reversed" p1) [a] [] pos1] X.env=(false,eval (.Call (.Name "reversed" p1) [a] [] pos1) X.env)::starEach [] X.env:=by rfl) (hpl2:(backTo pos (starEach [] X.env)).any (·.1)=false:=by rfl):
  PE X (.Call (.Name "list" p0) [.Call (.Name "reversed" p1) [a] [] pos1] [] pos) (lL X.K ta):=by
 intro pins s σ H Q I h
 refine Call_ (xX I hg hm nD (PyProof.Rows.callWith_type1 ?_ hs2 hpl2))
 rw [hs2]
 show wpAny _ _ (spliced ((false,eval (.Call (.Name "reversed" p1) [a] [] pos1) X.env)::backTo pos (starEach [] X.env))) _ _ s
 refine Calls.spliced_cons ?_
 refine Call_ (xX I hg' hm' OD.boot_rev (PyProof.Rows.callWith_type1 (thn (ha pos1 pins s σ H _ I h) fun us s1 ⟨vs,H1,I1,r1,q1⟩=>?_) hs hpl))
 obtain ⟨l,xs,e,q1,q⟩:=q1
 subst e
 obtain ⟨u,rfl,ru⟩:=r1.one
 cases ru
 obtain ⟨its,r,pl,z⟩:=I1.list q1
 refine call_reversed_list pl.isList ?_
 refine Calls.spliced_nil ?_
 have hlt:l<s1.heap.objs.size:=by obtain ⟨o,n,e,_⟩:=pl; exact Heap.lt_size e
 have hsz:its.toArray.size≤sizeLine:=by rw [List.size_toArray,← r.length]; exact z
 refine s_ (l:=l) (items:=its.toArray) (I1.ok.hd hc) (Nat.ne_of_lt hlt) ⟨Nat.zero_le _,⟨_,Heap.get?_push_size _ rfl,rfl,by show Data.fields #[.ref l,rawInt ((its.toArray.size:Int) - 1)]=Data.fields #[.ref l,rawInt ((its.toArray.size:Int) - 1 - ((0:Nat):Int))]; rw [show ((its.toArray.size:Int) - 1 - ((0:Nat):Int))=(its.toArray.size:Int) - 1 by omega]⟩,?_⟩ hsz fun s' acc c' hm hS hacc=>?_
 ·obtain ⟨o,e,r'⟩:=pl.isList
  exact ⟨o,Heap.get?_push_of_some _ e,r'⟩
 obtain ⟨hp',g',d',tk',os'⟩:=s'
 obtain ⟨mh,mg,md,mo,mt⟩:=hm
 simp only at mg md mo
 subst mg md mo
 have k:∀ b u,s1.heap.get? b=some u→hp'.get? b=some u:=fun b u e=>mh b u (fun hb=>by
  have:=Heap.lt_size e
  rcases List.mem_cons.mp hb with rfl | hb
  ·simp only [Heap.size_push] at this; exact absurd this (Nat.not_lt.mpr (Nat.le_succ _))
  ·rw [List.mem_singleton.mp hb] at this; exact absurd this (Nat.lt_irrefl _)) (Heap.get?_push_of_some _ (Heap.get?_push_of_some _ e))
 have fr:s1.heap.objs.size≤(s1.heap.push (revObj l ((its.toArray.size:Int) - 1))).objs.size:=by simp only [Heap.size_push]; exact Nat.le_succ _
 refine ⟨.ref _,_,I1.laid (t':=tk') (o:=.lst xs.reverse) k fr ⟨by rw [List.length_reverse]; exact z,_,c',lH r hacc,hS⟩,rfl,q _ (I1.hok.fresh fr)⟩
end
end L2
namespace OD
open PySem PySem.Spec PyProof.Rows L2
section
variable {X:Cx} {a:Expr} {ta:DTE} {p0 p1 pos pos1:Pos}
def iz (ta:DTE):DTE:=fun ρ Q=>ta ρ fun d=>∃ ds,yO d=some ds∧Q (.lst ds.reverse)
theorem nu (hc:X.calm=true) (hg:Gl X "list") (hm:X.mg "list"=none) (hg':Gl X "reversed") (hm':X.mg "reversed"=none) (ha:DE X a ta) (hs:starEach [a] X.env=(false,eval a X.env)::starEach [] X.env:=by rfl)
  (hpl:(backTo pos1 (starEach [] X.env)).any (·.1)=false:=by rfl) (hs2:starEach [.Call (.Name "reversed" p1) [a] [] pos1] X.env=(false,eval (.Call (.Name "reversed" p1) [a] [] pos1) X.env)::starEach [] X.env:=by rfl) (hpl2:(backTo pos (starEach [] X.env)).any (·.1)=false:=by rfl):
  DF X (.Call (.Name "list" p0) [.Call (.Name "reversed" p1) [a] [] pos1] [] pos) (iz ta):=by
 obtain ⟨te,q1,l1⟩:=ha
 refine ⟨_,oS hc hg hm hg' hm' (zT q1 yA hs) hs hpl hs2 hpl2,fun ρ σ H Q r h R k=>l1 ρ σ H _ r h _ fun d v H1 s1 i1 ⟨ds,e,q⟩=>?_⟩
 obtain ⟨b,xs,rfl,h1,h2⟩:=vz i1 e
 exact ⟨b,xs,rfl,h1,fun p hp=>k _ p _ (H1.mine p _ (H1.sub.free hp)) (s1.trans (uU hp _)) (s1.h.free hp) zp (H1.sub.free hp) h2.rev q⟩
end
end OD
namespace PySem
open Sem (wp)
section
variable {A:Around} {R:Result→Shared→Prop} {s:Shared} {w:World} {prog:Program}
def ltL:List Int→List Int→Bool
 | [],[]=>false
 | [],_::_=>true
 | _::_,[]=>false
 | x::xs,y::ys=>if x=y then ltL xs ys else decide (x<y)
theorem dX (l b:Addr) (items items2:Array Value) (n n2:Nat) (dd dd2:Option Addr) (sl sl2:Array (Option Value)) (ns ms:List Int) (z1:items.size=ns.length) (z2:items2.size=ns.length) (z3:ms.length=ns.length)
  (e1:∀ j,j<ns.length→∃ t,items[j]? = some (Value.int (ns.getD j 0) t)) (e2:∀ j,j<ns.length→∃ t,items2[j]? = some (Value.int (ms.getD j 0) t)) (k:Nat):
  ∀ i:Nat,ns.length - i=k→i≤ns.length→Meets (Builtin.«list.__eq__.loop» ⟨[.ref l,.ref b,rawInt i,rawInt 0],[]⟩)
   (fun _ R s=>s.heap.get? l=some { cls:=.type "list",dict:=dd,data:=.seq items n,slots:=sl }∧s.heap.get? b=some { cls:=.type "list",dict:=dd2,data:=.seq items2 n2,slots:=sl2 }∧
    R (.ok (.ret (.bool (ltL (ns.drop i) (ms.drop i))))) s):=by
 induction k with
 | zero=>
  intro i hk hi prog w A R s h
  obtain ⟨hp,g,d,tk,os⟩:=s; obtain ⟨hl,hb,h⟩:=h
  wp_walk using wpAny_loadPart' hl,wpAny_loadPart' hb
  rw [show items[((i:Nat):Int).toNat]? = none by simp; omega,show items2[((i:Nat):Int).toNat]? = none by simp; omega]
  wp_walk using wpAny_loadPart' hl,wpAny_loadPart' hb
  rw [List.drop_of_length_le (by omega),List.drop_of_length_le (by omega)] at h
  show R (.ok (.ret (.bool (decide (items.size<items2.size))))) _
  rw [z1,z2,decide_eq_false (Nat.lt_irrefl _)]
  exact h
 | succ k ih=>
  intro i hk hi prog w A R s h
  obtain ⟨hp,g,d,tk,os⟩:=s; obtain ⟨hl,hb,h⟩:=h
  have hlt:i<ns.length:=by omega
  obtain ⟨t,f1⟩:=e1 i hlt
  obtain ⟨u,f2⟩:=e2 i hlt
  have g1:items[((i:Nat):Int).toNat]? = some (Value.int (ns.getD i 0) t):=f1
  have g2:items2[((i:Nat):Int).toNat]? = some (Value.int (ms.getD i 0) u):=f2
  have d1:ns.drop i=ns.getD i 0::ns.drop (i+1):=by rw [List.drop_eq_getElem_cons hlt,List.getD_eq_getElem?_getD,List.getElem?_eq_getElem hlt]; rfl
  have d2:ms.drop i=ms.getD i 0::ms.drop (i+1):=by rw [List.drop_eq_getElem_cons (by omega),List.getD_eq_getElem?_getD,List.getElem?_eq_getElem (by omega)]; rfl
  rw [d1,d2] at h
  have hc:((i:Int)+1)=((i+1:Nat):Int):=rfl
  wp_walk using wpAny_loadPart' hl,wpAny_loadPart' hb
  rw [g1,g2]
  refine wpAny_bind (wpAny_eqBool_int ?_)
  by_cases e:ns.getD i 0=ms.getD i 0
  ·rw [show (ns.getD i 0 == ms.getD i 0)=true from beq_iff_eq.mpr e]
   unfold ltL at h
   rw [if_pos e] at h
   wp_walk
   rw [hc]
   exact ⟨plainId_quiet MeetsSeq3.plain_eq_loop _,codeAny_builtin MeetsSeq3.entry_eq_loop (by
    rw [Around.under_plainId MeetsSeq3.plain_eq_loop _]
    exact ih (i+1) (by omega) (by omega) prog w A R _ ⟨hl,hb,h⟩)⟩
  ·rw [show (ns.getD i 0 == ms.getD i 0)=false from beq_eq_false_iff_ne.mpr e]
   unfold ltL at h
   rw [if_neg e] at h
   wp_walk using wpAny_loadPart' hl,wpAny_loadPart' hb
   rw [g1,g2]
   show wpAny _ _ (compareOp .Lt (Value.int (ns.getD i 0) t) (Value.int (ms.getD i 0) u) >>= fun v=>ret v) _ _ _
   refine wpAny_bind (P.lt_int ?_)
   exact wpAny_pure h
theorem dY (l b:Addr) (items items2:Array Value) (n n2:Nat) (dd dd2:Option Addr) (sl sl2:Array (Option Value)) (ns ms:List Int) (z1:items.size=ns.length) (z2:items2.size=ns.length) (z3:ms.length=ns.length)
  (e1:∀ j,j<ns.length→∃ t,items[j]? = some (Value.int (ns.getD j 0) t)) (e2:∀ j,j<ns.length→∃ t,items2[j]? = some (Value.int (ms.getD j 0) t)):
  Meets (Builtin.«list.__lt__» ⟨[.ref l,.ref b],[]⟩)
   (fun _ R s=>s.heap.get? l=some { cls:=.type "list",dict:=dd,data:=.seq items n,slots:=sl }∧s.heap.get? b=some { cls:=.type "list",dict:=dd2,data:=.seq items2 n2,slots:=sl2 }∧
    R (.ok (.ret (.bool (ltL ns ms)))) s):=by
 intro prog w A R s h
 obtain ⟨hp,g,d,tk,os⟩:=s; obtain ⟨hl,hb,h⟩:=h
 have f3:=AutoSeq1.sub_list_list
 wp_walk using wpAny_loadPart' hl,wpAny_loadPart' hb
 exact ⟨plainId_quiet MeetsSeq3.plain_eq_loop _,codeAny_builtin MeetsSeq3.entry_eq_loop (by
  rw [Around.under_plainId MeetsSeq3.plain_eq_loop _]
  exact dX l b items items2 n n2 dd dd2 sl sl2 ns ms z1 z2 z3 e1 e2 _ 0 rfl (Nat.zero_le _) prog w A R _ ⟨hl,hb,h⟩)⟩
end
end PySem
namespace L2
open PySem PySem.Spec PyProof.Rows
section
variable {X:Cx}
theorem nR {ns:List Int} {its:List Value} (r:Vals (ns.map V.int) its):its.toArray.size=ns.length∧∀ j,j<ns.length→∃ t,its.toArray[j]? = some (Value.int (ns.getD j 0) t):=by
 have hl:=r.length
 rw [List.length_map] at hl
 refine ⟨by rw [List.size_toArray]; exact hl.symm,fun j hj=>?_⟩
 have e:(ns.map V.int)[j]? = some (V.int (ns.getD j 0)):=by
  rw [List.getElem?_map,List.getElem?_eq_getElem hj,List.getD_eq_getElem?_getD,List.getElem?_eq_getElem hj]; rfl
 obtain ⟨u,hu,t,rfl⟩:=r.get e
 exact ⟨t,by simpa using hu⟩
theorem bK (hu:X.A.units<cLine):OpR X (compareOp .Lt) (fun x y H Q=>∃ p q ns ms,x=.ref p∧y=.ref q∧SqL X.K H p (ns.map V.int)∧SqL X.K H q (ms.map V.int)∧ms.length=ns.length∧Q (.bl (ltL ns ms)) H):=by
 intro pins s σ H x y v u Q I rx ry h
 obtain ⟨p,q,ns,ms,rfl,rfl,h1,h2,hl,qq⟩:=h
 cases rx
 cases ry
 obtain ⟨its,r1,p1,_⟩:=I.list h1
 obtain ⟨its2,r2,p2,_⟩:=I.list h2
 obtain ⟨z1,e1⟩:=nR r1
 obtain ⟨z2,e2⟩:=nR r2
 obtain ⟨⟨cls,dd,data,sl⟩,n,ho,hc,hd,hs⟩:=p1
 obtain ⟨⟨cls2,dd2,data2,sl2⟩,n2,ho2,hc2,hd2,hs2⟩:=p2
 simp only at hc hd hs hc2 hd2 hs2
 subst hc hd hs hc2 hd2 hs2
 show wpAny _ _ (richCompare .Lt (.ref p) (.ref q)) _ _ _
 exact richCompare_meets_room (op:=.Lt) ⟨_,ho,rfl⟩ ⟨_,ho2,rfl⟩ PySem.F.slot_list_lt PySem.F.entry_list_lt (PySem.F.args_list_lt_2 _ _) (dY p q its.toArray its2.toArray _ _ _ _ _ _ ns ms z1 (z2.trans hl) hl e1 (fun j hj=>e2 j (by omega)))
  ⟨ho,ho2,(fun x=>nomatch x),.bl _,H,I,rfl,qq⟩ hu
end
end L2
namespace OD
open PySem PySem.Spec PyProof.Rows L2
section
variable {X:Cx}
def Uz:Dt→Dt→(Dt→Prop)→Prop:=fun d e Q=>∃ ns ms:List Int,yO d=some (ns.map Dt.int)∧yO e=some (ms.map Dt.int)∧ms.length=ns.length∧Q (.bl (ltL ns ms))
theorem sv {K:PySem.W.Frag} {H:Hp}:∀ {ns:List Int} {xs:List V},AllIs K H (ns.map Dt.int) xs→xs=ns.map V.int
 | [],xs,h=>allIs_nil.mp h
 | x::ns,xs,h=>by
  obtain ⟨v,r,rfl,h1,h2⟩:=allIs_cons.mp h
  rw [sv h2,is_int.mp h1]
  rfl
theorem Wp {k:Nat} (hr:Room k X.A):DOp X (compareOp .Lt) Uz:=by
 have hu:=hr.units
 refine ⟨_,bK (by omega),fun H x y d e Q i1 i2 ⟨ns,ms,ed,ee,hl,q⟩ R k=>?_⟩
 obtain ⟨p,xs,rfl,h1,h2⟩:=vz i1 ed
 obtain ⟨p',xs',rfl,h1',h2'⟩:=vz i2 ee
 obtain rfl:=sv h2
 obtain rfl:=sv h2'
 exact ⟨p,p',ns,ms,rfl,rfl,h1,h1',hl,k _ _ H (Le.refl H) (is_bl.mpr rfl) q⟩
end
end OD
namespace My
open PySem L2 OD
local macro_rules | `(tactic| walk_at "sc") => `(tactic| exact ⟨rfl, rfl, rfl, by decide +kernel, rfl, by decide +kernel, by decide +kernel⟩)
local macro_rules | `(tactic| walk_at "ln") => `(tactic| (intros; rename_i h; repeat (first | (obtain ⟨e, _⟩ := h; subst e; rfl) | obtain ⟨_, h⟩ := h)))
local macro_rules | `(tactic| walk_at "rd1") => `(tactic| first | refine ⟨_, rfl, ?_⟩ | refine ⟨_, _, rfl, rfl, ?_⟩ | refine ⟨_, _, _, _, rfl, rfl, rfl, ?_⟩ | refine ⟨_, _, _, rfl, rfl, rfl, ?_⟩ | refine Ut ?_ | refine Uu ?_ | refine ⟨rfl, rfl, ?_⟩ | refine ⟨rfl, ?_⟩ | refine ⟨VW (by decide), ?_⟩ | refine ⟨iF (by decide), ?_⟩ | refine ⟨VT (by decide), ?_⟩ | refine ⟨Vd (by decide), ?_⟩ | refine ⟨Y7 (by decide), ?_⟩ | refine ⟨_, _, rfl, ?_⟩)
local macro_rules | `(tactic| walk_at "rd") => `(tactic| repeat (walk_at "rd1"))
theorem ifT {b:Bool} {A B:Prop} (e:b=true) (h:A):if b=true then A else B:=by rw [if_pos e]; exact h
theorem ifF {b:Bool} {A B:Prop} (e:b=false) (h:B):if b=true then A else B:=by rw [if_neg (by rw [e]; exact Bool.false_ne_true)]; exact h
theorem ifB {b:Bool} {A B:Prop} (h1:b=true→A) (h2:b=false→B):if b=true then A else B:=by
 cases b with
 | true=>exact ifT rfl (h1 rfl)
 | false=>exact ifF rfl (h2 rfl)
theorem eqI {a b:Int} (h:a=b):eqD (.int a) (.int b)=true:=by rw [yY]; exact beq_iff_eq.mpr h
theorem neI {a b:Int} (h:a≠b):eqD (.int a) (.int b)=false:=by rw [yY]; exact beq_eq_false_iff_ne.mpr h
theorem kA {a b:Int} (h:eqD (.int a) (.int b)=true):a=b:=by rw [yY] at h; exact beq_iff_eq.mp h
theorem kz {a b:Int} (h:eqD (.int a) (.int b)=false):a≠b:=by rw [yY] at h; exact beq_eq_false_iff_ne.mp h
theorem nT {b:Bool} (h:b=true):(!b)=false:=by rw [h]; rfl
theorem nF {b:Bool} (h:b=false):(!b)=true:=by rw [h]; rfl
theorem Wn {b:Bool} (h:(!b)=true):b=false:=by cases b <;> first | rfl | cases h
theorem Wo {b:Bool} (h:(!b)=false):b=true:=by cases b <;> first | rfl | cases h
def zt (ns:List Int):Dt:=.lst (ns.map Dt.int)
def trim (ns:List Int):List Int:=(ns.reverse.dropWhile (· == 0)).reverse
def iT:DSp:=fun ds Q=>∃ ns k,ds=[.scr ns,.int k]∧0≤k∧∀ z:Int,Q (.int z)
def mJ:DSp:=fun ds Q=>∃ ns:List Int,ds=[.scr ns]∧ns.length≤63∧Q (.bl true)
theorem qN {xs:List Int} {k:Int} (h0:0≤k) (h:k<xs.length):atI (xs.map Dt.int) k=some (.int (xs.getD k.toNat 0)):=by
 have e:((k.toNat:Nat):Int)=k:=Int.toNat_of_nonneg h0
 have hl:k.toNat<xs.length:=by omega
 have:=u8 (j:=k.toNat) (xs:=xs.map Dt.int) (v:=.int (xs.getD k.toNat 0)) (by
  rw [List.getElem?_map,List.getElem?_eq_getElem hl,List.getD_eq_getElem?_getD,List.getElem?_eq_getElem hl]
  rfl)
 rwa [e] at this
theorem wl {ns:List Int} {i:Nat} (h:i<ns.length):atI (ns.map Dt.int) (i:Int)=some (.int (ns.getD i 0)):=by
 refine u8 ?_
 rw [List.getElem?_map,List.getElem?_eq_getElem h,List.getD_eq_getElem?_getD,List.getElem?_eq_getElem h]
 rfl
theorem ma {n:Nat} {k:Int} (h0:0≤k) (h:k<n):ixN n k=some k.toNat:=by
 unfold ixN
 rw [if_pos h0,if_pos h]
theorem pT {n:Nat} (h:0<n):ixN n (-1)=some (n - 1):=by
 unfold ixN
 rw [if_neg (by decide),if_pos (by omega)]
 congr 1
 omega
theorem vT {xs:List Int} {z:Int}:atI ((xs++[z]).map Dt.int) (-1)=some (.int z):=by
 unfold atI
 rw [pT (by rw [List.length_map,List.length_append]; exact Nat.succ_pos _)]
 show ((xs++[z]).map Dt.int)[((xs++[z]).map Dt.int).length - 1]? = _
 rw [List.length_map,List.length_append,List.map_append,List.getElem?_append_right (by rw [List.length_map]; exact Nat.le_of_eq (Nat.add_sub_cancel ..).symm)]
 rw [List.length_map,show xs.length+[z].length - 1 - xs.length=0 by simp]
 rfl
theorem XO {ns:List Int} {n:Nat}:(ns.map Dt.int).all (okE n)=true:=by
 rw [List.all_eq_true]
 intro x hx
 obtain ⟨z,_,e⟩:=List.mem_map.mp hx
 subst e
 cases n <;> rfl
theorem xq (ns:List Int):okE 40 (zt ns)=true:=XO (n:=39)
theorem oi (ms:List Int) (lo hi:Option Int):∃ ms':List Int,qJ (ms.map Dt.int) lo hi=ms'.map Dt.int∧ms'.length≤ms.length∧∀ z∈ms',z∈ms:=by
 unfold qJ
 rw [← List.map_drop,← List.map_take]
 refine ⟨_,rfl,?_,fun t ht=>List.mem_of_mem_drop (List.mem_of_mem_take ht)⟩
 rw [List.length_take,List.length_drop]
 omega
theorem jT {ns:List Int} {i:Nat} {x:Dt} (h:(ns.map Dt.int)[i]? = some x):x=.int (ns.getD i 0)∧i<ns.length:=by
 rw [List.getElem?_map] at h
 cases q:ns[i]? with
 | none=>rw [q] at h; cases h
 | some z=>
  rw [q] at h
  have hl:i<ns.length:=by
   rcases Nat.lt_or_ge i ns.length with h | h
   ·exact h
   ·rw [List.getElem?_eq_none h] at q; cases q
  rw [List.getD_eq_getElem?_getD,q]
  exact ⟨(Option.some.inj h).symm,hl⟩
theorem tM (k:Nat) (z:Int):(List.replicate k [Dt.int z]).flatten=(List.replicate k z).map Dt.int:=by
 induction k with
 | zero=>rfl
 | succ k ih=>rw [List.replicate_succ,List.flatten_cons,ih]; rfl
theorem wz (xs:List Int) (z:Int):xs.map Dt.int++[.int z]=(xs++[z]).map Dt.int:=by rw [List.map_append]; rfl
theorem lV (xs:List Int) (j:Nat) (z:Int):(xs.map Dt.int).set j (.int z)=(xs.set j z).map Dt.int:=by rw [List.map_set]
theorem rH (xs:List Int):(xs.map Dt.int).dropLast=xs.dropLast.map Dt.int:=by rw [List.map_dropLast]
theorem zC (xs:List Int):(xs.map Dt.int).length=xs.length:=List.length_map _
theorem q8:trim []=[]:=rfl
theorem wB (xs:List Int):trim (xs++[0])=trim xs:=by
 unfold trim
 rw [List.reverse_append]
 rfl
theorem uS {xs:List Int} {z:Int} (h:z≠0):trim (xs++[z])=xs++[z]:=by
 unfold trim
 rw [List.reverse_append]
 show (List.dropWhile _ (z::xs.reverse)).reverse=_
 rw [List.dropWhile_cons,if_neg (by simpa using h),List.reverse_cons,List.reverse_reverse]
theorem zK (xs:List Int):xs=[]∨∃ l z,xs=l++[z]:=by
 rcases List.eq_nil_or_concat xs with h | ⟨l,z,h⟩
 ·exact .inl h
 ·exact .inr ⟨l,z,by rw [h,List.concat_eq_append]⟩
theorem tw (xs:List Int):(trim xs).length≤xs.length:=by
 unfold trim
 rw [List.length_reverse]
 refine Nat.le_trans (List.dropWhile_sublist _).length_le ?_
 rw [List.length_reverse]
 exact Nat.le_refl _
theorem tp {i:Nat} {D:wY} {ρ:DS} {ms:List Int} (hi:ρ[i]? = some (.own (ms.map Dt.int))) (q:D.nx (ρ.set i (.own ((trim ms).map Dt.int)))):
  nw (XG (vP (dOp (gI fun i j=>Dt.bl (decide (j<i))) (cN i) (dC (Dt.int 0)))) (vP (dOp gEq (XE i (XC (dC (Dt.int 1)))) (dC (Dt.int 0))))) (Xz i) D ρ:=by
 have hl:i<ρ.length:=by
  rcases Nat.lt_or_ge i ρ.length with h | h
  ·exact h
  ·rw [List.getElem?_eq_none h] at hi; cases hi
 refine ⟨fun m ρ'=>∃ l:List Int,ρ'=ρ.set i (.own (l.map Dt.int))∧l.length=m∧trim l=trim ms,⟨_,ms,?_,rfl,rfl⟩,?_⟩
 ·apply List.ext_getElem?
  intro j
  by_cases hj:i=j
  ·subst hj; rw [List.getElem?_set_self hl]; exact hi
  ·rw [List.getElem?_set_ne hj]
 ·rintro m ρ' ⟨l,rfl,rfl,ht⟩
  have hg:(ρ.set i (.own (l.map Dt.int)))[i]? = some (.own (l.map Dt.int)):=List.getElem?_set_self hl
  refine ⟨_,hg,_,_,rfl,rfl,_,rfl,?_⟩
  rcases zK l with rfl | ⟨l',z,rfl⟩
  ·refine ifF rfl (ifF rfl ?_)
   rw [← ht,q8] at q
   exact q
  ·refine ifT (by rw [decide_eq_true_iff,List.length_map,List.length_append]; simp) ?_
   refine ⟨_,hg,_,rfl,_,_,rfl,vT,rfl,rfl,_,rfl,?_⟩
   by_cases hz:z=0
   ·refine ifT (eqI hz) ?_
    subst hz
    refine ⟨_,hg,by simp,l'.length,by rw [List.length_append]; exact Nat.lt_succ_self _,l',?_,rfl,?_⟩
    ·rw [rH,List.dropLast_concat,List.set_set]
    ·rw [← ht,wB]
   ·refine ifF (neI hz) ?_
    rw [← ht,uS hz] at q
    exact q
theorem q0 {i:Nat} {D:wY} {ρ:DS} {ms:List Int} (hi:ρ[i]? = some (.own (ms.map Dt.int))) (q:D.nx (ρ.set i (.own ((trim ms).map Dt.int)))):
  nw (XG (cM i) (vP (dOp gEq (XE i (XC (dC (Dt.int 1)))) (dC (Dt.int 0))))) (Xz i) D ρ:=by
 have hl:i<ρ.length:=by
  rcases Nat.lt_or_ge i ρ.length with h | h
  ·exact h
  ·rw [List.getElem?_eq_none h] at hi; cases hi
 refine ⟨fun m ρ'=>∃ l:List Int,ρ'=ρ.set i (.own (l.map Dt.int))∧l.length=m∧trim l=trim ms,⟨_,ms,?_,rfl,rfl⟩,?_⟩
 ·apply List.ext_getElem?
  intro j
  by_cases hj:i=j
  ·subst hj; rw [List.getElem?_set_self hl]; exact hi
  ·rw [List.getElem?_set_ne hj]
 ·rintro m ρ' ⟨l,rfl,rfl,ht⟩
  have hg:(ρ.set i (.own (l.map Dt.int)))[i]? = some (.own (l.map Dt.int)):=List.getElem?_set_self hl
  refine ⟨_,hg,?_⟩
  rcases zK l with rfl | ⟨l',z,rfl⟩
  ·refine ifF rfl (ifF rfl ?_)
   rw [← ht,q8] at q
   exact q
  ·refine ifT (by simp) ?_
   refine ⟨_,hg,_,rfl,_,_,rfl,vT,rfl,rfl,_,rfl,?_⟩
   by_cases hz:z=0
   ·refine ifT (eqI hz) ?_
    subst hz
    refine ⟨_,hg,by simp,l'.length,by rw [List.length_append]; exact Nat.lt_succ_self _,l',?_,rfl,?_⟩
    ·rw [rH,List.dropLast_concat,List.set_set]
    ·rw [← ht,wB]
   ·refine ifF (neI hz) ?_
    rw [← ht,uS hz] at q
    exact q
inductive Kd where | plain | below | balanced | growing | falling | pairs
def Kd.num:Kd→Int
 | .plain=>0 | .below=>1 | .balanced=>2 | .growing=>3 | .falling=>4 | .pairs=>5
def Kd.fld:Kd→Str
 | .plain=>"base" | .below=>"base" | .balanced=>"half" | .growing=>"first" | .falling=>"most" | .pairs=>"most"
def Kd.lo:Kd→Int
 | .plain=>2 | .below=>2 | .balanced=>1 | .growing=>1 | .falling=>1 | .pairs=>1
def Kd.hi:Kd→Int
 | .plain=>60 | .below=>60 | .balanced=>30 | .growing=>0 | .falling=>9 | .pairs=>9
def Kd.ok (k:Kd) (n:Int):Prop:=k.lo≤n∧n≤k.hi
def yu:Dt→Option Bool
 | .int _=>some true
 | .bl _=>some false
 | .tup _=>some false
 | .lst _=>some false
 | _=>none
def y0:DSp:=fun ds Q=>∃ d b,ds=[d]∧yu d=some b∧Q (.bl b)
def xH:DSp:=fun ds Q=>∃ n lo hi,ds=[.int n,.int lo,.int hi]∧lo≤n∧n≤hi∧Q (.int n)
inductive Nm where | i (n:Int) | p (a b:Int)
def Nm.dt:Nm→Dt
 | .i n=>.int n
 | .p a b=>.tup [.int a,.int b]
def Nm.re:Nm→Int
 | .i n=>n
 | .p a _=>a
def Nm.im:Nm→Int
 | .i _=>0
 | .p _ b=>b
def Nm.mul:Nm→Nm→Nm
 | .i a,.i b=>.i (a*b)
 | m,n=>.p (m.re*n.re - m.im*n.im) (m.re*n.im+m.im*n.re)
def Nm.mulOk (m n:Nm):Prop:=IntMulOk m.re n.re∧IntMulOk m.im n.im∧IntMulOk m.re n.im∧IntMulOk m.im n.re
def tY:Dt→Option Nm
 | .int a=>some (.i a)
 | .tup [.int a,.int b]=>some (.p a b)
 | _=>none
def wM:DSp:=fun ds Q=>∃ d m,ds=[d]∧tY d=some m∧Q (.tup [.int m.re,.int m.im])
def nH:DSp:=fun ds Q=>∃ d e m n,ds=[d,e]∧tY d=some m∧tY e=some n∧m.mulOk n∧Q (m.mul n).dt
theorem yF {d:Dt} {m:Nm} (h:tY d=some m):d=m.dt:=by
 unfold tY at h
 split at h
 ·cases h; rfl
 ·cases h; rfl
 ·cases h
theorem yE (m:Nm):tY m.dt=some m:=by cases m <;> rfl
theorem xf (m:Nm):okE 40 m.dt=true:=by cases m <;> rfl
theorem small {n:Int} (h0:-1000000≤n) (h1:n≤1000000) (c:Int):IntMulOk c n:=Vd (by rw [decide_eq_true_iff]; omega)
theorem tz {n:Int} (h0:-1000000≤n) (h1:n≤1000000) (c:Int):IntMulOk n c:=Y7 (by rw [decide_eq_true_iff]; omega)
def Kd.four:Kd→Bool
 | .plain=>true | .below=>true | .balanced=>true | .growing=>true | _=>false
def Kd.five:Kd→Bool
 | .falling=>false | _=>true
def Kd.low:Kd→Int→Int→Int
 | .balanced,n,_=>-n
 | _,_,_=>0
def Kd.high:Kd→Int→Int→Int
 | .plain,n,_=>n - 1
 | .below,n,_=>n - 1
 | .balanced,n,_=>n
 | .growing,n,p=>n+p - 1
 | .falling,n,_=>n
 | .pairs,n,_=>n*n
def Kd.rat:Kd→Int→Int→Int
 | .plain,n,_=>n
 | .below,n,_=>-n
 | .balanced,n,_=>2*n+1
 | .growing,n,p=>n+p
 | _,_,_=>0
def Kd.ratN:Kd→Int→Int→Nm
 | .pairs,n,_=>.p (-n) 1
 | k,n,p=>.i (k.rat n p)
def Nm.add:Nm→Nm→Nm
 | .i a,.i b=>.i (a+b)
 | m,n=>.p (m.re+n.re) (m.im+n.im)
def qT:DSp:=fun ds Q=>∃ d e m n,ds=[d,e]∧tY d=some m∧tY e=some n∧Q (m.add n).dt
def Kd.zero:Kd→Nm
 | .pairs=>.p 0 0
 | _=>.i 0
def wtF (n:Int):Nat→Int × Int
 | 0=>(1,1)
 | j+1=>((wtF n j).2,n*(wtF n j).2+(wtF n j).1)
def wtR (k:Kd) (n:Int):Nat→Nm
 | 0=>k.zero.add (.i 1)
 | j+1=>(k.ratN n j).mul (wtR k n j)
def wt:Kd→Int→Nat→Nm
 | .falling,n,j=>.i (wtF n j).2
 | k,n,j=>wtR k n j
theorem vx {k:Kd} {n:Int} (h:k.ok n):1≤n∧n≤60:=by
 obtain ⟨h1,h2⟩:=h
 cases k <;> simp only [Kd.lo,Kd.hi] at * <;> omega
theorem bh {k:Kd} {n p:Int} (h:k.ok n) (p0:0≤p) (p1:p≤1000):-1000000≤(k.ratN n p).re∧(k.ratN n p).re≤1000000∧-1000000≤(k.ratN n p).im∧(k.ratN n p).im≤1000000:=by
 obtain ⟨h1,h2⟩:=vx h
 cases k <;> simp only [Kd.ratN,Kd.rat,Nm.re,Nm.im] <;> omega
def yw (k:Kd) (n:Int) (ns:List Int):Nat→Nm
 | 0=>k.zero
 | j+1=>(yw k n ns j).add ((Nm.i (ns.getD j 0)).mul (wt k n j))
theorem hZ {ns:List Int} {i:Nat} {x:Dt} (h:(ns.map Dt.int)[i]? = some x):x=.int (ns.getD i 0)∧i<ns.length:=by
 rw [List.getElem?_map] at h
 cases q:ns[i]? with
 | none=>rw [q] at h; cases h
 | some z=>
  rw [q] at h
  have hl:i<ns.length:=by
   rcases Nat.lt_or_ge i ns.length with h | h
   ·exact h
   ·rw [List.getElem?_eq_none h] at q; cases q
  rw [List.getD_eq_getElem?_getD,q]
  exact ⟨(Option.some.inj h).symm,hl⟩
theorem cW {n:Int} (h1:1≤n) (h2:n≤60):∀ j:Nat,(wtF n j).1.natAbs<2 ^ (12*j+1)∧(wtF n j).2.natAbs<2 ^ (12*j+1)
 | 0=>⟨(by decide:(1:Int).natAbs<2 ^ 1),(by decide:(1:Int).natAbs<2 ^ 1)⟩
 | j+1=>by
  obtain ⟨a,b⟩:=cW h1 h2 j
  have pw:2 ^ (12*(j+1)+1)=2 ^ (12*j+1)*4096:=by rw [show 12*(j+1)+1=(12*j+1)+12 by omega,Nat.pow_add]
  rw [pw]
  unfold wtF
  dsimp only
  generalize 2 ^ (12 * j + 1)=B at *
  have hm:(n*(wtF n j).2).natAbs≤60*(wtF n j).2.natAbs:=by
   rw [Int.natAbs_mul]
   exact Nat.mul_le_mul_right _ (by omega)
  have hs:=Int.natAbs_add_le (n*(wtF n j).2) (wtF n j).1
  exact ⟨by omega,by omega⟩
theorem wt4 {k:Kd} {n:Int} (h:k.four=true):∀ j,∃ w,wtR k n j=.i w
 | 0=>by cases k <;> cases h <;> exact ⟨_,rfl⟩
 | j+1=>by
  obtain ⟨w,e⟩:=wt4 (n:=n) h j
  unfold wtR
  rw [e]
  cases k <;> cases h <;> exact ⟨_,rfl⟩
theorem wt2 {n:Int}:∀ j,∃ x y,wtR .pairs n j=.p x y
 | 0=>⟨_,_,rfl⟩
 | j+1=>by
  obtain ⟨x,y,e⟩:=wt2 (n:=n) j
  unfold wtR
  rw [e]
  exact ⟨_,_,rfl⟩
theorem wtI {k:Kd} {n:Int} (h:k≠.pairs) (j:Nat):∃ w,wt k n j=.i w:=by
 cases k with
 | pairs=>exact absurd rfl h
 | falling=>exact ⟨_,rfl⟩
 | _=>exact wt4 rfl _
def sF (k:Kd) (n:Int) (j:Nat) (t:Nm):Int:=match k with
 | .pairs=>(t.re+n*t.im).fmod (n*n+1)
 | k=>k.low n j+(t.re - k.low n j).fmod (k.high n j - k.low n j+1)
def sC (k:Kd) (n:Int) (j:Nat) (t:Nm):Nm:=match k with
 | .pairs=>.p (((t.re - sF .pairs n j t)*(-n) - t.im*(-1)).fdiv (n*n+1)) (((t.re - sF .pairs n j t)*(-1)+t.im*(-n)).fdiv (n*n+1))
 | k=>.i ((t.re - sF k n j t).fdiv (k.rat n j))
def Nm.ty (k:Kd) (m:Nm):Prop:=match k with
 | .pairs=>∃ a b,m=.p a b
 | _=>∃ a,m=.i a
def tot (k:Kd) (m:Nm):Prop:=k≠.pairs→∃ a,m=.i a
def cAt (k:Kd) (n:Int) (ts:List Nm):Nat→Nm
 | 0=>k.zero
 | j+1=>sC k n j ((cAt k n ts j).add (ts.getD j (.i 0)))
def fAt (k:Kd) (n:Int) (ts:List Nm) (j:Nat):Int:=sF k n j ((cAt k n ts j).add (ts.getD j (.i 0)))
def yP (k:Kd) (n:Int) (ts:List Nm) (j:Nat):List Int:=(List.range j).map (fAt k n ts)
def crs (k:Kd) (n:Int) (ts:List Nm) (j:Nat):List Nm:=(List.range j).map (cAt k n ts)
def yd:Kd→Nm→Bool
 | .below,.i _=>true
 | .balanced,.i _=>true
 | .pairs,.p _ _=>true
 | .pairs,.i _=>false
 | _,.i a=>decide (0≤a)
 | _,.p _ _=>false
structure Fin (k:Kd) (n:Int) (ts:List Nm) (J:Nat):Prop where
 le:ts.length≤J
 z:cAt k n ts J=k.zero
 nz:∀ j,ts.length≤j→j<J→cAt k n ts j≠k.zero∧yd k (cAt k n ts j)=true
def wN (k:Kd) (n:Int) (ts:List Nm):Nat→Nm
 | 0=>k.zero
 | j+1=>(wN k n ts j).add ((ts.getD j (.i 0)).mul (wt k n j))
def wF (k:Kd) (n:Int) (f:Nat→Int):Nat→Nm
 | 0=>k.zero
 | j+1=>(wF k n f j).add ((Nm.i (f j)).mul (wt k n j))
theorem zD (m n:Nm):(m.add n).re=m.re + n.re:=by cases m <;> cases n <;> simp [Nm.add,Nm.re]
theorem zL (m n:Nm):(m.add n).im=m.im + n.im:=by cases m <;> cases n <;> simp [Nm.add,Nm.im]
theorem zo (r w:Nm):(r.mul w).re=r.re * w.re - r.im * w.im:=by cases r <;> cases w <;> simp [Nm.mul,Nm.re,Nm.im]
theorem zu (r w:Nm):(r.mul w).im=r.re * w.im + r.im * w.re:=by cases r <;> cases w <;> simp [Nm.mul,Nm.re,Nm.im]
theorem y3 {k:Kd} {m:Nm} (h:k≠.pairs) (t:m.ty k):∃ a,m=.i a:=by
 cases k <;> first | exact t | exact absurd rfl h
theorem xI {k:Kd} {a:Int} (h:k≠.pairs):(Nm.i a).ty k:=by
 cases k <;> first | exact ⟨_,rfl⟩ | exact absurd rfl h
theorem z5 (k:Kd):(k.zero).ty k:=by cases k <;> first | exact ⟨_,rfl⟩ | exact ⟨_,_,rfl⟩
theorem zE (k:Kd):(k.zero).re=0:=by cases k <;> rfl
theorem zH (k:Kd):(k.zero).im=0:=by cases k <;> rfl
theorem yN {k:Kd} {m m':Nm} (t:m.ty k) (t':m'.ty k) (h1:m.re=m'.re) (h2:m.im=m'.im):m=m':=by
 by_cases hk:k=.pairs
 ·subst hk
  obtain ⟨a,b,rfl⟩:=t
  obtain ⟨a',b',rfl⟩:=t'
  simp only [Nm.re,Nm.im] at h1 h2
  rw [h1,h2]
 ·obtain ⟨a,rfl⟩:=y3 hk t
  obtain ⟨a',rfl⟩:=y3 hk t'
  simp only [Nm.re] at h1
  rw [h1]
theorem lX (k:Kd) (n:Int) (j:Nat) (t:Nm):(sC k n j t).ty k:=by
 cases k <;> first | exact ⟨_,rfl⟩ | exact ⟨_,_,rfl⟩
theorem zZ (k:Kd) (n:Int) (ts:List Nm):∀ j,(cAt k n ts j).ty k
 | 0=>z5 k
 | j+1=>lX k n j _
theorem xl {k:Kd} {c t:Nm} (h:c.ty k) (h':tot k t):(c.add t).ty k:=by
 by_cases hk:k=.pairs
 ·subst hk
  obtain ⟨a,b,rfl⟩:=h
  cases t <;> exact ⟨_,_,rfl⟩
 ·obtain ⟨a,rfl⟩:=y3 hk h
  obtain ⟨b,rfl⟩:=h' hk
  exact xI hk
theorem z9 {k:Kd} {ts:List Nm} (h:∀ t∈ts,tot k t) (j:Nat):tot k (ts.getD j (.i 0)):=by
 rw [List.getD_eq_getElem?_getD]
 cases q:ts[j]? with
 | none=>exact fun _=>⟨0,rfl⟩
 | some t=>exact h t (List.mem_of_getElem? q)
theorem mU {lo t n:Int} (hn:0<n):lo≤lo+(t - lo).fmod n∧lo+(t - lo).fmod n≤lo+n - 1∧(lo+(t - lo).fmod n)+((t - (lo+(t - lo).fmod n)).fdiv n)*n=t:=by
 have h0:=Int.fmod_nonneg_of_pos (t - lo) hn
 have h1:=Int.fmod_lt_of_pos (t - lo) hn
 have e:t - (lo+(t - lo).fmod n)=n*(t - lo).fdiv n:=by
  have:=Int.fmod_def (t - lo) n
  omega
 refine ⟨by omega,by omega,?_⟩
 have d:(t - (lo+(t - lo).fmod n)).fdiv n=(t - lo).fdiv n:=by
  rw [e]
  exact Int.mul_fdiv_cancel_left _ (by omega)
 rw [d,Int.mul_comm]
 omega
theorem mV {lo t n:Int} (hn:0<n):lo≤lo+(t - lo).fmod n∧lo+(t - lo).fmod n≤lo+n - 1∧(lo+(t - lo).fmod n)+((t - (lo+(t - lo).fmod n)).fdiv (-n))*(-n)=t:=by
 have h0:=Int.fmod_nonneg_of_pos (t - lo) hn
 have h1:=Int.fmod_lt_of_pos (t - lo) hn
 have e:t - (lo+(t - lo).fmod n)=(-n)*(-((t - lo).fdiv n)):=by
  have:=Int.fmod_def (t - lo) n
  rw [Int.neg_mul_neg]
  omega
 refine ⟨by omega,by omega,?_⟩
 have d:(t - (lo+(t - lo).fmod n)).fdiv (-n)=-((t - lo).fdiv n):=by
  rw [e]
  exact Int.mul_fdiv_cancel_left _ (by omega)
 rw [d,Int.neg_mul_neg,Int.mul_comm]
 have:=Int.fmod_def (t - lo) n
 omega
theorem tx {a b m:Int} (N:Int) (hN:N=m*m+1) (f:Int) (hf:f=(a+m*b).fmod N) (t0 t1:Int) (h0:t0=(a - f)*(-m) - b*(-1)) (h1:t1=(a - f)*(-1)+b*(-m)):
  0≤f∧f≤m*m∧f - m*(t0.fdiv N) - t1.fdiv N=a∧t0.fdiv N - m*(t1.fdiv N)=b:=by
 have sq:0≤m*m:=by
  rcases Int.le_total 0 m with h | h
  ·exact Int.mul_nonneg h h
  ·exact Int.mul_nonneg_of_nonpos_of_nonpos h h
 have hp:0<N:=by omega
 have g0:=Int.fmod_nonneg_of_pos (a+m*b) hp
 have g1:=Int.fmod_lt_of_pos (a+m*b) hp
 have e:=Int.fmod_def (a+m*b) N
 rw [← hf] at e g0 g1
 generalize (a+m*b).fdiv N=q at e
 have e0:t0=N*(b - m*q):=by subst hN; grind
 have e1:t1=N*(-q):=by subst hN; grind
 have d0:t0.fdiv N=b - m*q:=by rw [e0]; exact Int.mul_fdiv_cancel_left _ (by omega)
 have d1:t1.fdiv N=-q:=by rw [e1]; exact Int.mul_fdiv_cancel_left _ (by omega)
 rw [d0,d1]
 refine ⟨g0,by omega,?_,?_⟩ <;> subst hN <;> grind
def Kd.size:Kd→Int→Int→Int
 | .plain,n,_=>n
 | .below,n,_=>n
 | .balanced,n,_=>2*n+1
 | .growing,n,p=>n+p
 | _,_,_=>0
theorem vC {k:Kd} (h5:k.five=true) (hk:k≠.pairs):k.four=true:=by
 cases k <;> first | rfl | exact absurd rfl hk | cases h5
theorem rT {k:Kd} (h:k.four=true) (n p:Int):k.high n p - k.low n p+1=k.size n p∧(k.rat n p=k.size n p∨k.rat n p=-(k.size n p)):=by
 cases k <;> cases h <;> simp only [Kd.high,Kd.low,Kd.size,Kd.rat] <;> refine ⟨by omega,?_⟩ <;> first | exact .inl rfl | exact .inr rfl | exact .inr trivial | exact .inl trivial
theorem tE {k:Kd} {n:Int} (h:k.four=true) (hn:k.ok n) (j:Nat):2≤k.size n j:=by
 obtain ⟨h1,h2⟩:=hn
 cases k <;> cases h <;> simp only [Kd.lo,Kd.hi,Kd.size] at * <;> omega
theorem x9 {k:Kd} {n:Int} {j:Nat} {t:Nm} (h5:k.five=true) (hn:k.ok n) (ht:t.ty k):
  k.low n j≤sF k n j t∧sF k n j t≤k.high n j∧t.re=sF k n j t+((k.ratN n j).mul (sC k n j t)).re∧t.im=((k.ratN n j).mul (sC k n j t)).im:=by
 by_cases hk:k=.pairs
 ·subst hk
  obtain ⟨g1,g2,g3,g4⟩:=tx (a:=t.re) (b:=t.im) (m:=n) (n*n+1) rfl _ rfl _ _ rfl rfl
  refine ⟨g1,g2,?_,?_⟩
  ·rw [zo]
   show t.re=_+(-n*_ - 1*_)
   unfold sC sF Nm.re Nm.im at *
   dsimp only at *
   grind
  ·rw [zu]
   show t.im=(-n*_+1*_)
   unfold sC sF Nm.re Nm.im at *
   dsimp only at *
   grind
 ·have h4:=vC h5 hk
  obtain ⟨e1,e2⟩:=rT h4 n j
  have hp:=tE h4 hn j
  obtain ⟨a,rfl⟩:=y3 hk ht
  have eF:sF k n j (.i a)=k.low n j + (a - k.low n j).fmod (k.size n j):=by rw [← e1]; cases k <;> first | rfl | exact absurd rfl hk
  have eC:sC k n j (.i a)=.i ((a - sF k n j (.i a)).fdiv (k.rat n j)):=by cases k <;> first | rfl | exact absurd rfl hk
  have eR:k.ratN n j=.i (k.rat n j):=by cases k <;> first | rfl | exact absurd rfl hk
  have s1:=mU (lo:=k.low n j) (t:=a) (n:=k.size n j) (by omega)
  have s2:=mV (lo:=k.low n j) (t:=a) (n:=k.size n j) (by omega)
  rw [eC,eR,eF]
  refine ⟨s1.1,by have:=s1.2.1; omega,?_,rfl⟩
  show a=_+k.rat n j*_
  rw [Int.mul_comm (k.rat n j)]
  rcases e2 with e | e
  ·rw [e]; exact s1.2.2.symm
  ·rw [e]; exact s2.2.2.symm
theorem yT {k:Kd} {n:Int} (h5:k.five=true) (j:Nat):wt k n (j+1)=(k.ratN n j).mul (wt k n j):=by
 cases k <;> first | rfl | cases h5
theorem mS {T1 T2 F1 F2 w1 w2 c1 c2 t1 t2 f r1 r2 d1 d2:Int} (h1:T1=F1+(w1*c1 - w2*c2)) (h2:T2=F2+(w1*c2+w2*c1)) (s1:c1+t1=f+(r1*d1 - r2*d2)) (s2:c2+t2=r1*d2+r2*d1):
  T1+(t1*w1 - t2*w2)=F1+(f*w1 - 0*w2)+((r1*w1 - r2*w2)*d1 - (r1*w2+r2*w1)*d2)∧T2+(t1*w2+t2*w1)=F2+(f*w2+0*w1)+((r1*w1 - r2*w2)*d2+(r1*w2+r2*w1)*d1):=by
 have e1:c1=f+(r1*d1 - r2*d2) - t1:=by omega
 have e2:c2=r1*d2+r2*d1 - t2:=by omega
 subst e1 e2 h1 h2
 constructor <;> grind
theorem c8 {k:Kd} {n:Int} {ts:List Nm} (h5:k.five=true) (hn:k.ok n) (ht:∀ t∈ts,tot k t):∀ j,
  (wN k n ts j).re=(wF k n (fAt k n ts) j).re+((wt k n j).mul (cAt k n ts j)).re∧(wN k n ts j).im=(wF k n (fAt k n ts) j).im+((wt k n j).mul (cAt k n ts j)).im
 | 0=>by
  unfold wN wF cAt
  rw [zo,zu,zE,zH]
  constructor <;> grind
 | j+1=>by
  obtain ⟨i1,i2⟩:=c8 h5 hn ht j
  obtain ⟨_,_,s1,s2⟩:=x9 (j:=j) h5 hn (xl (zZ k n ts j) (z9 ht j))
  have ec:cAt k n ts (j+1)=sC k n j ((cAt k n ts j).add (ts.getD j (.i 0))):=rfl
  have ef:fAt k n ts j=sF k n j ((cAt k n ts j).add (ts.getD j (.i 0))):=rfl
  rw [← ec,← ef] at s1
  rw [← ec] at s2
  rw [zD] at s1
  rw [zL] at s2
  have e1:(wN k n ts (j+1))=(wN k n ts j).add ((ts.getD j (.i 0)).mul (wt k n j)):=rfl
  have e2:(wF k n (fAt k n ts) (j+1))=(wF k n (fAt k n ts) j).add ((Nm.i (fAt k n ts j)).mul (wt k n j)):=rfl
  rw [e1,e2,yT h5]
  rw [zo] at s1
  rw [zu] at s2
  rw [zo] at i1
  rw [zu] at i2
  have R:=mS i1 i2 s1 s2
  simp only [zo,zu,zD,zL]
  exact R
theorem VX {k:Kd} {c:Nm} (h:c.ty k):c.add (.i 0)=c:=by
 by_cases hk:k=.pairs
 ·subst hk
  obtain ⟨a,b,rfl⟩:=h
  show Nm.p (a+0) (b+0)=_
  rw [Int.add_zero,Int.add_zero]
 ·obtain ⟨a,rfl⟩:=y3 hk h
  show Nm.i (a+0)=_
  rw [Int.add_zero]
theorem XW {k:Kd} {c:Nm} (h:c.ty k):k.zero.add c=c:=by
 by_cases hk:k=.pairs
 ·subst hk
  obtain ⟨a,b,rfl⟩:=h
  show Nm.p (0+a) (0+b)=_
  rw [Int.zero_add,Int.zero_add]
 ·obtain ⟨a,rfl⟩:=y3 hk h
  have:k.zero=.i 0:=by cases k <;> first | rfl | exact absurd rfl hk
  rw [this]
  show Nm.i (0+a)=_
  rw [Int.zero_add]
theorem cn {k:Kd} {n:Int} {ts:List Nm} {j:Nat} (h:ts.length≤j):cAt k n ts (j+1)=sC k n j (cAt k n ts j):=by
 have e:ts.getD j (.i 0)=.i 0:=by rw [List.getD_eq_getElem?_getD,List.getElem?_eq_none h]; rfl
 show sC k n j ((cAt k n ts j).add (ts.getD j (.i 0)))=_
 rw [e,VX (zZ k n ts j)]
theorem pC {s t f a:Int} (hs:2≤s) (f1:0≤f) (f2:f≤s - 1) (q:t=f+s*a):2*a.natAbs≤t.natAbs+1∧(0≤t→0≤a)∧(t.natAbs≤1→0≤t→a=0):=by
 have hm:∀ x:Int,0≤x→2*x≤s*x:=fun x hx=>Int.mul_le_mul_of_nonneg_right hs hx
 have e2:s*(-a)=-(s*a):=Int.mul_neg ..
 have e3:s*(-a - 1)=-(s*a) - s:=by rw [Int.mul_sub,Int.mul_one,e2]
 rcases (by omega:0≤a∨a≤-1) with z | z
 ·have:=hm a z
  exact ⟨by omega,fun _=>z,fun _ _=>by omega⟩
 ·have:=hm (-a - 1) (by omega)
  exact ⟨by omega,fun _=>by omega,fun _ _=>by omega⟩
theorem rh {k:Kd} {n:Int} {j:Nat} {t a:Int} (h4:k.four=true) (hn:k.ok n) (e:sC k n j (.i t)=.i a):
  2*a.natAbs≤t.natAbs+1∧(yd k (.i t)=true→yd k (.i a)=true)∧(t.natAbs≤1→yd k (.i t)=true→a=0∨(t=-1∧a=1)):=by
 have h5:k.five=true:=by cases k <;> first | rfl | cases h4
 have hk:k≠.pairs:=fun z=>by rw [z] at h4; cases h4
 obtain ⟨f1,f2,q,_⟩:=x9 (j:=j) h5 hn (t:=.i t) (xI hk)
 rw [e,zo] at q
 have hs:=tE h4 hn j
 obtain ⟨h1,h2⟩:=hn
 generalize sF k n j (.i t)=f at *
 cases k with
 | falling=>cases h4
 | pairs=>cases h4
 | plain=>
  simp only [Kd.ratN,Kd.rat,Nm.re,Nm.im,Kd.low,Kd.high,Kd.size,yd,decide_eq_true_iff] at *
  obtain ⟨p1,p2,p3⟩:=pC (t:=t) (a:=a) hs f1 f2 (by omega)
  exact ⟨p1,p2,fun x y=>.inl (p3 x y)⟩
 | below=>
  simp only [Kd.ratN,Kd.rat,Nm.re,Nm.im,Kd.low,Kd.high,Kd.size,yd] at *
  have q':t=f - n*a:=by rw [q,Int.neg_mul]; omega
  have hm:∀ x:Int,0≤x→2*x≤n*x:=fun x hx=>Int.mul_le_mul_of_nonneg_right hs hx
  have e1:n*(a - 1)=n*a - n:=by rw [Int.mul_sub,Int.mul_one]
  have e2:n*(-a)=-(n*a):=Int.mul_neg ..
  have e3:n*(-a - 1)=-(n*a) - n:=by rw [Int.mul_sub,Int.mul_one,e2]
  refine ⟨?_,fun _=>trivial,fun h3 _=>?_⟩
  ·rcases (by omega:1≤a∨a=0∨a≤-1) with z | z | z
   ·have:=hm (a - 1) (by omega); omega
   ·omega
   ·have:=hm (-a) (by omega); omega
  ·rcases (by omega:2≤a∨a=1∨a=0∨a≤-1) with z | z | z | z
   ·have:=hm (a - 1) (by omega); omega
   ·subst z; omega
   ·exact .inl z
   ·have:=hm (-a) (by omega); omega
 | balanced=>
  simp only [Kd.ratN,Kd.rat,Nm.re,Nm.im,Kd.low,Kd.high,Kd.size,yd,Kd.lo] at *
  have q':t=f+2*(n*a)+a:=by rw [q,Int.add_mul,Int.mul_assoc]; omega
  have hm:∀ x:Int,0≤x→x≤n*x:=fun x hx=>by
   have:=Int.mul_le_mul_of_nonneg_right h1 hx
   omega
  have e1:n*(a - 1)=n*a - n:=by rw [Int.mul_sub,Int.mul_one]
  have e2:n*(-a)=-(n*a):=Int.mul_neg ..
  have e3:n*(-a - 1)=-(n*a) - n:=by rw [Int.mul_sub,Int.mul_one,e2]
  have key:2*a.natAbs≤t.natAbs:=by
   rcases (by omega:1≤a∨a=0∨a≤-1) with z | z | z
   ·have:=hm (a - 1) (by omega); have:=hm a (by omega); omega
   ·omega
   ·have:=hm (-a - 1) (by omega); have:=hm (-a) (by omega); omega
  exact ⟨by omega,fun _=>trivial,fun _ _=>.inl (by omega)⟩
 | growing=>
  simp only [Kd.ratN,Kd.rat,Nm.re,Nm.im,Kd.low,Kd.high,Kd.size,yd,decide_eq_true_iff] at *
  obtain ⟨p1,p2,p3⟩:=pC (t:=t) (a:=a) (s:=n+(j:Int)) hs f1 (by omega) (by omega)
  exact ⟨p1,p2,fun x y=>.inl (p3 x y)⟩
theorem cu {k:Kd} (h4:k.four=true):k.zero=.i 0:=by cases k <;> first | rfl | cases h4
theorem sC4 {k:Kd} {n:Int} {j:Nat} {t:Nm} (h4:k.four=true):∃ a,sC k n j t=.i a:=y3 (fun z=>by rw [z] at h4; cases h4) (lX k n j t)
theorem cJ {k:Kd} {n:Int} (h4:k.four=true) (hn:k.ok n):∀ (b:Nat) (j:Nat) (c:Nat→Nm) (t:Int),c 0=.i t→(∀ i,c (i+1)=sC k n (j+i) (c i))→yd k (.i t)=true→t.natAbs≤2 ^ b→∃ m,m≤b+2∧c m=k.zero
 | 0,j,c,t,h0,hc,hh,hb=>by
  obtain ⟨a,ea⟩:=sC4 (n:=n) (j:=j) (t:=.i t) h4
  have e1:c 1=.i a:=by rw [hc 0,h0]; exact ea
  obtain ⟨_,s2,s3⟩:=rh h4 hn ea
  rcases s3 hb hh with z | ⟨_,z⟩
  ·exact ⟨1,by omega,by rw [e1,z,cu h4]⟩
  ·obtain ⟨a2,ea2⟩:=sC4 (n:=n) (j:=j+1) (t:=.i a) h4
   have e2:c 2=.i a2:=by rw [hc 1,e1]; exact ea2
   obtain ⟨_,_,s5⟩:=rh h4 hn ea2
   rcases s5 (by omega) (s2 hh) with y | ⟨y,_⟩
   ·exact ⟨2,by omega,by rw [e2,y,cu h4]⟩
   ·omega
 | b+1,j,c,t,h0,hc,hh,hb=>by
  obtain ⟨a,ea⟩:=sC4 (n:=n) (j:=j) (t:=.i t) h4
  have e1:c 1=.i a:=by rw [hc 0,h0]; exact ea
  obtain ⟨s1,s2,_⟩:=rh h4 hn ea
  have hp:2 ^ (b+1)=2*2 ^ b:=by rw [Nat.pow_succ]; omega
  obtain ⟨m,hm,e⟩:=cJ h4 hn b (j+1) (fun i=>c (i+1)) a e1 (fun i=>by rw [hc (i+1),show j+(i+1)=j+1+i by omega]) (s2 hh) (by omega)
  exact ⟨m+1,by omega,e⟩
theorem q_ {k:Kd} {n:Int} (h4:k.four=true) (hn:k.ok n) {j:Nat} {c:Nat→Nm} {t:Int} (h0:c 0=.i t) (hc:∀ i,c (i+1)=sC k n (j+i) (c i)) (hh:yd k (.i t)=true):∀ i,∃ a,c i=.i a∧yd k (.i a)=true
 | 0=>⟨t,h0,hh⟩
 | i+1=>by
  obtain ⟨a,e,h⟩:=q_ h4 hn h0 hc hh i
  obtain ⟨a',e'⟩:=sC4 (n:=n) (j:=j+i) (t:=.i a) h4
  exact ⟨a',by rw [hc i,e]; exact e',(rh h4 hn e').2.1 h⟩
def pA (n a b:Int):Int:=((a - (a+n*b).fmod (n*n+1))*(-n) - b*(-1)).fdiv (n*n+1)
def pB (n a b:Int):Int:=((a - (a+n*b).fmod (n*n+1))*(-1)+b*(-n)).fdiv (n*n+1)
theorem hW (n:Int) (j:Nat) (a b:Int):sC .pairs n j (.p a b)=.p (pA n a b) (pB n a b):=rfl
def pz (n:Int):Nat→Int→Int→Bool
 | 0,a,b=>a == 0 && b == 0
 | m+1,a,b=>(a == 0 && b == 0) || pz n m (pA n a b) (pB n a b)
theorem bj:(List.range 9).all (fun n=>(List.range 31).all fun a=>(List.range 31).all fun b=>pz ((n:Int)+1) 14 ((a:Int) - 15) ((b:Int) - 15))=true:=by decide +kernel
theorem l8 {n a b:Int} (n1:1≤n) (n2:n≤9) (a1:-15≤a) (a2:a≤15) (b1:-15≤b) (b2:b≤15):pz n 14 a b=true:=by
 have h:=List.all_eq_true.mp bj (n - 1).toNat (List.mem_range.mpr (by omega))
 have h:=List.all_eq_true.mp h (a+15).toNat (List.mem_range.mpr (by omega))
 have h:=List.all_eq_true.mp h (b+15).toNat (List.mem_range.mpr (by omega))
 rw [show (((n - 1).toNat:Nat):Int)+1=n by omega,show (((a+15).toNat:Nat):Int) - 15=a by omega,show (((b+15).toNat:Nat):Int) - 15=b by omega] at h
 exact h
theorem qf {n:Int}:∀ (m j:Nat) (c:Nat→Nm) (a b:Int),c 0=.p a b→(∀ i,c (i+1)=sC .pairs n (j+i) (c i))→pz n m a b=true→∃ i,i≤m∧c i=Kd.zero .pairs
 | 0,j,c,a,b,h0,hc,h=>by
  unfold pz at h
  rw [Bool.and_eq_true,beq_iff_eq,beq_iff_eq] at h
  exact ⟨0,Nat.le_refl _,by rw [h0,h.1,h.2]; rfl⟩
 | m+1,j,c,a,b,h0,hc,h=>by
  unfold pz at h
  rw [Bool.or_eq_true] at h
  rcases h with h | h
  ·rw [Bool.and_eq_true,beq_iff_eq,beq_iff_eq] at h
   exact ⟨0,by omega,by rw [h0,h.1,h.2]; rfl⟩
  ·obtain ⟨i,hi,e⟩:=qf m (j+1) (fun i=>c (i+1)) _ _ (by rw [hc 0,h0]; exact hW n _ a b) (fun i=>by rw [hc (i+1),show j+(i+1)=j+1+i by omega]) h
   exact ⟨i+1,by omega,e⟩
theorem n5 {n a b:Int}:∃ f,0≤f∧f≤n*n∧(a - f)*(a - f)+b*b=(n*n+1)*(pA n a b*pA n a b+pB n a b*pB n a b):=by
 obtain ⟨g1,g2,g3,g4⟩:=tx (a:=a) (b:=b) (m:=n) (n*n+1) rfl _ rfl _ _ rfl rfl
 refine ⟨_,g1,g2,?_⟩
 have e1:pA n a b=((a - (a+n*b).fmod (n*n+1))*(-n) - b*(-1)).fdiv (n*n+1):=rfl
 have e2:pB n a b=((a - (a+n*b).fmod (n*n+1))*(-1)+b*(-n)).fdiv (n*n+1):=rfl
 rw [← e1,← e2] at g3
 rw [← e1,← e2] at g4
 generalize (a + n * b).fmod (n * n + 1)=f at *
 generalize pA n a b=x at *
 generalize pB n a b=y at *
 have ea:a - f=-(n*x) - y:=by omega
 have eb:b=x - n*y:=by omega
 rw [ea,eb]
 grind
theorem zV (x:Int):0≤x*x:=by
 rcases Int.le_total 0 x with h | h
 ·exact Int.mul_nonneg h h
 ·exact Int.mul_nonneg_of_nonpos_of_nonpos h h
theorem Xn {a S:Int} (h:a*a≤S) (h2:256≤S):16*a≤S:=by
 by_cases z:16≤a
 ·exact Int.le_trans (Int.mul_le_mul_of_nonneg_right z (by omega)) h
 ·omega
theorem lN {a:Int} (h:¬ (-15≤a∧a≤15)):256≤a*a:=by
 rcases (by omega:16≤a∨16≤-a) with z | z
 ·have:=Int.mul_le_mul z z (by decide) (by omega); omega
 ·have:=Int.mul_le_mul z z (by decide) (by omega); rw [Int.neg_mul_neg] at this; omega
theorem ca {S N p q t:Int} (h1:-(16*p)≤t) (h2:q≤82*N - 81) (h3:1≤N) (h5:256*(4*N - 3)≤4*t - 3*S):8*(S - 2*p+q)≤5*(t+S):=by omega
theorem jZ {n a b f:Int} (n1:1≤n) (n2:n≤9) (f0:0≤f) (f1:f≤n*n) (h:¬ (-15≤a∧a≤15∧-15≤b∧b≤15)):8*((a - f)*(a - f)+b*b)≤5*((n*n+1)*(a*a+b*b)):=by
 have q1:1≤n*n:=Int.mul_le_mul n1 n1 (by decide) (Int.le_trans (by decide) n1)
 have q2:n*n≤81:=Int.mul_le_mul n2 n2 (Int.le_trans (by decide) n1) (by decide)
 generalize n * n=N at *
 have hS:256≤a*a+b*b:=by
  have sa:=zV a
  have sb:=zV b
  by_cases z:-15≤a∧a≤15
  ·have:=lN (a:=b) fun y=>h ⟨z.1,z.2,y.1,y.2⟩
   omega
  ·have:=lN z
   omega
 have h16:16 * -a≤a*a+b*b:=Xn (by rw [Int.neg_mul_neg]; have:=zV b; omega) hS
 have e:(a - f)*(a - f)+b*b=(a*a+b*b) - 2*(a*f)+f*f:=by grind
 rw [e,Int.add_mul,Int.one_mul]
 generalize a * a + b * b=S at *
 have k1:=Int.mul_le_mul_of_nonneg_left h16 f0
 have k2:=Int.mul_le_mul_of_nonneg_right f1 (show 0≤S by omega)
 have k3:f*f≤N*N:=Int.mul_le_mul f1 f1 f0 (by omega)
 have k4:=Int.mul_nonneg (show 0≤N - 1 by omega) (show 0≤81 - N by omega)
 have e4:(N - 1)*(81 - N)=82*N - 81 - N*N:=by grind
 have k5:=Int.mul_le_mul_of_nonneg_left hS (show 0≤4*N - 3 by omega)
 have e5:(4*N - 3)*S=4*(N*S) - 3*S:=by grind
 have e1:f*(16 * -a)=-(16*(a*f)):=by grind
 rw [e4] at k4
 rw [e5] at k5
 rw [e1] at k1
 exact ca (Int.le_trans k1 k2) (by omega) q1 (by rw [Int.mul_comm]; exact k5)
theorem pN {n a b:Int} (n1:1≤n) (n2:n≤9) (h:¬ (-15≤a∧a≤15∧-15≤b∧b≤15)):8*(pA n a b*pA n a b+pB n a b*pB n a b)≤5*(a*a+b*b):=by
 obtain ⟨f,f0,f1,e⟩:=n5 (n:=n) (a:=a) (b:=b)
 have k:=jZ n1 n2 f0 f1 h
 rw [e] at k
 have q1:0<n*n+1:=by have:=zV n; omega
 generalize pA n a b * pA n a b + pB n a b * pB n a b=X at *
 generalize a * a + b * b=Y at *
 generalize n * n + 1=N at *
 have k':N*(8*X)≤N*(5*Y):=by
  have r1:N*(8*X)=8*(N*X):=by grind
  have r2:N*(5*Y)=5*(N*Y):=by grind
  rw [r1,r2]; exact k
 exact Int.le_of_mul_le_mul_left k' q1
theorem Vq {n:Int} (n1:1≤n) (n2:n≤9):∀ (d j:Nat) (c:Nat→Nm) (a b:Int),c 0=.p a b→(∀ i,c (i+1)=sC .pairs n (j+i) (c i))→a*a+b*b≤((2 ^ d:Nat):Int)→∃ m,m≤2*d+16∧c m=Kd.zero .pairs:=by
 intro d
 induction d with
 | zero=>
  intro j c a b h0 hc hb
  have sa:=zV a
  have sb:=zV b
  have hb':a*a+b*b≤1:=hb
  have ha:-15≤a∧a≤15:=by
   constructor
   ·rcases Int.lt_or_le a (-15) with z | z
    ·have:=Int.mul_le_mul (show 16≤-a by omega) (show 16≤-a by omega) (by decide) (by omega)
     rw [Int.neg_mul_neg] at this; omega
    ·exact z
   ·rcases Int.lt_or_le 15 a with z | z
    ·have:=Int.mul_le_mul (show 16≤a by omega) (show 16≤a by omega) (by decide) (by omega)
     omega
    ·exact z
  have hbb:-15≤b∧b≤15:=by
   constructor
   ·rcases Int.lt_or_le b (-15) with z | z
    ·have:=Int.mul_le_mul (show 16≤-b by omega) (show 16≤-b by omega) (by decide) (by omega)
     rw [Int.neg_mul_neg] at this; omega
    ·exact z
   ·rcases Int.lt_or_le 15 b with z | z
    ·have:=Int.mul_le_mul (show 16≤b by omega) (show 16≤b by omega) (by decide) (by omega)
     omega
    ·exact z
  obtain ⟨i,hi,e⟩:=qf 14 j c a b h0 hc (l8 n1 n2 ha.1 ha.2 hbb.1 hbb.2)
  exact ⟨i,by omega,e⟩
 | succ d ih=>
  intro j c a b h0 hc hb
  by_cases hin:-15≤a∧a≤15∧-15≤b∧b≤15
  ·obtain ⟨i,hi,e⟩:=qf 14 j c a b h0 hc (l8 n1 n2 hin.1 hin.2.1 hin.2.2.1 hin.2.2.2)
   exact ⟨i,by omega,e⟩
  ·have e1:c 1=.p (pA n a b) (pB n a b):=by rw [hc 0,h0]; exact hW n _ a b
   have k1:=pN n1 n2 hin
   by_cases hin2:-15≤pA n a b∧pA n a b≤15∧-15≤pB n a b∧pB n a b≤15
   ·obtain ⟨i,hi,e⟩:=qf 14 (j+1) (fun i=>c (i+1)) _ _ e1 (fun i=>by rw [hc (i+1),show j+(i+1)=j+1+i by omega]) (l8 n1 n2 hin2.1 hin2.2.1 hin2.2.2.1 hin2.2.2.2)
    exact ⟨i+1,by omega,e⟩
   ·have k2:=pN n1 n2 hin2
    have e2:c 2=.p (pA n (pA n a b) (pB n a b)) (pB n (pA n a b) (pB n a b)):=by rw [hc 1,e1]; exact hW n _ _ _
    have hp:((2 ^ (d+1):Nat):Int)=2*((2 ^ d:Nat):Int):=by rw [Nat.pow_succ]; omega
    have h2:(0:Int)≤((2 ^ d:Nat):Int):=Int.natCast_nonneg _
    obtain ⟨m,hm,e⟩:=ih (j+2) (fun i=>c (i+2)) _ _ e2 (fun i=>by rw [hc (i+2),show j+(i+2)=j+2+i by omega]) (by omega)
    exact ⟨m+2,by omega,e⟩
theorem bc {k:Kd} {n:Int} {j:Nat} {c t:Nm} {T:Nat} (h4:k.four=true) (hn:k.ok n) (hc:c.ty k) (ht:tot k t) (b1:c.re.natAbs≤T+1) (b2:t.re.natAbs≤T):(sC k n j (c.add t)).re.natAbs≤T+1:=by
 have hk:k≠.pairs:=fun z=>by rw [z] at h4; cases h4
 obtain ⟨x,rfl⟩:=y3 hk hc
 obtain ⟨y,rfl⟩:=ht hk
 obtain ⟨a,ea⟩:=sC4 (n:=n) (j:=j) (t:=.i (x+y)) h4
 have e:(Nm.i x).add (.i y)=.i (x+y):=rfl
 rw [e,ea]
 have:=(rh h4 hn ea).1
 simp only [Nm.re] at *
 omega
theorem mB {k:Kd} {n:Int} {ts:List Nm} {T:Nat} (h4:k.four=true) (hn:k.ok n) (ht:∀ t∈ts,tot k t) (hb:∀ t∈ts,t.re.natAbs≤T):∀ j,(cAt k n ts j).re.natAbs≤T+1
 | 0=>by
  show (k.zero).re.natAbs≤_
  rw [zE]
  exact Nat.zero_le _
 | j+1=>by
  refine bc h4 hn (zZ k n ts j) (z9 ht j) (mB h4 hn ht hb j) ?_
  rw [List.getD_eq_getElem?_getD]
  cases q:ts[j]? with
  | none=>exact Nat.zero_le _
  | some t=>exact hb t (List.mem_of_getElem? q)
theorem cx {x T:Int} (h1:-T≤x) (h2:x≤T):x*x≤T*T:=by
 rcases Int.le_total 0 x with z | z
 ·exact Int.mul_le_mul h2 h2 z (by omega)
 ·have:=Int.mul_le_mul (show -x≤T by omega) (show -x≤T by omega) (by omega) (by omega)
  rwa [Int.neg_mul_neg] at this
theorem m8 {n a b x y T:Int} (hT:81≤T) (n1:1≤n) (n2:n≤9) (hx1:-T≤x) (hx2:x≤T) (hy1:-T≤y) (hy2:y≤T) (h:a*a+b*b≤30*(T*T)):
  pA n (a+x) (b+y)*pA n (a+x) (b+y)+pB n (a+x) (b+y)*pB n (a+x) (b+y)≤30*(T*T):=by
 obtain ⟨f,f0,f1,e⟩:=n5 (n:=n) (a:=a+x) (b:=b+y)
 have q1:1≤n*n:=by have:=Int.mul_le_mul n1 n1 (by omega) (by omega); omega
 have q2:n*n≤81:=by have:=Int.mul_le_mul n2 n2 (by omega) (by omega); omega
 generalize pA n (a + x) (b + y) * pA n (a + x) (b + y) + pB n (a + x) (b + y) * pB n (a + x) (b + y)=X at *
 have hX:2*X≤(n*n+1)*X∨X<0:=by
  rcases Int.lt_or_le X 0 with z | z
  ·exact .inr z
  ·exact .inl (Int.mul_le_mul_of_nonneg_right (by omega) z)
 have r1:2*((a+x - f)*(a+x - f))≤3*(a*a)+6*((x - f)*(x - f)):=by
  have:=zV (a - 2*(x - f))
  have e1:(a - 2*(x - f))*(a - 2*(x - f))=a*a - 4*(a*(x - f))+4*((x - f)*(x - f)):=by grind
  have e2:(a+x - f)*(a+x - f)=a*a+2*(a*(x - f))+(x - f)*(x - f):=by grind
  omega
 have r2:2*((b+y)*(b+y))≤3*(b*b)+6*(y*y):=by
  have:=zV (b - 2*y)
  have e1:(b - 2*y)*(b - 2*y)=b*b - 4*(b*y)+4*(y*y):=by grind
  have e2:(b+y)*(b+y)=b*b+2*(b*y)+y*y:=by grind
  omega
 have s1:(x - f)*(x - f)≤(2*T)*(2*T):=cx (by omega) (by omega)
 have s2:y*y≤T*T:=cx hy1 hy2
 have s3:(2*T)*(2*T)=4*(T*T):=by grind
 have s4:=zV T
 omega
theorem mz {n:Int} {ts:List Nm} {T:Nat} (hT:81≤T) (hn:Kd.pairs.ok n) (hb:∀ t∈ts,t.re.natAbs≤T∧t.im.natAbs≤T):∀ j,∃ a b,cAt .pairs n ts j=.p a b∧a*a+b*b≤30*((T:Int)*T)
 | 0=>⟨0,0,rfl,by have:=zV (T:Int); omega⟩
 | j+1=>by
  obtain ⟨a,b,e,h⟩:=mz hT hn hb j
  have ht:(ts.getD j (.i 0)).re.natAbs≤T∧(ts.getD j (.i 0)).im.natAbs≤T:=by
   rw [List.getD_eq_getElem?_getD]
   cases q:ts[j]? with
   | none=>exact ⟨Nat.zero_le _,Nat.zero_le _⟩
   | some t=>exact hb t (List.mem_of_getElem? q)
  have ea:(Nm.p a b).add (ts.getD j (.i 0))=.p (a+(ts.getD j (.i 0)).re) (b+(ts.getD j (.i 0)).im):=by
   cases ts.getD j (.i 0) <;> rfl
  refine ⟨_,_,by show sC .pairs n j ((cAt .pairs n ts j).add _)=_; rw [e,ea]; exact hW ..,?_⟩
  have h1:(1:Int)≤n:=hn.1
  have h2:n≤9:=hn.2
  exact m8 (by omega) h1 h2 (by omega) (by omega) (by omega) (by omega) h
theorem Ve {P:Nat→Prop}:∀ (m:Nat),P m→∃ i,i≤m∧P i∧∀ l,l<i→¬ P l:=by
 intro m
 induction m using Nat.strongRecOn with
 | ind m ih=>
  intro h
  by_cases hx:∃ l,l<m∧P l
  ·obtain ⟨l,hl,pl⟩:=hx
   obtain ⟨i,hi,h2⟩:=ih l hl pl
   exact ⟨i,by omega,h2⟩
  ·exact ⟨m,Nat.le_refl _,h,fun l hl pl=>hx ⟨l,hl,pl⟩⟩
theorem rV {k:Kd} {n:Int} {ts:List Nm} {b:Nat} (h5:k.five=true) (hn:k.ok n) (ht:∀ t∈ts,tot k t) (hb:∀ t∈ts,t.re.natAbs≤2 ^ b∧t.im.natAbs≤2 ^ b) (b7:7≤b) (hh:yd k (cAt k n ts ts.length)=true):
  ∃ J,Fin k n ts J∧J≤ts.length+4*b+30∧(k≠.pairs→J≤ts.length+b+3):=by
 have hpow:2 ^ (b+1)=2*2 ^ b:=by rw [Nat.pow_succ]; omega
 have h128:128≤2 ^ b:=Nat.pow_le_pow_right (by decide:0<2) b7
 have main:∃ m,m≤4*b+30∧(k≠.pairs→m≤b+3)∧cAt k n ts (ts.length+m)=k.zero∧∀ i,yd k (cAt k n ts (ts.length+i))=true:=by
  have hc:∀ i,cAt k n ts (ts.length+(i+1))=sC k n (ts.length+i) (cAt k n ts (ts.length+i)):=fun i=>cn (j:=ts.length+i) (by omega)
  by_cases hk:k=.pairs
  ·subst hk
   obtain ⟨x,y,e,hxy⟩:=mz (T:=2 ^ b) (by omega) hn hb ts.length
   have hbig:30*(((2 ^ b:Nat):Int)*((2 ^ b:Nat):Int))≤((2 ^ (2*b+5):Nat):Int):=by
    have:2 ^ (2*b+5)=32*(2 ^ b*2 ^ b):=by rw [← Nat.pow_add,show 2*b+5=(b+b)+5 by omega,Nat.pow_add]; omega
    rw [this,← Int.natCast_mul]
    omega
   obtain ⟨m,hm,em⟩:=Vq hn.1 hn.2 (2*b+5) ts.length (fun i=>cAt .pairs n ts (ts.length+i)) x y e hc (Int.le_trans hxy hbig)
   refine ⟨m,by omega,fun z=>absurd rfl z,em,fun i=>?_⟩
   obtain ⟨u,v,e'⟩:=zZ .pairs n ts (ts.length+i)
   rw [e']
   rfl
  ·have h4:=vC h5 hk
   obtain ⟨t,et⟩:=y3 hk (zZ k n ts ts.length)
   rw [et] at hh
   have bd:=mB h4 hn ht (fun t h=>(hb t h).1) ts.length
   rw [et] at bd
   have bd':t.natAbs≤2 ^ b+1:=bd
   obtain ⟨m,hm,em⟩:=cJ h4 hn (b+1) ts.length (fun i=>cAt k n ts (ts.length+i)) t et hc hh (by omega)
   refine ⟨m,by omega,fun _=>by omega,em,fun i=>?_⟩
   obtain ⟨a,e',h'⟩:=q_ h4 hn (c:=fun i=>cAt k n ts (ts.length+i)) et hc hh i
   have e':cAt k n ts (ts.length+i)=.i a:=e'
   rw [e']
   exact h'
 obtain ⟨m,hm,hm4,em,hall⟩:=main
 obtain ⟨i,hi,pi,hl⟩:=Ve (P:=fun i=>cAt k n ts (ts.length+i)=k.zero) m em
 refine ⟨ts.length+i,⟨by omega,pi,fun j h1 h2=>?_⟩,by omega,fun z=>by have:=hm4 z; omega⟩
 have e:j=ts.length+(j - ts.length):=by omega
 rw [e]
 exact ⟨hl _ (by omega),hall _⟩
theorem xh (k:Kd) (n:Int) (ts:List Nm) (j:Nat):(yP k n ts j).length=j:=by unfold yP; rw [List.length_map,List.length_range]
theorem p7 {k:Kd} {n:Int} {ts:List Nm} {j i:Nat} (h:i<j):(yP k n ts j).getD i 0=fAt k n ts i:=by
 unfold yP
 rw [List.getD_eq_getElem?_getD,List.getElem?_map,List.getElem?_range h]
 rfl
theorem ut (k:Kd) (n:Int) (ts:List Nm) (j:Nat):yP k n ts (j+1)=yP k n ts j++[fAt k n ts j]:=by
 unfold yP
 rw [List.range_succ,List.map_append]
 rfl
theorem ol (k:Kd) (n:Int) (ts:List Nm) (j:Nat):crs k n ts (j+1)=crs k n ts j++[cAt k n ts j]:=by
 unfold crs
 rw [List.range_succ,List.map_append]
 rfl
theorem qK (k:Kd) (n:Int) (ts:List Nm) (j:Nat):(crs k n ts j).length=j:=by unfold crs; rw [List.length_map,List.length_range]
def Kd.isF:Kd→Bool
 | .falling=>true
 | _=>false
structure Legal (k:Kd) (n:Int) (r:List Int):Prop where
 fig:∀ p,p<r.length→k.low n p≤r.getD p 0∧r.getD p 0≤k.high n p
 fal:k.isF=true→∀ p,p+1<r.length→r.getD (p+1) 0=n→r.getD p 0=0
 end_:r=[]∨r.getD (r.length - 1) 0≠0
open Classical in
noncomputable def pS (k:Kd) (n:Int) (r:List Int):Bool:=decide (Legal k n r)
open Classical in
theorem n8 {k:Kd} {n:Int} {r:List Int} (h:Legal k n r):pS k n r=true:=by unfold pS; exact decide_eq_true h
open Classical in
theorem qv {k:Kd} {n:Int} {r:List Int} (h:¬ Legal k n r):pS k n r=false:=by unfold pS; exact decide_eq_false h
structure Lg (k:Kd) (n:Int) (r:List Int):Prop where
 fig:∀ p,p<r.length→k.low n p≤r.getD p 0∧r.getD p 0≤k.high n p
 fal:k.isF=true→∀ p,p+1<r.length→r.getD (p+1) 0=n→r.getD p 0=0
theorem qt {k:Kd} {n:Int} (h:k.ok n) (p:Nat):k.low n p≤0∧0≤k.high n p:=by
 obtain ⟨h1,h2⟩:=h
 cases k <;> simp only [Kd.lo,Kd.hi,Kd.low,Kd.high] at * <;> first | omega | exact ⟨Int.le_refl _,Int.mul_nonneg (by omega) (by omega)⟩
theorem zF {r:List Int} {z:Int} {p:Nat} (h:p<r.length):(r++[z]).getD p 0=r.getD p 0:=by
 rw [List.getD_eq_getElem?_getD,List.getD_eq_getElem?_getD,List.getElem?_append_left h]
theorem getD_snoc_eq {r:List Int} {z:Int}:(r++[z]).getD r.length 0=z:=by
 rw [List.getD_eq_getElem?_getD,List.getElem?_append_right (Nat.le_refl _)]
 simp
theorem Lg.nil (k:Kd) (n:Int):Lg k n []:=⟨fun p h=>absurd h (Nat.not_lt_zero _),fun _ p h=>absurd h (Nat.not_lt_zero _)⟩
theorem Lg.pop {k:Kd} {n:Int} {r:List Int} {z:Int} (h:Lg k n (r++[z])):Lg k n r:=by
 refine ⟨fun p hp=>?_,fun hk p hp=>?_⟩
 ·have:=h.fig p (by rw [List.length_append]; omega)
  rwa [zF hp] at this
 ·have:=h.fal hk p (by rw [List.length_append]; omega)
  rwa [zF hp,zF (by omega)] at this
theorem Lg.trim {k:Kd} {n:Int}:∀ {r:List Int},Lg k n r→Legal k n (trim r):=by
 intro r
 generalize hl:r.length=m
 induction m generalizing r with
 | zero=>
  intro h
  obtain rfl:r=[]:=List.length_eq_zero_iff.mp hl
  exact ⟨h.fig,h.fal,.inl rfl⟩
 | succ m ih=>
  intro h
  rcases zK r with rfl | ⟨l,z,rfl⟩
  ·cases hl
  ·by_cases hz:z=0
   ·subst hz
    rw [wB]
    exact ih (by rw [List.length_append] at hl; exact Nat.succ.inj hl) h.pop
   ·rw [uS hz]
    exact ⟨h.fig,h.fal,.inr (by rw [List.length_append]; exact fun e=>hz (by rw [← e]; exact getD_snoc_eq.symm))⟩
theorem Lg.push {k:Kd} {n z:Int} {r:List Int} (h:Lg k n r) (hz:k.low n r.length≤z∧z≤k.high n r.length) (hf:k.isF=true→z=n→r=[]∨r.getD (r.length - 1) 0=0):Lg k n (r++[z]):=by
 refine ⟨fun p hp=>?_,fun hk p hp e=>?_⟩
 ·rw [List.length_append] at hp
  rcases (by simp at hp; omega:p<r.length∨p=r.length) with q | q
  ·rw [zF q]; exact h.fig p q
  ·subst q; rw [getD_snoc_eq]; exact hz
 ·rw [List.length_append] at hp
  rcases (by simp at hp; omega:p+1<r.length∨p+1=r.length) with q | q
  ·rw [zF q] at e
   rw [zF (by omega)]
   exact h.fal hk p q e
  ·rw [q,getD_snoc_eq] at e
   rw [zF (by omega)]
   rcases hf hk e with z | z
   ·rw [z] at q; cases q
   ·rw [show r.length - 1=p by omega] at z; exact z
theorem wr {r:List Int} {i j:Nat} {z:Int} (h:i≠j):(r.set i z).getD j 0=r.getD j 0:=by
 rw [List.getD_eq_getElem?_getD,List.getD_eq_getElem?_getD,List.getElem?_set_ne h]
theorem uE {r:List Int} {i:Nat} {z:Int} (h:i<r.length):(r.set i z).getD i 0=z:=by
 rw [List.getD_eq_getElem?_getD,List.getElem?_set_self h]
 rfl
theorem Lg.zero {k:Kd} {n:Int} {r:List Int} (hn:k.ok n) (h:Lg k n r):Lg k n (r.set (r.length - 1) 0):=by
 refine ⟨fun p hp=>?_,fun hk p hp e=>?_⟩
 ·rw [List.length_set] at hp
  by_cases q:r.length - 1=p
  ·subst q; rw [uE hp]; exact qt hn _
  ·rw [wr q]; exact h.fig p hp
 ·rw [List.length_set] at hp
  have n1:n≠0:=by have:=hn.1; cases k <;> simp only [Kd.lo] at this <;> omega
  by_cases q:r.length - 1=p+1
  ·rw [← q,uE (by omega)] at e; exact absurd e.symm n1
  ·rw [wr q] at e
   rw [wr (by omega)]
   exact h.fal hk p hp e
theorem wA (k:Kd) (n:Int) (ns:List Int):∀ j,yw k n ns j=wF k n (fun i=>ns.getD i 0) j
 | 0=>rfl
 | j+1=>by unfold yw wF; rw [wA k n ns j]
theorem tu {k:Kd} {n:Int} {f g:Nat→Int}:∀ j,(∀ i,i<j→f i=g i)→wF k n f j=wF k n g j
 | 0,_=>rfl
 | j+1,h=>by
  unfold wF
  rw [tu j fun i hi=>h i (by omega),h j (by omega)]
theorem qV (k:Kd) (n:Int) (j:Nat):(wt k n j).ty k:=by
 by_cases hk:k=.pairs
 ·subst hk; exact wt2 j
 ·obtain ⟨w,e⟩:=wtI (n:=n) hk j
  rw [e]
  exact xI hk
theorem wq {k:Kd} {t w:Nm} (ht:tot k t) (hw:w.ty k):(t.mul w).ty k:=by
 by_cases hk:k=.pairs
 ·subst hk
  obtain ⟨a,b,rfl⟩:=hw
  cases t <;> exact ⟨_,_,rfl⟩
 ·obtain ⟨a,rfl⟩:=ht hk
  obtain ⟨b,rfl⟩:=y3 hk hw
  exact xI hk
theorem zJ {k:Kd} {m:Nm} (h:m.ty k):tot k m:=fun hk=>y3 hk h
theorem rd (k:Kd) (a:Int):tot k (.i a):=fun _=>⟨a,rfl⟩
theorem lG (k:Kd) (n:Int) (f:Nat→Int):∀ j,(wF k n f j).ty k
 | 0=>z5 k
 | j+1=>xl (lG k n f j) (zJ (wq (rd k _) (qV k n j)))
theorem tq {k:Kd} {n:Int} {ts:List Nm} (ht:∀ t∈ts,tot k t):∀ j,(wN k n ts j).ty k
 | 0=>z5 k
 | j+1=>xl (tq ht j) (zJ (wq (z9 ht j) (qV k n j)))
theorem oq {k:Kd} {m w:Nm} (hm:m.ty k) (hw:w.ty k):m.add ((Nm.i 0).mul w)=m:=by
 refine yN (xl hm (zJ (wq (rd k 0) hw))) hm ?_ ?_
 ·rw [zD,zo]; show m.re+(0*w.re - 0*w.im)=_; rw [Int.zero_mul,Int.zero_mul]; omega
 ·rw [zL,zu]; show m.im+(0*w.im+0*w.re)=_; rw [Int.zero_mul,Int.zero_mul]; omega
theorem oz {k:Kd} {n:Int} {ts:List Nm} (ht:∀ t∈ts,tot k t):∀ i,wN k n ts (ts.length+i)=wN k n ts ts.length
 | 0=>rfl
 | i+1=>by
  have e:ts.getD (ts.length+i) (.i 0)=.i 0:=by rw [List.getD_eq_getElem?_getD,List.getElem?_eq_none (by omega)]; rfl
  show (wN k n ts (ts.length+i)).add ((ts.getD (ts.length+i) (.i 0)).mul (wt k n (ts.length+i)))=_
  rw [e,oq (tq ht _) (qV k n _)]
  exact oz ht i
def zU (k:Kd) (n:Int) (ts:List Nm):Nm:=wN k n ts ts.length
def zg (k:Kd) (n:Int) (r:List Int):Nm:=yw k n r r.length
theorem Fin.worth {k:Kd} {n:Int} {ts:List Nm} {J:Nat} (F:Fin k n ts J) (h5:k.five=true) (hn:k.ok n) (ht:∀ t∈ts,tot k t):zg k n (yP k n ts J)=zU k n ts:=by
 unfold zg zU
 rw [xh,wA,tu (g:=fAt k n ts) J (fun i hi=>p7 hi)]
 have e:wN k n ts J=wN k n ts ts.length:=by
  rw [show J=ts.length+(J - ts.length) by have:=F.le; omega]
  exact oz ht _
 obtain ⟨t1,t2⟩:=c8 h5 hn ht J
 rw [F.z,zo,zE,zH] at t1
 rw [F.z,zu,zE,zH] at t2
 rw [← e]
 refine yN (lG k n _ J) (tq ht J) ?_ ?_
 ·rw [t1,Int.mul_zero,Int.mul_zero]; omega
 ·rw [t2,Int.mul_zero,Int.mul_zero]; omega
theorem rP {k:Kd} {n:Int} {l:List Int} {z:Int} {j:Nat} (h:j≤l.length):yw k n (l++[z]) j=yw k n l j:=by
 rw [wA,wA]
 exact tu j fun i hi=>zF (by omega)
theorem xo (k:Kd) (n:Int) (l:List Int) (z:Int):zg k n (l++[z])=(zg k n l).add ((Nm.i z).mul (wt k n l.length)):=by
 unfold zg
 rw [List.length_append]
 show (yw k n (l++[z]) l.length).add ((Nm.i ((l++[z]).getD l.length 0)).mul (wt k n l.length))=_
 rw [rP (Nat.le_refl _),getD_snoc_eq]
theorem zA (k:Kd) (n:Int) (r:List Int):(zg k n r).ty k:=by
 unfold zg
 rw [wA]
 exact lG k n _ _
theorem qY (k:Kd) (n:Int) (r:List Int):zg k n (trim r)=zg k n r:=by
 generalize hl:r.length=m
 induction m generalizing r with
 | zero=>
  obtain rfl:r=[]:=List.length_eq_zero_iff.mp hl
  rfl
 | succ m ih=>
  rcases zK r with rfl | ⟨l,z,rfl⟩
  ·cases hl
  ·by_cases hz:z=0
   ·subst hz
    rw [wB,ih l (by rw [List.length_append] at hl; exact Nat.succ.inj hl),xo,oq (zA k n l) (qV k n _)]
   ·rw [uS hz]
theorem wv {k:Kd} (h5:k.five=true):k.isF=false:=by cases k <;> first | rfl | cases h5
theorem d9 {k:Kd} {n:Int} {ts:List Nm} (h5:k.five=true) (hn:k.ok n) (ht:∀ t∈ts,tot k t) (J:Nat):Lg k n (yP k n ts J):=by
 refine ⟨fun p hp=>?_,fun hF=>?_⟩
 ·rw [xh] at hp
  rw [p7 hp]
  obtain ⟨a,b,_⟩:=x9 (j:=p) h5 hn (xl (zZ k n ts p) (z9 ht p))
  exact ⟨a,b⟩
 ·rw [wv h5] at hF
  cases hF
def vW (k:Kd) (n:Int) (ts:List Nm) (J:Nat):List Int:=trim (yP k n ts J)
theorem w6 {k:Kd} {n:Int} {ts:List Nm} {J:Nat} (h5:k.five=true) (hn:k.ok n) (ht:∀ t∈ts,tot k t):Legal k n (vW k n ts J):=(d9 h5 hn ht J).trim
theorem wZ {k:Kd} {n:Int} {ts:List Nm} {J:Nat} (F:Fin k n ts J) (h5:k.five=true) (hn:k.ok n) (ht:∀ t∈ts,tot k t):zg k n (vW k n ts J)=zU k n ts:=by
 unfold vW
 rw [qY,F.worth h5 hn ht]
theorem oy {k:Kd} {n:Int} {m:Nm} (hm:m.ty k) (h5:k.five=true):zU k n [m]=m:=by
 show (k.zero.add (m.mul (wt k n 0)))=m
 have e:wt k n 0=k.zero.add (.i 1):=by cases k <;> first | rfl | cases h5
 have r1:(wt k n 0).re=1:=by rw [e,zD,zE]; rfl
 have r2:(wt k n 0).im=0:=by rw [e,zL,zH]; rfl
 refine yN (xl (z5 k) (zJ (wq (zJ hm) (qV k n 0)))) hm ?_ ?_
 ·rw [zD,zo,zE,r1,r2,Int.mul_one,Int.mul_zero]; omega
 ·rw [zL,zu,zH,r1,r2,Int.mul_one,Int.mul_zero]; omega
theorem nc {k:Kd} {m:Nm} (h:yd k m=true):m.ty k:=by
 cases k <;> cases m <;> first | exact ⟨_,rfl⟩ | exact ⟨_,_,rfl⟩ | cases h
theorem lR {k:Kd} {n:Int} {m:Nm} {b:Nat} (h5:k.five=true) (hn:k.ok n) (hm:yd k m=true) (hb:m.re.natAbs≤2 ^ b∧m.im.natAbs≤2 ^ b) (b7:7≤b):∃ J,Fin k n [m] J∧J≤4*b+31∧(k≠.pairs→J≤b+4):=by
 have ht:∀ t∈[m],tot k t:=fun t h=>by rw [List.mem_singleton.mp h]; exact zJ (nc hm)
 have e1:cAt k n [m] 1=sC k n 0 m:=by
  show sC k n 0 (k.zero.add m)=_
  rw [XW (nc hm)]
 obtain ⟨J,F,hJ⟩:=rV (b:=b) h5 hn ht (fun t h=>by rw [List.mem_singleton.mp h]; exact hb) b7 (by
  show yd k (cAt k n [m] 1)=true
  rw [e1]
  by_cases hk:k=.pairs
  ·subst hk
   obtain ⟨x,y,e⟩:=lX .pairs n 0 m
   rw [e]; rfl
  ·have h4:=vC h5 hk
   obtain ⟨t,rfl⟩:=y3 hk (nc hm)
   obtain ⟨a,ea⟩:=sC4 (n:=n) (j:=0) (t:=.i t) h4
   rw [ea]
   exact (rh h4 hn ea).2.1 hm)
 exact ⟨J,F,by have:=hJ.1; simp at this; omega,fun z=>by have:=hJ.2 z; simp at this; omega⟩
def uz (k:Kd):DSp:=fun ds Q=>∃ o d m,ds=[o,d]∧tY d=some m∧Q (.bl (yd k m))
def isP:Nm→Bool
 | .p _ _=>true
 | _=>false
def rN:DSp:=fun ds Q=>∃ d m,ds=[d]∧tY d=some m∧Q (.bl (isP m))
def iI:DSp:=fun ds Q=>∃ r,ds=[zt r]∧Q (zt (trim r))
def vi:DSp:=fun ds Q=>∃ xs p,ds=[.lst xs,.int p]∧0≤p∧Q (xs.getD p.toNat (.int 0))
def vn (ts:List Nm):Dt:=.lst (ts.map Nm.dt)
def yp (k:Kd) (n:Int) (ts:List Nm) (j:Nat):List Dt:=(crs k n ts j).map Nm.dt
theorem uY (ts:List Nm) (j:Nat):(ts.map Nm.dt).getD j (.int 0)=(ts.getD j (.i 0)).dt:=by
 rw [List.getD_eq_getElem?_getD,List.getD_eq_getElem?_getD,List.getElem?_map]
 cases ts[j]? <;> rfl
theorem j0 {k:Kd} {m m':Nm} (h:m.ty k) (h':m'.ty k):eqD m.dt m'.dt=true↔m=m':=by
 by_cases hk:k=.pairs
 ·subst hk
  obtain ⟨a,b,rfl⟩:=h
  obtain ⟨c,d,rfl⟩:=h'
  show eqD (.tup [.int a,.int b]) (.tup [.int c,.int d])=true↔_
  rw [vH,xG,xG,vG,yY,yY,Bool.and_eq_true,Bool.and_eq_true,beq_iff_eq,beq_iff_eq]
  constructor
  ·rintro ⟨rfl,rfl,_⟩; rfl
  ·intro e; cases e; exact ⟨rfl,rfl,rfl⟩
 ·obtain ⟨a,rfl⟩:=y3 hk h
  obtain ⟨c,rfl⟩:=y3 hk h'
  show eqD (.int a) (.int c)=true↔_
  rw [yY,beq_iff_eq]
  constructor
  ·rintro rfl; rfl
  ·intro e; cases e; rfl
def wf (n:Int) (j:Nat):Int:=(wtF n j).2
theorem iW (n:Int):wf n 0=1:=rfl
theorem cY (n:Int):wf n 1=n+1:=by show n*1+1=_; rw [Int.mul_one]
theorem cX (n:Int) (j:Nat):wf n (j+2)=n*wf n (j+1)+wf n j:=rfl
theorem x8 {n:Int} (h:1≤n):∀ j,1≤wf n j∧wf n j≤wf n (j+1)
 | 0=>by rw [iW,cY]; omega
 | j+1=>by
  obtain ⟨a,b⟩:=x8 h j
  have:wf n (j+1)≤n*wf n (j+1):=by
   have:=Int.mul_le_mul_of_nonneg_right h (show 0≤wf n (j+1) by omega)
   omega
  rw [cX]
  omega
def Vt (k:Kd) (n:Int):Nat→List Int→Nm
 | _,[]=>k.zero
 | j,f::r=>(Nm.i f).add ((k.ratN n j).mul (Vt k n (j+1) r))
theorem l7 {k:Kd} {n:Int} {j:Nat} (h5:k.five=true):(k.ratN n j).ty k:=by
 cases k <;> first | exact ⟨_,rfl⟩ | exact ⟨_,_,rfl⟩ | cases h5
theorem pX {k:Kd} {f:Int} {m:Nm} (h:m.ty k):((Nm.i f).add m).ty k:=by
 by_cases hk:k=.pairs
 ·subst hk
  obtain ⟨a,b,rfl⟩:=h
  exact ⟨_,_,rfl⟩
 ·obtain ⟨a,rfl⟩:=y3 hk h
  exact xI hk
theorem ot {k:Kd} {n:Int} (h5:k.five=true):∀ (r:List Int) (j:Nat),(Vt k n j r).ty k
 | [],_=>z5 k
 | _::r,j=>pX (wq (zJ (l7 h5)) (ot h5 r (j+1)))
theorem iX {P1 P2 w1 w2 f r1 r2 v1 v2:Int}:P1+(f*w1 - 0*w2)+((r1*w1 - r2*w2)*v1 - (r1*w2+r2*w1)*v2)=P1+(w1*(f+(r1*v1 - r2*v2)) - w2*(0+(r1*v2+r2*v1)))∧P2+(f*w2+0*w1)+((r1*w1 - r2*w2)*v2+(r1*w2+r2*w1)*v1)=P2+(w1*(0+(r1*v2+r2*v1))+w2*(f+(r1*v1 - r2*v2))):=by
 constructor <;> grind
theorem qW {k:Kd} {n:Int} (h5:k.five=true):∀ (r pre:List Int),
  (zg k n (pre++r)).re=(zg k n pre).re+((wt k n pre.length).mul (Vt k n pre.length r)).re∧(zg k n (pre++r)).im=(zg k n pre).im+((wt k n pre.length).mul (Vt k n pre.length r)).im
 | [],pre=>by
  rw [List.append_nil]
  unfold Vt
  rw [zo,zu,zE,zH,Int.mul_zero,Int.mul_zero]
  exact ⟨by omega,by omega⟩
 | f::r,pre=>by
  obtain ⟨i1,i2⟩:=qW h5 r (pre++[f])
  have e:pre++f::r=(pre++[f])++r:=by rw [List.append_assoc]; rfl
  have el:(pre++[f]).length=pre.length+1:=by rw [List.length_append]; rfl
  have ev:Vt k n pre.length (f::r)=(Nm.i f).add ((k.ratN n pre.length).mul (Vt k n (pre.length+1) r)):=rfl
  rw [e,i1,i2,el,xo,yT h5,ev]
  simp only [zo,zu,zD,zL]
  have fr:(Nm.i f).re=f:=rfl
  have fi:(Nm.i f).im=0:=rfl
  rw [fr,fi]
  exact iX
theorem qX {k:Kd} {n:Int} (h5:k.five=true) (r:List Int):zg k n r=Vt k n 0 r:=by
 obtain ⟨a,b⟩:=qW (n:=n) h5 r []
 have e:wt k n 0=k.zero.add (.i 1):=by cases k <;> first | rfl | cases h5
 have r1:(wt k n 0).re=1:=by rw [e,zD,zE]; rfl
 have r2:(wt k n 0).im=0:=by rw [e,zL,zH]; rfl
 have z1:(zg k n []).re=0:=zE k
 have z2:(zg k n []).im=0:=zH k
 simp only [List.length_nil,List.nil_append] at a b
 rw [zo,r1,r2,z1] at a
 rw [zu,r1,r2,z2] at b
 refine yN (zA k n r) (ot h5 r 0) ?_ ?_
 ·rw [a]; omega
 ·rw [b]; omega
theorem rj {lo n r t f c:Int} (hr:r=n∨r=-n) (h1:lo≤f) (h2:f≤lo+n - 1) (h3:lo≤t) (h4:t≤lo+n - 1) (e:f+c*r=t):c=0∧f=t:=by
 have hc:c=0:=by
  rcases (by omega:c=0∨1≤c∨c≤-1) with h | h | h
  ·exact h
  ·rcases hr with rfl | rfl
   ·have:=Int.mul_le_mul_of_nonneg_right h (show 0≤r by omega)
    omega
   ·have:=Int.mul_le_mul_of_nonneg_right h (show 0≤n by omega)
    rw [Int.mul_neg] at e
    omega
  ·rcases hr with rfl | rfl
   ·have:=Int.mul_le_mul_of_nonneg_right h (show 0≤r by omega)
    omega
   ·have:=Int.mul_le_mul_of_nonneg_right h (show 0≤n by omega)
    rw [Int.mul_neg] at e
    omega
 subst hc
 omega
theorem rn {k:Kd} {n f g:Int} {j:Nat} {c d:Nm} (h5:k.five=true) (hn:k.ok n) (f1:k.low n j≤f) (f2:f≤k.high n j) (g1:k.low n j≤g) (g2:g≤k.high n j) (tc:c.ty k) (td:d.ty k)
  (e:(Nm.i f).add ((k.ratN n j).mul c)=(Nm.i g).add ((k.ratN n j).mul d)):f=g∧c=d:=by
 have e1:=congrArg Nm.re e
 have e2:=congrArg Nm.im e
 rw [zD,zD,zo,zo] at e1
 rw [zL,zL,zu,zu] at e2
 by_cases hk:k=.pairs
 ·subst hk
  obtain ⟨a,b,rfl⟩:=tc
  obtain ⟨x,y,rfl⟩:=td
  simp only [Kd.ratN,Nm.re,Nm.im,Kd.low,Kd.high] at *
  have q1:f - n*(a - x) - (b - y)=g:=by rw [Int.mul_sub]; simp only [Int.neg_mul,Int.one_mul] at e1; omega
  have q2:(a - x) - n*(b - y)=0:=by rw [Int.mul_sub]; simp only [Int.neg_mul,Int.one_mul] at e2; omega
  generalize hu:a - x=u at *
  generalize hv:b - y=v at *
  have eu:u=n*v:=by omega
  rw [eu] at q1
  have e3:f+(-v)*(n*n+1)=g:=by
   have r1:n*(n*v)=v*(n*n):=by grind
   have r2:(-v)*(n*n+1)=-(v*(n*n)) - v:=by grind
   omega
  obtain ⟨h1,h2⟩:=rj (lo:=0) (n:=n*n+1) (.inl rfl) f1 (by omega) g1 (by omega) e3
  have v0:v=0:=by omega
  rw [v0,Int.mul_zero] at eu
  exact ⟨h2,by rw [show a=x by omega,show b=y by omega]⟩
 ·have h4:=vC h5 hk
  obtain ⟨a,rfl⟩:=y3 hk tc
  obtain ⟨x,rfl⟩:=y3 hk td
  have eR:k.ratN n j=.i (k.rat n j):=by cases k <;> first | rfl | exact absurd rfl hk
  rw [eR] at e1
  obtain ⟨z1,z2⟩:=rT h4 n j
  have q:f+(a - x)*k.rat n j=g:=by
   have e1':f+(k.rat n j*a - 0*0)=g+(k.rat n j*x - 0*0):=e1
   rw [Int.sub_mul,Int.mul_comm a,Int.mul_comm x]
   omega
  obtain ⟨h1,h2⟩:=rj (lo:=k.low n j) (n:=k.size n j) z2 f1 (by omega) g1 (by omega) q
  exact ⟨h2,by rw [show a=x by omega]⟩
def Figs (k:Kd) (n:Int) (j:Nat) (r:List Int):Prop:=∀ p,p<r.length→k.low n ((j+p:Nat):Int)≤r.getD p 0∧r.getD p 0≤k.high n ((j+p:Nat):Int)
theorem Figs.cons {k:Kd} {n f:Int} {j:Nat} {r:List Int} (h:Figs k n j (f::r)):(k.low n j≤f∧f≤k.high n j)∧Figs k n (j+1) r:=by
 refine ⟨h 0 (by simp),fun p hp=>?_⟩
 have:=h (p+1) (by simp; exact hp)
 rw [show j+(p+1)=j+1+p by omega] at this
 exact this
theorem XQ {k:Kd} {n:Int} (h5:k.five=true) (hn:k.ok n):∀ (r s:List Int) (j:Nat),Figs k n j r→Figs k n j s→Vt k n j r=Vt k n j s→∀ p,r.getD p 0=s.getD p 0:=by
 have zz:∀ j:Nat,k.zero=(Nm.i 0).add ((k.ratN n j).mul k.zero):=fun j=>by
  refine yN (z5 k) (pX (wq (zJ (l7 h5)) (z5 k))) ?_ ?_
  ·rw [zD,zo,zE,zH,Int.mul_zero,Int.mul_zero]; rfl
  ·rw [zL,zu,zE,zH,Int.mul_zero,Int.mul_zero]; rfl
 have nilc:∀ (s:List Int) (j:Nat),Figs k n j s→k.zero=Vt k n j s→∀ p,(0:Int)=s.getD p 0:=by
  intro s
  induction s with
  | nil=>intro j _ _ p; rfl
  | cons g s ih=>
   intro j hs e p
   obtain ⟨⟨g1,g2⟩,hs'⟩:=hs.cons
   obtain ⟨l1,l2⟩:=qt hn j
   rw [zz j] at e
   obtain ⟨q1,q2⟩:=rn h5 hn l1 l2 g1 g2 (z5 k) (ot h5 s (j+1)) e
   cases p with
   | zero=>exact q1
   | succ p=>exact ih (j+1) hs' q2 p
 intro r
 induction r with
 | nil=>intro s j _ hs e p; exact nilc s j hs e p
 | cons f r ih=>
  intro s j hr hs e p
  cases s with
  | nil=>exact (nilc (f::r) j hr e.symm p).symm
  | cons g s=>
   obtain ⟨⟨f1,f2⟩,hr'⟩:=hr.cons
   obtain ⟨⟨g1,g2⟩,hs'⟩:=hs.cons
   obtain ⟨q1,q2⟩:=rn h5 hn f1 f2 g1 g2 (ot h5 r (j+1)) (ot h5 s (j+1)) e
   cases p with
   | zero=>exact q1
   | succ p=>exact ih s (j+1) hr' hs' q2 p
theorem p5 {r:List Int} {p:Nat} (h:r.length≤p):r.getD p 0=0:=by rw [List.getD_eq_getElem?_getD,List.getElem?_eq_none h]; rfl
theorem h8 {r s:List Int} (h:∀ p,r.getD p 0=s.getD p 0) (hr:r=[]∨r.getD (r.length - 1) 0≠0) (hs:s=[]∨s.getD (s.length - 1) 0≠0):r=s:=by
 have hl:r.length=s.length:=by
  rcases (by omega:r.length=s.length∨r.length<s.length∨s.length<r.length) with z | z | z
  ·exact z
  ·rcases hs with hs | hs
   ·rw [hs] at z; simp at z
   ·exact absurd (by rw [← h]; exact p5 (by omega)) hs
  ·rcases hr with hr | hr
   ·rw [hr] at z; simp at z
   ·exact absurd (by rw [h]; exact p5 (by omega)) hr
 apply List.ext_getElem hl
 intro i h1 h2
 have:=h i
 rw [List.getD_eq_getElem?_getD,List.getD_eq_getElem?_getD,List.getElem?_eq_getElem h1,List.getElem?_eq_getElem h2] at this
 exact this
theorem yh (n:Int) (l:List Int) (z:Int):(zg .falling n (l++[z])).re=(zg .falling n l).re+z*wf n l.length:=by
 rw [xo,zD]
 rfl
theorem Lg.nonneg {n:Int} {r:List Int} (h:Lg .falling n r) (h1:1≤n):0≤(zg .falling n r).re:=by
 generalize hl:r.length=m
 induction m generalizing r with
 | zero=>obtain rfl:r=[]:=List.length_eq_zero_iff.mp hl; exact Int.le_refl 0
 | succ m ih=>
  rcases zK r with rfl | ⟨l,z,rfl⟩
  ·cases hl
  ·have hz:=h.fig l.length (by rw [List.length_append]; simp)
   rw [getD_snoc_eq] at hz
   have hz0:0≤z:=hz.1
   have:=ih h.pop (by rw [List.length_append] at hl; exact Nat.succ.inj hl)
   rw [yh]
   have:=Int.mul_nonneg hz0 (show 0≤wf n l.length by have:=(x8 h1 l.length).1; omega)
   omega
theorem Lg.lt {n:Int} (h1:1≤n):∀ (m:Nat) (r:List Int),r.length=m→Lg .falling n r→(zg .falling n r).re<wf n m:=by
 intro m
 induction m using Nat.strongRecOn with
 | ind m ih=>
  intro r hl h
  rcases zK r with rfl | ⟨l,z,rfl⟩
  ·subst hl; show (0:Int)<wf n 0; rw [iW]; decide
  ·have el:l.length+1=m:=by rw [List.length_append] at hl; exact hl
   have hz:=h.fig l.length (by rw [List.length_append]; simp)
   rw [getD_snoc_eq] at hz
   have hz0:0≤z:=hz.1
   have hz1:z≤n:=hz.2
   have il:=ih l.length (by omega) l rfl h.pop
   have wp:=(x8 h1 l.length).1
   rw [yh,← el]
   rcases (by omega:z≤n - 1∨z=n) with c | c
   ·have k1:=Int.mul_le_mul_of_nonneg_right c (show 0≤wf n l.length by omega)
    have k2:(n - 1)*wf n l.length=n*wf n l.length - wf n l.length:=by rw [Int.sub_mul,Int.one_mul]
    have k3:n*wf n l.length<wf n (l.length+1):=by
     cases l.length with
     | zero=>rw [cY,iW]; omega
     | succ q=>rw [cX]; have:=(x8 h1 q).1; omega
    omega
   ·subst c
    rcases zK l with rfl | ⟨l',y,rfl⟩
    ·show (0:Int)+z*wf z 0<wf z 1
     rw [iW,cY]; omega
    ·have hy:=h.fal rfl l'.length (by rw [List.length_append,List.length_append]; simp) (by
      have:=getD_snoc_eq (r:=l'++[y]) (z:=z)
      rw [List.length_append] at this
      exact this)
     rw [zF (by rw [List.length_append]; simp),getD_snoc_eq] at hy
     subst hy
     have i2:=ih l'.length (by rw [List.length_append] at el; simp at el; omega) l' rfl h.pop.pop
     rw [yh,Int.zero_mul,Int.add_zero,List.length_append]
     show _+z*wf z (l'.length+1)<wf z (l'.length+2)
     rw [cX]
     omega
theorem rc {n:Int} (h1:1≤n):∀ (m:Nat) (r s:List Int),r.length=m→s.length=m→Lg .falling n r→Lg .falling n s→(zg .falling n r).re=(zg .falling n s).re→r=s
 | 0,r,s,hr,hs,_,_,_=>by rw [List.length_eq_zero_iff.mp hr,List.length_eq_zero_iff.mp hs]
 | m+1,r,s,hr,hs,Lr,Ls,e=>by
  rcases zK r with rfl | ⟨l,z,rfl⟩
  ·cases hr
  rcases zK s with rfl | ⟨l',z',rfl⟩
  ·cases hs
  have e1:l.length=m:=by rw [List.length_append] at hr; exact Nat.succ.inj hr
  have e2:l'.length=m:=by rw [List.length_append] at hs; exact Nat.succ.inj hs
  rw [yh,yh,e1,e2] at e
  have a1:=Lr.pop.nonneg h1
  have a2:=Lr.pop.lt h1 m l e1
  have b1:=Ls.pop.nonneg h1
  have b2:=Ls.pop.lt h1 m l' e2
  have wp:=(x8 h1 m).1
  have hz:z=z':=by
   rcases (by omega:z=z'∨z+1≤z'∨z'+1≤z) with c | c | c
   ·exact c
   ·have:=Int.mul_le_mul_of_nonneg_right c (show 0≤wf n m by omega)
    rw [Int.add_mul,Int.one_mul] at this
    omega
   ·have:=Int.mul_le_mul_of_nonneg_right c (show 0≤wf n m by omega)
    rw [Int.add_mul,Int.one_mul] at this
    omega
  subst hz
  rw [rc h1 m l l' e1 e2 Lr.pop Ls.pop (by omega)]
theorem Legal.lg {k:Kd} {n:Int} {r:List Int} (h:Legal k n r):Lg k n r:=⟨h.fig,h.fal⟩
theorem Legal.geF {n:Int} {r:List Int} (h:Legal .falling n r) (h1:1≤n) (hr:r≠[]):wf n (r.length - 1)≤(zg .falling n r).re:=by
 rcases zK r with rfl | ⟨l,z,rfl⟩
 ·exact absurd rfl hr
 ·have hz:=h.fig l.length (by rw [List.length_append]; simp)
  rw [getD_snoc_eq] at hz
  have hz0:0≤z:=hz.1
  have el:(l++[z]).length - 1=l.length:=by rw [List.length_append]; rfl
  rcases h.end_ with c | c
  ·exact absurd c hr
  ·rw [el,getD_snoc_eq] at c
   rw [yh,el]
   have a1:=h.lg.pop.nonneg h1
   have wp:=(x8 h1 l.length).1
   have:=Int.mul_le_mul_of_nonneg_right (show 1≤z by omega) (show 0≤wf n l.length by omega)
   omega
theorem nM {n:Int} (h1:1≤n) {i j:Nat} (h:i≤j):wf n i≤wf n j:=by
 induction h with
 | refl=>exact Int.le_refl _
 | step _ ih=>exact Int.le_trans ih (x8 h1 _).2
theorem iY {k:Kd} {n:Int} {r s:List Int} (hn:k.ok n) (hr:Legal k n r) (hs:Legal k n s) (e:zg k n r=zg k n s):r=s:=by
 by_cases hk:k=.falling
 ·subst hk
  have h1:1≤n:=hn.1
  have e':=congrArg Nm.re e
  rcases (by omega:r.length=s.length∨r.length<s.length∨s.length<r.length) with z | z | z
  ·exact rc h1 _ r s z rfl hr.lg hs.lg e'
  ·have a:=hr.lg.lt h1 _ r rfl
   have b:=hs.geF h1 (by intro q; rw [q] at z; simp at z)
   have:=nM h1 (show r.length≤s.length - 1 by omega)
   omega
  ·have a:=hs.lg.lt h1 _ s rfl
   have b:=hr.geF h1 (by intro q; rw [q] at z; simp at z)
   have:=nM h1 (show s.length≤r.length - 1 by omega)
   omega
 ·have h5:k.five=true:=by cases k <;> first | rfl | exact absurd rfl hk
  rw [qX h5,qX h5] at e
  exact h8 (XQ h5 hn r s 0 (fun p hp=>by rw [Nat.zero_add]; exact hr.fig p hp) (fun p hp=>by rw [Nat.zero_add]; exact hs.fig p hp) e) hr.end_ hs.end_
theorem lE {k:Kd} {n:Int} (hn:k.ok n) {j:Nat}:(k=.below∨k=.balanced∨k=.pairs)∨∃ x,wt k n j=.i x∧1≤x:=by
 obtain ⟨b1,b2⟩:=vx hn
 cases k with
 | below=>exact .inl (.inl rfl)
 | balanced=>exact .inl (.inr (.inl rfl))
 | pairs=>exact .inl (.inr (.inr rfl))
 | falling=>exact .inr ⟨_,rfl,(x8 b1 j).1⟩
 | plain=>
  refine .inr ?_
  induction j with
  | zero=>exact ⟨_,rfl,by decide⟩
  | succ j ih=>
   obtain ⟨x,e,h⟩:=ih
   rw [yT rfl,e]
   exact ⟨_,rfl,by show 1≤n*x; have:=Int.mul_le_mul b1 h (by decide) (by omega); omega⟩
 | growing=>
  refine .inr ?_
  induction j with
  | zero=>exact ⟨_,rfl,by decide⟩
  | succ j ih=>
   obtain ⟨x,e,h⟩:=ih
   rw [yT rfl,e]
   exact ⟨_,rfl,by show 1≤(n+(j:Int))*x; have:=Int.mul_le_mul (show 1≤n+(j:Int) by omega) h (by decide) (by omega); omega⟩
def wn (k:Kd):Prop:=k=.plain∨k=.growing
theorem vm {k:Kd} {n:Int} (hk:wn k) (hn:k.ok n) (j:Nat):∃ w,wt k n j=.i w∧1≤w∧wt k n (j+1)=.i (k.rat n j*w)∧k.high n j=k.rat n j - 1∧k.low n j=0:=by
 rcases hk with rfl | rfl
 ·rcases lE hn (j:=j) with (h | h | h) | ⟨w,e,h⟩
  ·cases h
  ·cases h
  ·cases h
  ·exact ⟨w,e,h,by rw [yT rfl,e]; rfl,rfl,rfl⟩
 ·rcases lE hn (j:=j) with (h | h | h) | ⟨w,e,h⟩
  ·cases h
  ·cases h
  ·cases h
  ·exact ⟨w,e,h,by rw [yT rfl,e]; rfl,rfl,rfl⟩
theorem qj {k:Kd} (hk:wn k):k≠.pairs:=by rcases hk with rfl | rfl <;> (intro z; cases z)
theorem bu {k:Kd} (hk:wn k):k.five=true:=by rcases hk with rfl | rfl <;> rfl
theorem qx {k:Kd} {n:Int} {f:Nat→Int} (hk:wn k) (hn:k.ok n):∀ j:Nat,(∀ i:Nat,i<j→k.low n i≤f i∧f i≤k.high n i)→0≤(wF k n f j).re∧(wF k n f j).re<(wt k n j).re
 | 0,_=>by
  obtain ⟨w,e,h,_⟩:=vm hk hn 0
  rw [e]
  show 0≤(k.zero).re∧(k.zero).re<w
  rw [zE]
  omega
 | j+1,h=>by
  obtain ⟨a,b⟩:=qx hk hn j fun i hi=>h i (by omega)
  obtain ⟨w,e,hw,e2,h1,h2⟩:=vm hk hn j
  obtain ⟨f1,f2⟩:=h j (by omega)
  rw [e2]
  have ew:(wF k n f (j+1)).re=(wF k n f j).re+f j*w:=by
   show ((wF k n f j).add ((Nm.i (f j)).mul (wt k n j))).re=_
   rw [zD,e]
   rfl
  rw [ew]
  rw [e] at b
  have b':(wF k n f j).re<w:=b
  rw [h2] at f1
  rw [h1] at f2
  have m1:=Int.mul_nonneg f1 (show 0≤w by omega)
  have m2:=Int.mul_le_mul_of_nonneg_right f2 (show 0≤w by omega)
  rw [Int.sub_mul,Int.one_mul] at m2
  show 0≤_∧_<k.rat n j*w
  omega
theorem vf {k:Kd} {n:Int} {ts:List Nm} (hk:wn k) (hn:k.ok n) (ht:∀ t∈ts,tot k t) (j:Nat):0≤(wN k n ts j).re↔yd k (cAt k n ts j)=true:=by
 have h5:=bu hk
 obtain ⟨t1,_⟩:=c8 h5 hn ht j
 obtain ⟨c,ec⟩:=y3 (qj hk) (zZ k n ts j)
 obtain ⟨w,e,hw,_⟩:=vm hk hn j
 obtain ⟨a,b⟩:=qx (f:=fAt k n ts) hk hn j fun i _=>by
  obtain ⟨s1,s2,_⟩:=x9 (j:=i) h5 hn (xl (zZ k n ts i) (z9 ht i))
  exact ⟨s1,s2⟩
 rw [e] at b
 have b':(wF k n (fAt k n ts) j).re<w:=b
 rw [ec,e,zo] at t1
 have t1':(wN k n ts j).re=(wF k n (fAt k n ts) j).re+(w*c - 0*0):=t1
 rw [ec]
 have hh:yd k (.i c)=decide (0≤c):=by rcases hk with rfl | rfl <;> rfl
 rw [hh,decide_eq_true_iff,t1']
 constructor
 ·intro h
  rcases Int.lt_or_le c 0 with z | z
  ·have:=Int.mul_le_mul_of_nonneg_left (show c≤-1 by omega) (show 0≤w by omega)
   omega
  ·exact z
 ·intro h
  have:=Int.mul_nonneg (show 0≤w by omega) h
  omega
theorem t_ {k:Kd} {m:Nm} (h5:k.five=true) (hk:¬ wn k) (hm:m.ty k):yd k m=true:=by
 cases k with
 | plain=>exact absurd (.inl rfl) hk
 | growing=>exact absurd (.inr rfl) hk
 | falling=>cases h5
 | below=>obtain ⟨a,rfl⟩:=hm; rfl
 | balanced=>obtain ⟨a,rfl⟩:=hm; rfl
 | pairs=>obtain ⟨a,b,rfl⟩:=hm; rfl
theorem c5 (r:List Int):(r.map Nm.i).map Nm.dt=r.map Dt.int:=by rw [List.map_map]; rfl
theorem yk {k:Kd} {r:List Int}:∀ t∈r.map Nm.i,tot k t:=fun t h=>by
 obtain ⟨z,_,e⟩:=List.mem_map.mp h
 rw [← e]
 exact rd k z
theorem nP (k:Kd) (n:Int) (r:List Int):∀ j,wN k n (r.map Nm.i) j=yw k n r j
 | 0=>rfl
 | j+1=>by
  have e:(r.map Nm.i).getD j (.i 0)=.i (r.getD j 0):=by
   rw [List.getD_eq_getElem?_getD,List.getD_eq_getElem?_getD,List.getElem?_map]
   cases r[j]? <;> rfl
  unfold wN yw
  rw [nP k n r j,e]
theorem yg (k:Kd) (n:Int) (r:List Int):zU k n (r.map Nm.i)=zg k n r:=by
 unfold zU zg
 rw [List.length_map,nP]
theorem rB {k:Kd} {n:Int} {r:List Int} (hn:k.ok n) (h:Legal k n r):yd k (zg k n r)=true:=by
 by_cases hf:k=.falling
 ·subst hf
  have:=h.lg.nonneg hn.1
  obtain ⟨a,e⟩:=zA .falling n r
  rw [e] at this ⊢
  exact decide_eq_true this
 ·have h5:k.five=true:=by cases k <;> first | rfl | exact absurd rfl hf
  by_cases hk:wn k
  ·have a:=(qx (f:=fun i=>r.getD i 0) hk hn r.length fun i hi=>h.fig i hi).1
   obtain ⟨x,e⟩:=y3 (qj hk) (zA k n r)
   have:zg k n r=wF k n (fun i=>r.getD i 0) r.length:=wA k n r _
   rw [← this,e] at a
   rw [e]
   have a':0≤x:=a
   rcases hk with rfl | rfl <;> exact decide_eq_true a'
  ·exact t_ h5 hk (zA k n r)
theorem lu {k:Kd} {n:Int} {r:List Int} (hn:k.ok n) (h:Legal k n r) (hl:r.length≤2000):∀ t∈r,t.natAbs≤4000:=by
 intro t ht
 obtain ⟨i,hi,e⟩:=List.getElem_of_mem ht
 have f:=h.fig i hi
 have eg:r.getD i 0=t:=by rw [List.getD_eq_getElem?_getD,List.getElem?_eq_getElem hi,e]; rfl
 rw [eg] at f
 obtain ⟨b1,b2⟩:=vx hn
 have sq:n*n≤3600:=by have:=Int.mul_le_mul b2 b2 (by omega) (by omega); omega
 cases k <;> simp only [Kd.low,Kd.high] at f <;> omega
abbrev Stp:=Bool × Nat
def hf (h:List Int) (p:Nat):Int:=h.getD p 0
def pt (a:Nat) (c:Int) (i:Nat):Int:=if i=a then c else 0
def chg (n:Int):Stp→List (Nat × Int)
 | (true,p)=>[(p+1,1),(p,-n),(p - 1,-1)]
 | (false,0)=>[(1,1),(0,-n - 1)]
 | (false,1)=>[(2,1),(1,-n - 1),(0,n)]
 | (false,p+2)=>[(p+3,1),(p+2,-n - 1),(p+1,n - 1),(p,1)]
def VS:List (Nat × Int)→Nat→Int
 | [],_=>0
 | x::l,i=>pt x.1 x.2 i+VS l i
def dlt (n:Int) (s:Stp) (i:Nat):Int:=VS (chg n s) i
def Can (n:Int):Stp→(Nat→Int)→Prop
 | (true,p),f=>0<p∧n≤f p∧0<f (p - 1)
 | (false,p),f=>n<f p
def sm (w f:Nat→Int):Nat→Int
 | 0=>0
 | m+1=>sm w f m+f m*w m
theorem tD (w f g:Nat→Int):∀ m,sm w (fun i=>f i+g i) m=sm w f m+sm w g m
 | 0=>rfl
 | m+1=>by
  show sm w (fun i=>f i+g i) m+(f m+g m)*w m=(sm w f m+f m*w m)+(sm w g m+g m*w m)
  rw [tD w f g m,Int.add_mul]
  omega
theorem lQ (w:Nat→Int) (a:Nat) (c:Int):∀ m,sm w (pt a c) m=if a<m then c*w a else 0
 | 0=>by rw [if_neg (Nat.not_lt_zero _)]; rfl
 | m+1=>by
  show sm w (pt a c) m+pt a c m*w m=_
  rw [lQ w a c m]
  unfold pt
  by_cases h:m=a
  ·subst h
   rw [if_neg (Nat.lt_irrefl _),if_pos rfl,if_pos (Nat.lt_succ_self _)]
   omega
  ·rw [if_neg h,Int.zero_mul]
   by_cases h2:a<m
   ·rw [if_pos h2,if_pos (by omega)]; omega
   ·rw [if_neg h2,if_neg (by omega)]; omega
theorem Xq {n:Int} {p:Nat} (h:0<p):dlt n (true,p) p=-n∧dlt n (true,p) (p - 1)=-1∧∀ i,i≠p→i≠p - 1→0≤dlt n (true,p) i:=by
 refine ⟨?_,?_,fun i h1 h2=>?_⟩
 ·show pt (p+1) 1 p+(pt p (-n) p+(pt (p - 1) (-1) p+0))=-n
  unfold pt
  rw [if_neg (by omega),if_pos rfl,if_neg (by omega)]
  omega
 ·show pt (p+1) 1 (p - 1)+(pt p (-n) (p - 1)+(pt (p - 1) (-1) (p - 1)+0))=-1
  unfold pt
  rw [if_neg (by omega),if_neg (by omega),if_pos rfl]
  omega
 ·show 0≤pt (p+1) 1 i+(pt p (-n) i+(pt (p - 1) (-1) i+0))
  unfold pt
  rw [if_neg h1,if_neg h2]
  split <;> omega
theorem ip {n:Int} (hn:1≤n) (p:Nat):dlt n (false,p) p=-n - 1∧∀ i,i≠p→0≤dlt n (false,p) i:=by
 match p with
 | 0=>
  refine ⟨?_,fun i h1=>?_⟩
  ·show pt 1 1 0+(pt 0 (-n - 1) 0+0)=_
   unfold pt
   rw [if_neg (by omega),if_pos rfl]
   omega
  ·show 0≤pt 1 1 i+(pt 0 (-n - 1) i+0)
   unfold pt
   rw [if_neg h1]
   split <;> omega
 | 1=>
  refine ⟨?_,fun i h1=>?_⟩
  ·show pt 2 1 1+(pt 1 (-n - 1) 1+(pt 0 n 1+0))=_
   unfold pt
   rw [if_neg (by omega),if_pos rfl,if_neg (by omega)]
   omega
  ·show 0≤pt 2 1 i+(pt 1 (-n - 1) i+(pt 0 n i+0))
   unfold pt
   rw [if_neg h1]
   split <;> split <;> omega
 | q+2=>
  refine ⟨?_,fun i h1=>?_⟩
  ·show pt (q+3) 1 (q+2)+(pt (q+2) (-n - 1) (q+2)+(pt (q+1) (n - 1) (q+2)+(pt q 1 (q+2)+0)))=_
   unfold pt
   rw [if_neg (by omega),if_pos rfl,if_neg (by omega),if_neg (by omega)]
   omega
  ·show 0≤pt (q+3) 1 i+(pt (q+2) (-n - 1) i+(pt (q+1) (n - 1) i+(pt q 1 i+0)))
   unfold pt
   rw [if_neg h1]
   split <;> split <;> split <;> omega
def Oft (n:Int):Stp→(Nat→Int)→Int→Prop
 | (true,p),f,m=>0<p∧m*n≤f p∧m≤f (p - 1)
 | (false,p),f,m=>m*(n+1)≤f p
theorem Oft.up {n m:Int} {s:Stp} {f:Nat→Int} (h:Oft n s f m):s.1=true→0<s.2:=by
 match s,h with
 | (true,p),h=>exact fun _=>h.1
 | (false,p),_=>exact fun z=>Bool.noConfusion z
theorem Oft.nonneg {n m:Int} (hn:1≤n) (hm:0≤m) {s:Stp} {f:Nat→Int} (h:Oft n s f m) (hf0:∀ i,0≤f i) (i:Nat):0≤f i+m*dlt n s i:=by
 have pos:∀ d:Int,0≤d→0≤f i+m*d:=fun d hd=>by
  have:=Int.mul_nonneg hm hd
  have:=hf0 i
  omega
 match s,h with
 | (true,p),⟨h1,h2,h3⟩=>
  obtain ⟨a,b,c⟩:=Xq (n:=n) h1
  by_cases e1:i=p
  ·subst e1; rw [a,Int.mul_neg]; omega
  by_cases e2:i=p - 1
  ·subst e2; rw [b,Int.mul_neg,Int.mul_one]; omega
  exact pos _ (c i e1 e2)
 | (false,p),h=>
  obtain ⟨a,c⟩:=ip hn p
  by_cases e1:i=p
  ·subst e1
   rw [a,show -n - 1=-(n+1) by omega,Int.mul_neg]
   have:m*(n+1)≤f i:=h
   omega
  exact pos _ (c i e1)
def Walk (n:Int):(Nat→Int)→List Stp→(Nat→Int)→Prop
 | f,[],g=>f=g
 | f,s::ss,g=>Can n s f∧Walk n (fun i=>f i+dlt n s i) ss g
theorem Walk.append {n:Int} {g k:Nat→Int} {ts:List Stp} (h2:Walk n g ts k):∀ {ss:List Stp} {f:Nat→Int},Walk n f ss g→Walk n f (ss++ts) k
 | [],_,h=>by rw [show _=g from h]; exact h2
 | s::ss,_,h=>⟨h.1,Walk.append h2 h.2⟩
theorem yc {h:List Int} {i:Nat} (hi:h.length≤i):hf h i=0:=by unfold hf; rw [List.getD_eq_getElem?_getD,List.getElem?_eq_none hi]; rfl
theorem oE (w:Nat→Int) {f:Nat→Int} {k:Nat} (h:∀ i,k≤i→f i=0):∀ m,k≤m→sm w f m=sm w f k
 | 0,hm=>by rw [show k=0 by omega]
 | m+1,hm=>by
  by_cases e:k=m+1
  ·rw [e]
  ·show sm w f m+f m*w m=_
   rw [h m (by omega),Int.zero_mul,oE w h m (by omega)]
   omega
def hw (n:Int) (h:List Int):Int:=sm (wf n) (hf h) h.length
theorem Xk (l:List Int) (k i:Nat):hf (l++List.replicate k 0) i=hf l i:=by
 unfold hf
 rw [List.getD_eq_getElem?_getD,List.getD_eq_getElem?_getD]
 by_cases h:i<l.length
 ·rw [List.getElem?_append_left h]
 ·rw [List.getElem?_append_right (by omega),List.getElem?_eq_none (show l.length≤i by omega),List.getElem?_replicate]
  split <;> rfl
theorem Xi {l:List Int} {p:Nat} (h:p<l.length) (c:Int) (i:Nat):hf (l.set p (hf l p+c)) i=hf l i+pt p c i:=by
 unfold hf pt
 rw [List.getD_eq_getElem?_getD,List.getD_eq_getElem?_getD,List.getD_eq_getElem?_getD]
 by_cases e:i=p
 ·subst e
  rw [List.getElem?_set_self h,if_pos rfl]
  rfl
 ·rw [List.getElem?_set_ne (fun z=>e z.symm),if_neg e]
  omega
theorem Can.pos {n:Int} (hn:1≤n) {s:Stp} {f:Nat→Int} (h:Can n s f):0<f s.2:=by
 match s,h with
 | (true,p),⟨_,h2,_⟩=>show 0<f p; omega
 | (false,p),h=>
  have h:n<f p:=h
  show 0<f p; omega
theorem jP (k:Kd):yd k k.zero=true:=by cases k <;> rfl
def z4 (a b:List Int):List Int:=(List.range (max a.length b.length)).map fun p=>a.getD p 0+b.getD p 0
theorem wk (a b:List Int):(z4 a b).length=max a.length b.length:=by unfold z4; rw [List.length_map,List.length_range]
theorem mi (a b:List Int) (p:Nat):hf (z4 a b) p=hf a p+hf b p:=by
 by_cases h:p<max a.length b.length
 ·unfold hf z4
  rw [List.getD_eq_getElem?_getD,List.getElem?_map,List.getElem?_range h]
  rfl
 ·rw [yc (by rw [wk]; omega),yc (by omega),yc (by omega)]
  rfl
theorem nK (k:Kd) (n:Int) (ns:List Int):∀ j,(yw k n ns j).re=sm (fun i=>(wt k n i).re) (hf ns) j
 | 0=>zE k
 | j+1=>by
  show ((yw k n ns j).add ((Nm.i (ns.getD j 0)).mul (wt k n j))).re=_
  rw [zD,zo,nK k n ns j]
  show _+(hf ns j*(wt k n j).re - 0*(wt k n j).im)=_
  rw [Int.zero_mul,Int.sub_zero]
  rfl
theorem nL (k:Kd) (n:Int) (ns:List Int):∀ j,(yw k n ns j).im=sm (fun i=>(wt k n i).im) (hf ns) j
 | 0=>zH k
 | j+1=>by
  show ((yw k n ns j).add ((Nm.i (ns.getD j 0)).mul (wt k n j))).im=_
  rw [zL,zu,nL k n ns j]
  show _+(hf ns j*(wt k n j).im+0*(wt k n j).re)=_
  rw [Int.zero_mul,Int.add_zero]
  rfl
theorem yj {k:Kd} {n:Int} {r:List Int} {m:Nat} (h:r.length≤m):(zg k n r).re=sm (fun i=>(wt k n i).re) (hf r) m:=by
 rw [oE _ (fun i hi=>yc hi) m h]; exact nK k n r _
theorem yI {k:Kd} {n:Int} {r:List Int} {m:Nat} (h:r.length≤m):(zg k n r).im=sm (fun i=>(wt k n i).im) (hf r) m:=by
 rw [oE _ (fun i hi=>yc hi) m h]; exact nL k n r _
theorem sw {k:Kd} {a b:Nm} (ha:a.ty k) (hb:b.ty k):(a.add b).ty k:=xl ha (zJ hb)
theorem tm (k:Kd) (n:Int) (a b:List Int):zg k n (z4 a b)=(zg k n a).add (zg k n b):=by
 have e:hf (z4 a b)=fun p=>hf a p+hf b p:=funext (mi a b)
 have hl:=wk a b
 refine yN (zA k n _) (sw (zA k n a) (zA k n b)) ?_ ?_
 ·rw [zD,yj (m:=(z4 a b).length) (Nat.le_refl _),yj (r:=a) (m:=(z4 a b).length) (by omega),yj (r:=b) (m:=(z4 a b).length) (by omega),e,tD]
 ·rw [zL,yI (m:=(z4 a b).length) (Nat.le_refl _),yI (r:=a) (m:=(z4 a b).length) (by omega),yI (r:=b) (m:=(z4 a b).length) (by omega),e,tD]
theorem yi {k:Kd} {n:Int} {r:List Int} (hn:k.ok n) (h:Legal k n r) (hk:wn k):0≤(zg k n r).re:=by
 have:=rB hn h
 obtain ⟨a,e⟩:=y3 (qj hk) (zA k n r)
 rw [e] at this ⊢
 rcases hk with rfl | rfl <;> exact of_decide_eq_true this
theorem lf (k:Kd) (n:Int):Legal k n []:=⟨fun p h=>absurd h (Nat.not_lt_zero _),fun _ p h=>absurd h (Nat.not_lt_zero _),.inl rfl⟩
theorem tL {a b:List Int} {z:Int} (h:z∈z4 a b):∃ p,z=hf a p+hf b p:=by
 unfold z4 at h
 obtain ⟨p,_,rfl⟩:=List.mem_map.mp h
 exact ⟨p,rfl⟩
theorem vF {k:Kd} {n:Int} {r:List Int} (hn:k.ok n) (h:Legal k n r) (hl:r.length≤2000) (p:Nat):(hf r p).natAbs≤4000:=by
 by_cases hp:p<r.length
 ·refine lu hn h hl _ ?_
  unfold hf
  rw [List.getD_eq_getElem?_getD,List.getElem?_eq_getElem hp]
  exact List.getElem_mem _
 ·rw [yc (by omega)]; decide
theorem Vo {n:Int} {r:List Int} (hn:Kd.falling.ok n) (h:Legal .falling n r) (p:Nat):0≤hf r p∧hf r p≤n:=by
 by_cases hp:p<r.length
 ·exact h.fig p hp
 ·have:=hn.1
  rw [yc (by omega)]
  exact ⟨Int.le_refl _,by show 0≤n; simp only [Kd.lo] at this; omega⟩
theorem iZ {k:Kd} {a b:Nm} (ha:tot k a) (hb:tot k b):tot k (a.add b):=fun hk=>by
 obtain ⟨x,rfl⟩:=ha hk
 obtain ⟨y,rfl⟩:=hb hk
 exact ⟨_,rfl⟩
def wQ (a b:List Nm):List Nm:=(List.range (max a.length b.length)).map fun p=>(a.getD p (.i 0)).add (b.getD p (.i 0))
theorem tZ (a b:List Nm):(wQ a b).length=max a.length b.length:=by unfold wQ; rw [List.length_map,List.length_range]
theorem jD (a b:List Nm) (p:Nat):(wQ a b).getD p (.i 0)=(a.getD p (.i 0)).add (b.getD p (.i 0)):=by
 by_cases h:p<max a.length b.length
 ·unfold wQ
  rw [List.getD_eq_getElem?_getD,List.getElem?_map,List.getElem?_range h]
  rfl
 ·have e:∀ {l:List Nm},l.length≤p→l.getD p (.i 0)=.i 0:=fun h=>by rw [List.getD_eq_getElem?_getD,List.getElem?_eq_none h]; rfl
  rw [e (by rw [tZ]; omega),e (by omega),e (by omega)]
  rfl
theorem pL {a b:List Nm} {t:Nm} (h:t∈wQ a b):∃ p,t=(a.getD p (.i 0)).add (b.getD p (.i 0)):=by
 unfold wQ at h
 obtain ⟨p,_,rfl⟩:=List.mem_map.mp h
 exact ⟨p,rfl⟩
theorem pK {k:Kd} {a b:List Nm} (ha:∀ t∈a,tot k t) (hb:∀ t∈b,tot k t):∀ t∈wQ a b,tot k t:=fun t h=>by
 obtain ⟨p,rfl⟩:=pL h
 exact iZ (z9 ha p) (z9 hb p)
theorem nO (k:Kd) (n:Int) (a b:List Nm):∀ j,(wN k n (wQ a b) j).re=(wN k n a j).re+(wN k n b j).re∧(wN k n (wQ a b) j).im=(wN k n a j).im+(wN k n b j).im
 | 0=>by
  show (k.zero).re=(k.zero).re+(k.zero).re∧(k.zero).im=(k.zero).im+(k.zero).im
  rw [zE,zH]
  exact ⟨rfl,rfl⟩
 | j+1=>by
  obtain ⟨h1,h2⟩:=nO k n a b j
  unfold wN
  rw [jD]
  simp only [zD,zL,zo,zu,h1,h2]
  constructor <;> grind
theorem ra {k:Kd} {n:Int} {a:List Nm} (ha:∀ t∈a,tot k t) {m:Nat} (h:a.length≤m):wN k n a m=zU k n a:=by
 obtain ⟨d,rfl⟩:∃ d,m=a.length+d:=⟨m - a.length,by omega⟩
 exact oz ha d
theorem qZ {k:Kd} {n:Int} {a b:List Nm} (ha:∀ t∈a,tot k t) (hb:∀ t∈b,tot k t):zU k n (wQ a b)=(zU k n a).add (zU k n b):=by
 have hl:=tZ a b
 obtain ⟨h1,h2⟩:=nO k n a b (wQ a b).length
 rw [ra ha (by omega),ra hb (by omega)] at h1 h2
 exact yN (tq (pK ha hb) _) (sw (tq ha _) (tq hb _)) (h1.trans (zD ..).symm) (h2.trans (zL ..).symm)
theorem rp (a b:List Int):wQ (a.map Nm.i) (b.map Nm.i)=(z4 a b).map Nm.i:=by
 have e:∀ (l:List Int) (p:Nat),(l.map Nm.i).getD p (.i 0)=.i (l.getD p 0):=fun l p=>by
  rw [List.getD_eq_getElem?_getD,List.getD_eq_getElem?_getD,List.getElem?_map]
  cases l[p]? <;> rfl
 unfold wQ z4
 rw [List.map_map,List.length_map,List.length_map]
 refine List.map_congr_left fun p _=>?_
 rw [e,e]
 rfl
theorem xJ (r:List Int):zt r=vn (r.map Nm.i):=by unfold zt vn; rw [c5]
theorem wD {k:Kd} {t w:Nm} (ht:t.ty k) (hw:tot k w):(t.mul w).ty k:=by
 by_cases hk:k=.pairs
 ·subst hk
  obtain ⟨a,b,rfl⟩:=ht
  cases w <;> exact ⟨_,_,rfl⟩
 ·obtain ⟨a,rfl⟩:=hw hk
  obtain ⟨b,rfl⟩:=y3 hk ht
  exact xI hk
def xn (a:List Int) (f:Nm):List Nm:=a.map fun z=>(Nm.i z).mul f
theorem wj (a:List Int) (f:Nm):(xn a f).length=a.length:=List.length_map _
theorem tK {k:Kd} {a:List Int} {f:Nm} (hf:tot k f):∀ t∈xn a f,tot k t:=fun t h hk=>by
 obtain ⟨z,_,rfl⟩:=List.mem_map.mp h
 obtain ⟨y,rfl⟩:=hf hk
 exact ⟨_,rfl⟩
theorem l4 (a:List Int) (f:Nm) {p:Nat} (h:p<a.length):(xn a f).getD p (.i 0)=(Nm.i (a.getD p 0)).mul f:=by
 unfold xn
 rw [List.getD_eq_getElem?_getD,List.getElem?_map,List.getD_eq_getElem?_getD,List.getElem?_eq_getElem h]
 rfl
theorem lZ (a:List Int) (f:Nm) {p:Nat} (h:a.length≤p):(xn a f).getD p (.i 0)=.i 0:=by
 rw [List.getD_eq_getElem?_getD,List.getElem?_eq_none (by rw [wj]; exact h)]
 rfl
theorem qd (a:List Int) (f:Nm) (p:Nat):((xn a f).getD p (.i 0)).re=hf a p*f.re∧((xn a f).getD p (.i 0)).im=hf a p*f.im:=by
 by_cases h:p<a.length
 ·rw [l4 a f h,zo,zu]
  show a.getD p 0*f.re - 0*f.im=_∧a.getD p 0*f.im+0*f.re=_
  rw [Int.zero_mul,Int.zero_mul,Int.sub_zero,Int.add_zero]
  exact ⟨rfl,rfl⟩
 ·rw [lZ a f (by omega),yc (by omega),Int.zero_mul,Int.zero_mul]
  exact ⟨rfl,rfl⟩
theorem nN (k:Kd) (n:Int) (a:List Int) (f:Nm):∀ j,(wN k n (xn a f) j).re=(yw k n a j).re*f.re - (yw k n a j).im*f.im∧(wN k n (xn a f) j).im=(yw k n a j).re*f.im+(yw k n a j).im*f.re
 | 0=>by
  show (k.zero).re=(k.zero).re*_ - (k.zero).im*_∧(k.zero).im=(k.zero).re*_+(k.zero).im*_
  rw [zE,zH,Int.zero_mul,Int.zero_mul]
  exact ⟨rfl,rfl⟩
 | j+1=>by
  obtain ⟨h1,h2⟩:=nN k n a f j
  obtain ⟨r1,r2⟩:=qd a f j
  unfold wN yw
  simp only [zD,zL,zo,zu,h1,h2,r1,r2]
  show _=(_+(hf a j*_ - 0*_))*_ - (_+(hf a j*_+0*_))*_∧_=(_+(hf a j*_ - 0*_))*_+(_+(hf a j*_+0*_))*_
  constructor <;> grind
theorem uB {k:Kd} {n:Int} (a:List Int) {f:Nm} (hf:tot k f):zU k n (xn a f)=(zg k n a).mul f:=by
 obtain ⟨h1,h2⟩:=nN k n a f a.length
 have e:zU k n (xn a f)=wN k n (xn a f) a.length:=by unfold zU; rw [wj]
 rw [e]
 exact yN (tq (tK hf) _) (wD (zA k n a) hf) (h1.trans (zo ..).symm) (h2.trans (zu ..).symm)
def hv (k:Kd) (n:Int) (o:List Int):Nat→Nat→Nm
 | 0,_=>k.zero
 | m+1,p=>(Nm.i (o.getD p 0)).add ((k.ratN n p).mul (hv k n o m (p+1)))
theorem uT (k:Kd) (n:Int) (p:Int):tot k (k.ratN n p):=fun hk=>by cases k <;> first | exact ⟨_,rfl⟩ | exact absurd rfl hk
theorem mf (k:Kd) (n:Int) (o:List Int):∀ m p,(hv k n o m p).ty k
 | 0,_=>z5 k
 | m+1,p=>by
  have h:=wq (uT k n p) (mf k n o m (p+1))
  unfold hv
  by_cases hk:k=.pairs
  ·subst hk
   obtain ⟨a,b,e⟩:=h
   rw [e]
   exact ⟨_,_,rfl⟩
  ·obtain ⟨a,e⟩:=y3 hk h
   rw [e]
   exact xI hk
theorem pY {k:Kd} {n:Int} {o:List Int} (h5:k.five=true):∀ m p,p+m=o.length→(zg k n o).re=(yw k n o p).re+((wt k n p).re*(hv k n o m p).re - (wt k n p).im*(hv k n o m p).im)∧(zg k n o).im=(yw k n o p).im+((wt k n p).re*(hv k n o m p).im+(wt k n p).im*(hv k n o m p).re)
 | 0,p,h=>by
  obtain rfl:p=o.length:=h
  show (yw k n o o.length).re=_+(_*(k.zero).re - _*(k.zero).im)∧(yw k n o o.length).im=_+(_*(k.zero).im+_*(k.zero).re)
  rw [zE,zH,Int.mul_zero,Int.mul_zero]
  constructor <;> omega
 | m+1,p,h=>by
  obtain ⟨h1,h2⟩:=pY (n:=n) (o:=o) h5 m (p+1) (by omega)
  rw [h1,h2,yT h5]
  have e0:hv k n o (m+1) p=(Nm.i (o.getD p 0)).add ((k.ratN n p).mul (hv k n o m (p+1))):=rfl
  rw [e0]
  simp only [zD,zL,zo,zu]
  have e:yw k n o (p+1)=(yw k n o p).add ((Nm.i (o.getD p 0)).mul (wt k n p)):=rfl
  rw [e]
  simp only [zD,zL,zo,zu]
  have i1:(Nm.i (o.getD p 0)).re=o.getD p 0:=rfl
  have i2:(Nm.i (o.getD p 0)).im=0:=rfl
  rw [i1,i2]
  generalize hv k n o m (p+1)=V
  generalize k.ratN n p=R
  generalize wt k n p=W
  generalize yw k n o p=S
  constructor <;> grind
theorem o_ {k:Kd} {n:Int} {o:List Int} (h5:k.five=true):zg k n o=hv k n o o.length 0:=by
 obtain ⟨h1,h2⟩:=pY (n:=n) (o:=o) h5 o.length 0 (Nat.zero_add _)
 have z1:(yw k n o 0).re=0:=zE k
 have z2:(yw k n o 0).im=0:=zH k
 have e:wt k n 0=k.zero.add (.i 1):=by cases k <;> first | rfl | cases h5
 have r1:(wt k n 0).re=1:=by rw [e,zD,zE]; rfl
 have r2:(wt k n 0).im=0:=by rw [e,zL,zH]; rfl
 rw [z1,r1,r2] at h1
 rw [z2,r1,r2] at h2
 exact yN (zA k n o) (mf k n o _ _) (by omega) (by omega)
theorem cF {k:Kd} {n:Int} {o:List Int} (hk:wn k) (hn:k.ok n) (h:∀ p,0≤hf o p):∀ m p,0≤(hv k n o m p).re∧(hv k n o m p).im=0
 | 0,p=>by
  show 0≤(k.zero).re∧(k.zero).im=0
  rw [zE,zH]
  exact ⟨Int.le_refl _,rfl⟩
 | m+1,p=>by
  obtain ⟨a,b⟩:=cF hk hn h m (p+1)
  obtain ⟨b1,b2⟩:=vx hn
  unfold hv
  rw [zD,zL,zo,zu,b]
  have h0:0≤o.getD p 0:=h p
  have hr:0≤(k.ratN n p).re∧(k.ratN n p).im=0:=by
   rcases hk with rfl | rfl
   ·exact ⟨by show 0≤n; omega,rfl⟩
   ·exact ⟨by show 0≤n+(p:Int); omega,rfl⟩
  rw [hr.2]
  have:=Int.mul_nonneg hr.1 a
  show 0≤o.getD p 0+(_ - 0*0)∧0+(_*0+0*_)=0
  simp only [Int.mul_zero,Int.zero_mul]
  exact ⟨by omega,rfl⟩
theorem qy {k:Kd} {n:Int} {o:List Int} (hn:k.ok n) (h:Legal k n o) (hl:o.length≤63) (p:Nat):(hf o p).natAbs≤122∧(k=.pairs→(hf o p).natAbs≤81):=by
 by_cases hp:p<o.length
 ·have f:=h.fig p hp
  unfold hf
  obtain ⟨h1,h2⟩:=hn
  generalize o.getD p 0=z at *
  cases k <;> simp only [Kd.low,Kd.high,Kd.lo,Kd.hi] at * <;> first | (refine ⟨by omega,fun h=>by cases h⟩) | (have:=Int.mul_le_mul h2 h2 (by omega) (by omega); exact ⟨by omega,fun _=>by omega⟩)
 ·rw [yc (by omega)]
  exact ⟨by decide,fun _=>by decide⟩
theorem yq {x c:Int} {y A:Nat} (h:c.natAbs≤A) (hy:x.natAbs≤y):(c*x).natAbs≤A*y:=by rw [Int.natAbs_mul]; exact Nat.mul_le_mul h hy
theorem o9 {k:Kd} {n:Int} {o:List Int} (h4:k.four=true) (hn:k.ok n) (hf7:∀ p,(hf o p).natAbs≤122):∀ m p,p+m≤63→(hv k n o m p).re.natAbs≤2 ^ (7*m+5)∧(hv k n o m p).im=0
 | 0,p,_=>by
  show (k.zero).re.natAbs≤_∧(k.zero).im=0
  rw [zE,zH]
  exact ⟨Nat.zero_le _,rfl⟩
 | m+1,p,hp=>by
  obtain ⟨a,b⟩:=o9 h4 hn hf7 m (p+1) (by omega)
  unfold hv
  rw [zD,zL,zo,zu,b]
  have h0:(o.getD p 0).natAbs≤122:=hf7 p
  have hr:(k.ratN n p).re.natAbs≤123∧(k.ratN n p).im=0:=by
   obtain ⟨h1,h2⟩:=hn
   cases k <;> simp only [Kd.lo,Kd.hi] at h1 h2 <;> first | exact ⟨by simp only [Kd.ratN,Kd.rat,Nm.re]; omega,rfl⟩ | cases h4
  rw [hr.2]
  have m1:=yq hr.1 a
  have e:2 ^ (7*(m+1)+5)=128*2 ^ (7*m+5):=by rw [show 7*(m+1)+5=7+(7*m+5) by omega,Nat.pow_add]
  have e2:32≤2 ^ (7*m+5):=Nat.le_trans (show 32≤2 ^ 5 by decide) (Nat.pow_le_pow_right (by decide) (by omega))
  rw [e]
  generalize 2 ^ (7 * m + 5)=X at *
  generalize (k.ratN n p).re * (hv k n o m (p + 1)).re=Y at *
  show (o.getD p 0+(Y - 0*0)).natAbs≤_∧0+(_*0+0*_)=(0:Int)
  simp only [Int.mul_zero,Int.zero_mul]
  exact ⟨by omega,rfl⟩
theorem o8 {n:Int} {o:List Int} (hn:Kd.pairs.ok n) (hf7:∀ p,(hf o p).natAbs≤81):∀ m p,(hv .pairs n o m p).re.natAbs≤2 ^ (4*m+4)∧(hv .pairs n o m p).im.natAbs≤2 ^ (4*m+4)
 | 0,p=>⟨Nat.zero_le _,Nat.zero_le _⟩
 | m+1,p=>by
  obtain ⟨a,b⟩:=o8 hn hf7 m (p+1)
  unfold hv
  rw [zD,zL,zo,zu]
  have h0:(o.getD p 0).natAbs≤81:=hf7 p
  have n1:(1:Int)≤n:=hn.1
  have n9:n≤9:=hn.2
  have hr:(Kd.ratN .pairs n p).re.natAbs≤9:=by show (-n).natAbs≤9; omega
  have hi:(Kd.ratN .pairs n p).im.natAbs≤1:=Nat.le_refl 1
  have m1:=yq hr a
  have m2:=yq hr b
  have m3:=yq hi a
  have m4:=yq hi b
  have e:2 ^ (4*(m+1)+4)=16*2 ^ (4*m+4):=by rw [show 4*(m+1)+4=4+(4*m+4) by omega,Nat.pow_add]
  have e2:16≤2 ^ (4*m+4):=Nat.le_trans (show 16≤2 ^ 4 by decide) (Nat.pow_le_pow_right (by decide) (by omega))
  rw [e]
  generalize 2 ^ (4 * m + 4)=X at *
  generalize (Kd.ratN .pairs n p).re * (hv .pairs n o m (p + 1)).re=Y1 at *
  generalize (Kd.ratN .pairs n p).re * (hv .pairs n o m (p + 1)).im=Y2 at *
  generalize (Kd.ratN .pairs n p).im * (hv .pairs n o m (p + 1)).re=Y3 at *
  generalize (Kd.ratN .pairs n p).im * (hv .pairs n o m (p + 1)).im=Y4 at *
  show (o.getD p 0+(Y1 - Y4)).natAbs≤_∧(0+(Y2+Y3)).natAbs≤_
  exact ⟨by omega,by omega⟩
theorem rA {k:Kd} {n:Int} {r:List Int} {b:Nat} (h5:k.five=true) (hn:k.ok n) (h:Legal k n r) (hb:(zg k n r).re.natAbs≤2 ^ b∧(zg k n r).im.natAbs≤2 ^ b) (b7:7≤b):r.length≤4*b+31∧(k≠.pairs→r.length≤b+4):=by
 have hh:=rB hn h
 obtain ⟨J,F,h1,h2⟩:=lR h5 hn hh hb b7
 have ht:∀ t∈[zg k n r],tot k t:=fun t h=>by rw [List.mem_singleton.mp h]; exact zJ (zA k n r)
 have e:vW k n [zg k n r] J=r:=iY hn (w6 h5 hn ht) h (by rw [wZ F h5 hn ht,oy (zA k n r) h5])
 have l:=tw (yP k n [zg k n r] J)
 rw [xh] at l
 have l2:r.length≤J:=by
  have:(vW k n [zg k n r] J).length≤J:=l
  rw [e] at this
  exact this
 exact ⟨by omega,fun z=>by have:=h2 z; omega⟩
def few (k:Kd) (x y:Nat):Prop:=x≤63∧y≤63∧x+y≤100∧(k=.pairs→x+y≤50)
theorem kh {k:Kd} {n:Int} {a o r:List Int} {m p:Nat} (h5:k.five=true) (hn:k.ok n) (ha:Legal k n a) (ho:Legal k n o) (hp:p+m=o.length) (hw:few k a.length o.length) (hr:Legal k n r) (e:zg k n r=(zg k n a).mul (hv k n o m p)):r.length≤870:=by
 obtain ⟨w1,w2,w3,w4⟩:=hw
 have fa:=qy hn ha w1
 have fo:=qy hn ho w2
 by_cases hk:k=.pairs
 ·subst hk
  have:=w4 rfl
  obtain ⟨a1,a2⟩:=o8 hn (fun p=>(fa p).2 rfl) a.length 0
  obtain ⟨o1,o2⟩:=o8 hn (fun p=>(fo p).2 rfl) m p
  rw [← o_ rfl] at a1 a2
  have:=rA (b:=209) rfl hn hr (by
   rw [e,zo,zu]
   have m1:=yq a1 o1
   have m2:=yq a2 o2
   have m3:=yq a1 o2
   have m4:=yq a2 o1
   have q:2 ^ (4*a.length+4)*2 ^ (4*m+4)≤2 ^ 208:=by rw [← Nat.pow_add]; exact Nat.pow_le_pow_right (by decide) (by omega)
   have q2:2 ^ 209=2*2 ^ 208:=by decide
   rw [q2]
   generalize 2 ^ 208=X at *
   generalize 2 ^ (4 * a.length + 4) * 2 ^ (4 * m + 4)=Z at *
   exact ⟨by omega,by omega⟩) (by decide)
  omega
 ·have h4:=vC h5 hk
  obtain ⟨a1,a2⟩:=o9 h4 hn (fun p=>(fa p).1) a.length 0 (by omega)
  obtain ⟨o1,o2⟩:=o9 h4 hn (fun p=>(fo p).1) m p (by omega)
  rw [← o_ h5] at a1 a2
  have:=(rA (b:=710) h5 hn hr (by
   rw [e,zo,zu,a2,o2,Int.mul_zero,Int.mul_zero,Int.zero_mul]
   have m1:=yq a1 o1
   have q:2 ^ (7*a.length+5)*2 ^ (7*m+5)≤2 ^ 710:=by rw [← Nat.pow_add]; exact Nat.pow_le_pow_right (by decide) (by omega)
   exact ⟨by rw [Int.sub_zero]; exact Nat.le_trans m1 q,Nat.zero_le _⟩) (by decide)).2 hk
  omega
theorem Vc {k:Kd} {m:Nm} (h:m.ty k):m.mul k.zero=k.zero:=by
 refine yN (wD h (zJ (z5 k))) (z5 k) ?_ ?_
 ·rw [zo,zE,zH,Int.mul_zero,Int.mul_zero]; rfl
 ·rw [zu,zE,zH,Int.mul_zero,Int.mul_zero]; rfl
theorem d6 {k:Kd} {A V R:Nm} {o:Int} (hA:A.ty k) (hV:V.ty k) (hR:tot k R) (h2:((Nm.i o).add (R.mul V)).ty k):((A.mul V).mul R).add (A.mul (.i o))=A.mul ((Nm.i o).add (R.mul V)):=by
 refine yN (sw (wD (wD hA (zJ hV)) hR) (wD hA (rd k o))) (wD hA (zJ h2)) ?_ ?_
 all_goals
  simp only [zD,zL,zo,zu]
  have i1:(Nm.i o).re=o:=rfl
  have i2:(Nm.i o).im=0:=rfl
  rw [i1,i2]
  grind
def yB (a:List Int) (c:Int):List Int:=a.map (· * c)
theorem bf (a:List Int) (c:Int):xn a (.i c)=(yB a c).map Nm.i:=by unfold xn yB; rw [List.map_map]; rfl
theorem uX (a:List Int) (c:Int) (p:Nat):hf (yB a c) p=hf a p*c:=by
 unfold hf yB
 rw [List.getD_eq_getElem?_getD,List.getD_eq_getElem?_getD,List.getElem?_map]
 cases a[p]? with
 | none=>show (0:Int)=0*c; rw [Int.zero_mul]
 | some z=>rfl
theorem bg {k:Kd} {n:Int} {p:Nat} (hn:k.ok n) (h:p≤63):(k.ratN n p).re.natAbs≤200∧(k.ratN n p).im.natAbs≤200:=by
 obtain ⟨b1,b2⟩:=vx hn
 cases k <;> simp only [Kd.ratN,Kd.rat,Nm.re,Nm.im] <;> omega
theorem mT {a:List Int} {i:Nat} (h:i<a.length):a.take (i+1)=a.take i++[a.getD i 0]:=by
 rw [List.take_succ,List.getD_eq_getElem?_getD,List.getElem?_eq_getElem h]
 rfl
theorem noG {n:Int} (h:Kd.growing.ok n):False:=by
 have h1:(1:Int)≤n:=h.1
 have h2:n≤(0:Int):=h.2
 omega
def Kd.q4:Kd→Int
 | .plain=>0 | .below=>1 | .balanced=>2 | .pairs=>3 | _=>7
def con (k:Kd):Prop:=k=.plain∨k=.below∨k=.balanced∨k=.pairs
theorem s9 {k:Kd} (h:con k):k.five=true:=by rcases h with rfl | rfl | rfl | rfl <;> rfl
theorem nC {k:Kd} (h:con k) (n p:Int):k.low n p=k.low n 0∧k.high n p=k.high n 0:=by rcases h with rfl | rfl | rfl | rfl <;> exact ⟨rfl,rfl⟩
theorem qL {k:Kd} (h:con k) (n p:Int):k.ratN n p=k.ratN n 0:=by rcases h with rfl | rfl | rfl | rfl <;> rfl
theorem XJ {e:Int} (h0:0≤e) (h1:e<4):∃ k,con k∧e=k.q4:=by
 rcases (by omega:e=0∨e=1∨e=2∨e=3) with rfl | rfl | rfl | rfl
 ·exact ⟨.plain,.inl rfl,rfl⟩
 ·exact ⟨.below,.inr (.inl rfl),rfl⟩
 ·exact ⟨.balanced,.inr (.inr (.inl rfl)),rfl⟩
 ·exact ⟨.pairs,.inr (.inr (.inr rfl)),rfl⟩
theorem lF {k:Kd} (h:con k) (n:Int) (j:Nat):∀ i,(wt k n (i+j)).re=(wt k n i).re*(wt k n j).re - (wt k n i).im*(wt k n j).im∧(wt k n (i+j)).im=(wt k n i).re*(wt k n j).im+(wt k n i).im*(wt k n j).re
 | 0=>by
  have e:wt k n 0=k.zero.add (.i 1):=by rcases h with rfl | rfl | rfl | rfl <;> rfl
  have r1:(wt k n 0).re=1:=by rw [e,zD,zE]; rfl
  have r2:(wt k n 0).im=0:=by rw [e,zL,zH]; rfl
  rw [Nat.zero_add,r1,r2]
  constructor <;> omega
 | i+1=>by
  obtain ⟨h1,h2⟩:=lF h n j i
  rw [show i+1+j=i+j+1 by omega,yT (s9 h),yT (s9 h),qL h n (i+j:Nat),qL h n i,zo,zu,zo,zu,h1,h2]
  constructor <;> grind
theorem mO {k:Kd} {n:Int} {t:List Int} {p:Nat} (hp:p<t.length) (c:Int):(zg k n (t.set p (hf t p+c))).re=(zg k n t).re+c*(wt k n p).re∧(zg k n (t.set p (hf t p+c))).im=(zg k n t).im+c*(wt k n p).im:=by
 have e:hf (t.set p (hf t p+c))=fun i=>hf t i+pt p c i:=funext fun i=>Xi hp c i
 rw [yj (m:=t.length) (by rw [List.length_set]; exact Nat.le_refl _),yI (r:=t.set p _) (m:=t.length) (by rw [List.length_set]; exact Nat.le_refl _),yj (r:=t) (m:=t.length) (Nat.le_refl _),yI (r:=t) (m:=t.length) (Nat.le_refl _),e,tD,tD,lQ,lQ,if_pos hp,if_pos hp]
 exact ⟨rfl,rfl⟩
theorem rR (w:Nat→Int):∀ m,sm w (fun _=>0) m=0
 | 0=>rfl
 | m+1=>by
  show sm w (fun _=>0) m+0*w m=0
  rw [rR w m,Int.zero_mul]; rfl
theorem Xj (m:Nat):hf (List.replicate m 0)=fun _=>0:=funext fun i=>by
 unfold hf
 rw [List.getD_eq_getElem?_getD]
 by_cases h:i<m
 ·rw [List.getElem?_eq_getElem (by rw [List.length_replicate]; exact h),List.getElem_replicate]; rfl
 ·rw [List.getElem?_eq_none (by rw [List.length_replicate]; omega)]; rfl
theorem mM (k:Kd) (n:Int) (m:Nat):(zg k n (List.replicate m 0)).re=0∧(zg k n (List.replicate m 0)).im=0:=by
 rw [yj (m:=m) (by rw [List.length_replicate]; exact Nat.le_refl _),yI (m:=m) (by rw [List.length_replicate]; exact Nat.le_refl _),Xj,rR,rR]
 exact ⟨rfl,rfl⟩
theorem Y_ {n:Int} (hn:Kd.plain.ok n):∀ (l:List Int),(∀ p,-(n - 1)≤hf l p∧hf l p≤n - 1)→-(wt .plain n l.length).re<(zg .plain n l).re∧(zg .plain n l).re<(wt .plain n l.length).re:=by
 intro l hb
 have key:∀ j,-(wt .plain n j).re<sm (fun i=>(wt .plain n i).re) (hf l) j∧sm (fun i=>(wt .plain n i).re) (hf l) j<(wt .plain n j).re:=by
  intro j
  induction j with
  | zero=>exact ⟨by show -(1:Int)<0; omega,by show (0:Int)<1; omega⟩
  | succ j ih=>
   obtain ⟨w,ew,w1,es,_⟩:=vm (k:=.plain) (.inl rfl) hn j
   rw [ew] at ih
   have ih:-w<sm (fun i=>(wt .plain n i).re) (hf l) j∧sm (fun i=>(wt .plain n i).re) (hf l) j<w:=ih
   rw [es]
   show -(n*w)<sm (fun i=>(wt .plain n i).re) (hf l) j+hf l j*(wt .plain n j).re∧sm (fun i=>(wt .plain n i).re) (hf l) j+hf l j*(wt .plain n j).re<n*w
   rw [ew]
   show -(n*w)<_+hf l j*w∧_+hf l j*w<n*w
   obtain ⟨a,b⟩:=hb j
   have m1:=Int.mul_le_mul_of_nonneg_right b (show 0≤w by omega)
   have m2:=Int.mul_le_mul_of_nonneg_right a (show 0≤w by omega)
   rw [Int.sub_mul,Int.one_mul] at m1
   rw [Int.neg_mul,Int.sub_mul,Int.one_mul] at m2
   omega
 rw [yj (m:=l.length) (Nat.le_refl _)]
 exact key l.length
theorem jJ {n:Int} (hn:Kd.plain.ok n):∀ (m:Nat) (t:List Int),t.length=m→(∀ p,-(n - 1)≤hf t p∧hf t p≤n - 1)→(ltL t.reverse (List.replicate m 0)=true↔(zg .plain n t).re<0):=by
 intro m
 induction m with
 | zero=>
  intro t ht _
  obtain rfl:=List.length_eq_zero_iff.mp ht
  exact ⟨(fun h=>nomatch h),fun h=>absurd h (by show ¬ (0:Int)<0; omega)⟩
 | succ m ih=>
  intro t ht hb
  rcases zK t with rfl | ⟨l,z,rfl⟩
  ·cases ht
  have hl:l.length=m:=by rw [List.length_append] at ht; exact Nat.succ.inj ht
  have hbl:∀ p,-(n - 1)≤hf l p∧hf l p≤n - 1:=fun p=>by
   have n2:(2:Int)≤n:=hn.1
   by_cases hp:p<l.length
   ·have:=hb p
    unfold hf at this ⊢
    rwa [zF hp] at this
   ·rw [yc (by omega)]; omega
  have hz:-(n - 1)≤z∧z≤n - 1:=by
   have:=hb l.length
   unfold hf at this
   rwa [getD_snoc_eq] at this
  have ihl:=ih l hl hbl
  obtain ⟨w,ew,w1,_⟩:=vm (k:=.plain) (.inl rfl) hn l.length
  have hlow:=Y_ hn l hbl
  rw [ew] at hlow
  have hlow:-w<(zg .plain n l).re∧(zg .plain n l).re<w:=hlow
  have e:(zg .plain n (l++[z])).re=(zg .plain n l).re+z*w:=by
   rw [xo,zD,zo,ew]
   show _+(z*w - 0*0)=_
   omega
  rw [List.reverse_append,List.replicate_succ,e]
  show (if z=0 then ltL l.reverse (List.replicate m 0) else decide (z<0))=true↔_
  by_cases h0:z=0
  ·rw [if_pos h0,ihl,h0,Int.zero_mul,Int.add_zero]
  ·rw [if_neg h0,decide_eq_true_iff]
   rcases (by omega:z<0∨0<z) with h | h
   ·have:=Int.mul_le_mul_of_nonneg_right (show z≤-1 by omega) (show 0≤w by omega)
    exact ⟨fun _=>by omega,fun _=>h⟩
   ·have:=Int.mul_le_mul_of_nonneg_right (show 1≤z by omega) (show 0≤w by omega)
    exact ⟨fun _=>by omega,fun _=>by omega⟩
theorem jU {lo hi x m:Int} (l1:lo≤0) (l2:0≤hi) (x0:0≤x) (x1:x<hi - lo+1):∃ f,atI [Dt.int hi,.int 0,.int lo,.int (lo+x)] (if (3:Int)<m.fmod 5 then 3 else m.fmod 5)=some (.int f)∧lo≤f∧f≤hi:=by
 have a0:=Int.fmod_nonneg_of_pos m (show (0:Int)<5 by decide)
 have a1:=Int.fmod_lt_of_pos m (show (0:Int)<5 by decide)
 rcases (by omega:m.fmod 5=0∨m.fmod 5=1∨m.fmod 5=2∨m.fmod 5=3∨m.fmod 5=4) with e | e | e | e | e <;> rw [e]
 ·exact ⟨_,rfl,by omega,Int.le_refl _⟩
 ·exact ⟨_,rfl,l1,l2⟩
 ·exact ⟨_,rfl,Int.le_refl _,by omega⟩
 ·exact ⟨_,rfl,by omega,by omega⟩
 ·exact ⟨_,rfl,by omega,by omega⟩
theorem lP {k:Kd} {n f:Int} {r:List Int} {i:Nat} (hlr:r.length=i) (hp:∀ p,p<i→k.low n p≤r.getD p 0∧r.getD p 0≤k.high n p) (hf:k.low n i≤f∧f≤k.high n i):
  ∃ r':List Int,r.map Dt.int++[.int f]=r'.map Dt.int∧r'.length=i+1∧∀ p,p<i+1→k.low n p≤r'.getD p 0∧r'.getD p 0≤k.high n p:=by
 refine ⟨r++[f],by rw [List.map_append]; rfl,by rw [List.length_append,hlr]; rfl,fun p hp'=>?_⟩
 rcases (by omega:p<i∨p=i) with z | z
 ·rw [zF (by omega)]
  exact hp p z
 ·subst z
  rw [← hlr,getD_snoc_eq,hlr]
  exact hf
def SA (k:Kd) (n:Int) (r:List Int) (i:Nat):Int:=sm (fun p=>(wt k n p).re) (hf r) i
def SB (k:Kd) (n:Int) (r:List Int) (i:Nat):Int:=sm (fun p=>(wt k n p).im) (hf r) i
structure PI (k:Kd) (n:Int) (a b:List Int) (i j:Nat) (t:List Int):Prop where
 re:(zg k n t).re=SA k n a i*SA k n b b.length - SB k n a i*SB k n b b.length+hf a i*((wt k n i).re*SA k n b j - (wt k n i).im*SB k n b j)
 im:(zg k n t).im=SA k n a i*SB k n b b.length+SB k n a i*SA k n b b.length+hf a i*((wt k n i).re*SB k n b j+(wt k n i).im*SA k n b j)
 bd:∀ z∈t,z.natAbs≤(i*b.length+j)*16384
 len:t.length=a.length+b.length - 1
theorem PI.start {k:Kd} {n:Int} (a b:List Int):PI k n a b 0 0 (List.replicate (a.length+b.length - 1) 0):=by
 obtain ⟨h1,h2⟩:=mM k n (a.length+b.length - 1)
 have z1:∀ r,SA k n r 0=0:=fun _=>rfl
 have z2:∀ r,SB k n r 0=0:=fun _=>rfl
 refine ⟨?_,?_,fun z hz=>?_,List.length_replicate⟩
 ·rw [h1,z1,z1,z2,z2]; grind
 ·rw [h2,z1,z1,z2,z2]; grind
 ·rw [List.eq_of_mem_replicate hz]; exact Nat.zero_le _
theorem PI.step {k:Kd} {n:Int} {a b t:List Int} {i j:Nat} (hk:con k) (hn:k.ok n) (ha:Legal k n a) (hb:Legal k n b) (la:a.length≤63) (lb:b.length≤63) (hi:i<a.length) (hj:j<b.length) (h:PI k n a b i j t):PI k n a b i (j+1) (t.set (i+j) (hf t (i+j)+hf a i*hf b j)):=by
 have hp:i+j<t.length:=by rw [h.len]; omega
 obtain ⟨w1,w2⟩:=mO (k:=k) (n:=n) hp (hf a i*hf b j)
 obtain ⟨c1,c2⟩:=lF hk n j i
 have s1:SA k n b (j+1)=SA k n b j+hf b j*(wt k n j).re:=rfl
 have s2:SB k n b (j+1)=SB k n b j+hf b j*(wt k n j).im:=rfl
 have r1:=h.re
 have r2:=h.im
 refine ⟨?_,?_,fun z hz=>?_,by rw [List.length_set]; exact h.len⟩
 ·rw [w1,c1,s1,s2,r1]; grind
 ·rw [w2,c2,s1,s2,r2]; grind
 ·have f1:=(qy hn ha la i).1
  have f2:=(qy hn hb lb j).1
  have f3:(hf a i*hf b j).natAbs≤122*122:=yq f1 f2
  rcases List.mem_or_eq_of_mem_set hz with h1 | h1
  ·have:=h.bd z h1; omega
  ·have hm:hf t (i+j)∈t:=by
    unfold hf
    rw [List.getD_eq_getElem?_getD,List.getElem?_eq_getElem hp]
    exact List.getElem_mem hp
   have:=h.bd _ hm
   rw [h1]
   omega
theorem PI.next {k:Kd} {n:Int} {a b t:List Int} {i:Nat} (h:PI k n a b i b.length t):PI k n a b (i+1) 0 t:=by
 have s1:SA k n a (i+1)=SA k n a i+hf a i*(wt k n i).re:=rfl
 have s2:SB k n a (i+1)=SB k n a i+hf a i*(wt k n i).im:=rfl
 have z1:SA k n b 0=0:=rfl
 have z2:SB k n b 0=0:=rfl
 refine ⟨?_,?_,fun z hz=>?_,h.len⟩
 ·rw [h.re,s1,s2,z1,z2]; grind
 ·rw [h.im,s1,s2,z1,z2]; grind
 ·have:=h.bd z hz
  rw [Nat.succ_mul,Nat.add_zero]
  exact this
theorem PI.done {k:Kd} {n:Int} {a b t:List Int} (la:a.length≤63) (lb:b.length≤63) (h:PI k n a b a.length 0 t):t.length≤130∧(∀ z∈t,z.natAbs≤2 ^ 26)∧zg k n t=(zg k n a).mul (zg k n b):=by
 have a1:(zg k n a).re=SA k n a a.length:=yj (Nat.le_refl _)
 have a2:(zg k n a).im=SB k n a a.length:=yI (Nat.le_refl _)
 have b1:(zg k n b).re=SA k n b b.length:=yj (Nat.le_refl _)
 have b2:(zg k n b).im=SB k n b b.length:=yI (Nat.le_refl _)
 have z:hf a a.length=0:=yc (Nat.le_refl _)
 refine ⟨by rw [h.len]; omega,fun z hz=>?_,?_⟩
 ·have h1:=h.bd z hz
  have h2:a.length*b.length≤63*63:=Nat.mul_le_mul la lb
  rw [Nat.add_zero] at h1
  generalize a.length * b.length=y at *
  omega
 ·refine yN (zA k n t) (wq (zJ (zA k n a)) (zA k n b)) ?_ ?_
  ·rw [h.re,z,zo,a1,a2,b1,b2]; omega
  ·rw [h.im,z,zu,a1,a2,b1,b2]; omega
theorem mw {k:Kd} (h:con k) (hp:wn k):k=.plain:=by
 rcases h with rfl | rfl | rfl | rfl
 ·rfl
 all_goals (rcases hp with e | e <;> cases e)
theorem qz {k:Kd} {n:Int} {t:List Int} (hk:con k) (hn:k.ok n) (hl:t.length≤200) (hb:∀ z∈t,z.natAbs≤2 ^ 26) (hp:wn k→0≤(zg k n t).re):
  ∃ J,Fin k n (t.map Nm.i) J∧J≤50000∧Legal k n (vW k n (t.map Nm.i) J)∧zg k n (vW k n (t.map Nm.i) J)=zg k n t:=by
 have h5:=s9 hk
 have ht:∀ u∈t.map Nm.i,tot k u:=yk
 have hll:(t.map Nm.i).length=t.length:=List.length_map _
 have hh:yd k (cAt k n (t.map Nm.i) (t.map Nm.i).length)=true:=by
  by_cases h:wn k
  ·refine (vf h hn ht _).mp ?_
   have:=hp h
   rw [← yg] at this
   exact this
  ·exact t_ h5 h (zZ k n _ _)
 obtain ⟨J,F,hJ,_⟩:=rV h5 hn ht (b:=26) (fun u hu=>by
  obtain ⟨z,hz,rfl⟩:=List.mem_map.mp hu
  exact ⟨hb z hz,Nat.zero_le _⟩) (by decide) hh
 exact ⟨J,F,by omega,w6 h5 hn ht,(wZ F h5 hn ht).trans (yg k n _)⟩
theorem dW {k:Kd} {n:Int} {t:List Int} (hp:wn k) (hn:k.ok n) (h:(zg k n t).re<0):yd k (cAt k n (t.map Nm.i) (t.map Nm.i).length)=false:=by
 cases e:yd k (cAt k n (t.map Nm.i) (t.map Nm.i).length) with
 | false=>rfl
 | true=>
  have z:0≤(zU k n (t.map Nm.i)).re:=(vf hp hn yk _).mpr e
  rw [yg] at z
  omega
theorem i0 (a b:List Int) (s:Int):(z4 a (yB b s)).map Dt.int=(List.range (max a.length b.length)).map fun p=>Dt.int (hf a p+s*hf b p):=by
 unfold z4
 rw [List.map_map,show (yB b s).length=b.length from List.length_map _]
 refine List.map_congr_left fun p _=>?_
 show Dt.int (hf a p+hf (yB b s) p)=_
 rw [uX,Int.mul_comm]
theorem rk {n:Int} {a:List Int} (hn:Kd.plain.ok n) (h:Legal .plain n a) (p:Nat):0≤hf a p∧hf a p≤n - 1:=by
 have n2:(2:Int)≤n:=hn.1
 by_cases hp:p<a.length
 ·exact h.fig p hp
 ·rw [yc (by omega)]; omega
theorem Xr {n:Int} {a b:List Int} (hn:Kd.plain.ok n) (ha:Legal .plain n a) (hb:Legal .plain n b) (p:Nat):-(n - 1)≤hf (z4 a (yB b (-1))) p∧hf (z4 a (yB b (-1))) p≤n - 1:=by
 have h1:=rk hn ha p
 have h2:=rk hn hb p
 rw [mi,uX]
 omega
theorem nS {k:Kd} {n s:Int} {a b:List Int} (hn:k.ok n) (ha:Legal k n a) (hb:Legal k n b) (la:a.length≤63) (lb:b.length≤63) (hs:s=1∨s=-1):∀ z∈z4 a (yB b s),z.natAbs≤2 ^ 26:=fun z hz=>by
 obtain ⟨p,rfl⟩:=tL hz
 have f1:=(qy hn ha la p).1
 have f2:=(qy hn hb lb p).1
 rw [uX]
 rcases hs with rfl | rfl <;> omega
theorem rQ {a b:List Int} {s:Int} (la:a.length≤63) (lb:b.length≤63):(z4 a (yB b s)).length≤63:=by
 rw [wk,show (yB b s).length=b.length from List.length_map _]
 omega
theorem jM (b:List Int):yB b 1=b:=by
 unfold yB
 rw [show (fun x:Int=>x*1)=id from funext Int.mul_one,List.map_id]
theorem Xl (ts:List Int) (i:Nat):(ts.map Nm.i).getD i (.i 0)=.i (ts.getD i 0):=by
 rw [List.getD_eq_getElem?_getD,List.getD_eq_getElem?_getD,List.getElem?_map]
 cases ts[i]? <;> rfl
theorem nU {i:Nat} {t:DTE} {u:DTS} {D:wY} {ρ:DS} (h:t ρ fun d=>u D (ρ.set i (.some d))):Vv (Xx i t) u D ρ:=h
theorem XH (xs:List Dt):(qJ xs (some 2) (some 30)).length≤28:=by
 unfold qJ
 have e1:HT.sIx xs.length 0 (some 2)=min 2 xs.length:=HT.sIx_nat _ _ 2
 have e2:HT.sIx xs.length xs.length (some 30)=min 30 xs.length:=HT.sIx_nat _ _ 30
 rw [e1,e2,List.length_take]
 omega
theorem XI (xs:List Dt) {m:Int} (h0:0≤m) (h1:m<16):(qJ xs none (some m)).length≤15:=by
 unfold qJ
 have e2:=HT.sIx_nat xs.length xs.length m.toNat
 rw [Int.toNat_of_nonneg h0] at e2
 rw [e2,List.length_take]
 omega
def ou:DSp:=fun ds Q=>∃ i:Int,ds=[.int i]∧Q (.bl true)
def mD:DSp:=fun ds Q=>∃ (k:Kd) (z:Int),ds=[.int k.q4,.int z]∧con k∧∀ n,k.ok n→Q (.int n)
def nJ:DSp:=fun ds Q=>∃ (k:Kd) (n:Int),ds=[.int k.q4,.int n]∧con k∧k.ok n∧Q (.tup [.int (k.low n 0),.int (k.high n 0)])
def iN:DSp:=fun ds Q=>∃ (k:Kd) (n:Int) (cs:List Int),ds=[.int k.q4,.int n,zt cs]∧con k∧k.ok n∧cs.length≤100∧∀ r,Legal k n r→r.length≤cs.length→Q (zt r)
def iQ:DSp:=fun ds Q=>∃ (k:Kd) (n:Int) (c a:Nm) (t f:Int),ds=[.int k.q4,.int n,c.dt,.int t,a.dt]∧con k∧k.ok n∧c.ty k∧a.ty k∧c.re+t=f+((k.ratN n 0).re*a.re - (k.ratN n 0).im*a.im)∧c.im=(k.ratN n 0).re*a.im+(k.ratN n 0).im*a.re∧Q (.int f)
def iO:DSp:=fun ds Q=>∃ (k:Kd) (c:Nm),ds=[.int k.q4,c.dt]∧con k∧c.ty k∧Q (.bl true)
def qQ:DSp:=fun ds Q=>∃ (k:Kd) (n:Int) (ts:List Int) (J:Nat),ds=[.int k.q4,.int n,zt ts,.lst (yp k n (ts.map Nm.i) (J+1))]∧con k∧k.ok n∧Fin k n (ts.map Nm.i) J∧J≤50000∧Q (zt (vW k n (ts.map Nm.i) J))
def mE:DSp:=fun ds Q=>∃ (k:Kd) (n:Int) (a b:List Int),ds=[zt a,zt b]∧con k∧k.ok n∧Legal k n a∧Legal k n b∧a.length≤63∧b.length≤63∧∀ t,t.length≤130→(∀ z∈t,z.natAbs≤2 ^ 26)→zg k n t=(zg k n a).mul (zg k n b)→Q (zt t)
def nG:DSp:=fun ds Q=>∃ (a b:List Int) (s:Int),ds=[zt a,zt b,.int s]∧a.length≤100∧b.length≤100∧(s=1∨s=-1)∧Q (zt (z4 a (yB b s)))
structure Adr where
 Plain:Addr
 Below:Addr
 Balanced:Addr
 Growing:Addr
 Falling:Addr
 Pairs:Addr
 TooLess:Addr
structure Txt (K:PySem.W.Frag) (mg:Str→Option Value) (A:Adr):Prop where
 kt:cr K
 isinstance:mg "isinstance"=none
 n_int:mg "int"=none
 n_bool:mg "bool"=none
 n_tuple:mg "tuple"=none
 n_list:mg "list"=none
 len:mg "len"=none
 range:mg "range"=none
 n_enumerate:mg "enumerate"=none
 n_reversed:mg "reversed"=none
 n_min:mg "min"=none
 n_max:mg "max"=none
 n_all:mg "all"=none
 U4:Cls K A.Plain
 Tu:NoAttr K A.Plain "base"
 U5:Cls K A.Below
 Tv:NoAttr K A.Below "base"
 U3:Cls K A.Balanced
 Tm:NoAttr K A.Balanced "half"
 Tb:Cls K A.Falling
 So:NoAttr K A.Falling "most"
 UU:Cls K A.Pairs
 U6:NoAttr K A.Pairs "most"
 Te:mg "Falling"=some (.ref A.Falling)
 Sq:sA K A.Plain
 Tc:PySem.W.kitOne K (.ref A.Plain) (.ref A.Falling)=some false
 Sy:sA K A.Below
 Tf:PySem.W.kitOne K (.ref A.Below) (.ref A.Falling)=some false
 Sz:sA K A.Balanced
 Tg:PySem.W.kitOne K (.ref A.Balanced) (.ref A.Falling)=some false
 SC:sA K A.Falling
 Th:PySem.W.kitOne K (.ref A.Falling) (.ref A.Falling)=some true
 SD:sA K A.Pairs
 Ti:PySem.W.kitOne K (.ref A.Pairs) (.ref A.Falling)=some false
 Tw:mg "TooLess"=some (.ref A.TooLess)
 Tj:ExcK K A.TooLess
 Tn:cT K A.TooLess
 Td:PySem.W.exmOne K (.ref A.TooLess) (.ref A.TooLess)=some true
 To:PySem.W.kitOne K (.ref A.TooLess) (.ref A.TooLess)=some true
def Adr.at (A:Adr):Kd→Addr
 | .plain=>A.Plain | .below=>A.Below | .balanced=>A.Balanced | .growing=>A.Plain | .falling=>A.Falling | .pairs=>A.Pairs
def z6 (A:Adr) (k:Kd) (n:Int):Dt:=.way (A.at k) k.fld n
def x5 (A:Adr) (k:Kd) (g:Int→Int→Int):DSp:=fun ds Q=>∃ n p,ds=[z6 A k n,.int p]∧k.ok n∧Q (.int (g n p))
def vj (A:Adr) (k:Kd) (g:Int→Int→Nm):DSp:=fun ds Q=>∃ n p,ds=[z6 A k n,.int p]∧k.ok n∧Q (g n p).dt
def XS:DSp:=fun ds Q=>∃ o p,ds=[o,p]∧Q (.int 0)
def V0:DSp:=fun ds Q=>∃ o,ds=[o]∧Q (.int 0)
def VZ:DSp:=fun ds Q=>∃ o,ds=[o]∧Q (.tup [.int 0,.int 0])
def V1 (k:Kd):DSp:=fun ds Q=>∃ o,ds=[o]∧Q k.zero.dt
theorem pU {K:PySem.W.Frag} {mg:Str→Option Value} {A:Adr} (T:Txt K mg A) (k:Kd):sA K (A.at k):=by
 cases k
 ·exact T.Sq
 ·exact T.Sy
 ·exact T.Sz
 ·exact T.Sq
 ·exact T.SC
 ·exact T.SD
theorem kiF {K:PySem.W.Frag} {mg:Str→Option Value} {A:Adr} (T:Txt K mg A) (k:Kd):PySem.W.kitOne K (.ref (A.at k)) (.ref A.Falling)=some k.isF:=by
 cases k
 ·exact T.Tc
 ·exact T.Tf
 ·exact T.Tg
 ·exact T.Tc
 ·exact T.Th
 ·exact T.Ti
def cS (A:Adr):DSp:=fun ds Q=>∃ k n r,ds=[z6 A k n,zt r]∧k.ok n∧r.length≤1000∧Q (.bl (pS k n r))
def iP (A:Adr):DSp:=fun ds Q=>∃ k n r,ds=[z6 A k n,zt r]∧k.ok n∧r.length≤1000∧∀ b:Bool,(b=true↔∀ p,p<r.length→k.low n p≤r.getD p 0∧r.getD p 0≤k.high n p)→Q (.bl b)
def mG (A:Adr):DSp:=fun ds Q=>∃ n r,ds=[z6 A .falling n,zt r]∧Kd.falling.ok n∧r.length≤1000∧∀ b:Bool,(b=true↔∀ p,p+1<r.length→r.getD (p+1) 0=n→r.getD p 0=0)→Q (.bl b)
theorem cK (k:Kd):(("low":Str) == k.fld)=false:=by cases k <;> decide +kernel
theorem j6 (k:Kd):(("high":Str) == k.fld)=false:=by cases k <;> decide +kernel
def iK (A:Adr):DSp:=fun ds Q=>∃ k n t j,ds=[z6 A k n,.int t,.int ((j:Nat):Int)]∧k.four=true∧k.ok n∧j≤100000∧Q (.tup [.int (sF k n j (.i t)),(sC k n j (.i t)).dt])
def iL (A:Adr):DSp:=fun ds Q=>∃ n d m j,ds=[z6 A .pairs n,d,.int ((j:Nat):Int)]∧tY d=some m∧Kd.pairs.ok n∧Q (.tup [.int (sF .pairs n j m),(sC .pairs n j m).dt])
def mC (A:Adr) (k:Kd):DSp:=fun ds Q=>∃ n m j,ds=[z6 A k n,Nm.dt m,.int ((j:Nat):Int)]∧m.ty k∧k.ok n∧j≤100000∧Q (.tup [.int (sF k n j m),(sC k n j m).dt])
theorem mq (k:Kd):(("split":Str) == k.fld)=false:=by cases k <;> decide +kernel
theorem mr (k:Kd):(("ratio":Str) == k.fld)=false:=by cases k <;> decide +kernel
theorem vJ (k:Kd):(("nought":Str) == k.fld)=false:=by cases k <;> decide +kernel
theorem cL (k:Kd):(("has":Str) == k.fld)=false:=by cases k <;> decide +kernel
def qS (A:Adr):yt:=fun ds Q R=>∃ k n ts,ds=[z6 A k n,vn ts]∧k.five=true∧k.ok n∧(∀ t∈ts,tot k t)∧ts.length≤20000∧((∃ J,Fin k n ts J∧J≤50000∧Q (.lst (yp k n ts (J+1))))∨(yd k (cAt k n ts ts.length)=false∧R A.TooLess))
def iR (A:Adr):yt:=fun ds Q R=>∃ k n ts,ds=[z6 A k n,vn ts]∧k.five=true∧k.ok n∧(∀ t∈ts,tot k t)∧ts.length≤20000∧((∃ J,Fin k n ts J∧J≤50000∧Q (.tup [zt (yP k n ts J),.lst (yp k n ts (J+1))]))∨(yd k (cAt k n ts ts.length)=false∧R A.TooLess))
def sx (A:Adr):yt:=fun ds Q R=>∃ k n ts,ds=[z6 A k n,vn ts]∧k.five=true∧k.ok n∧(∀ t∈ts,tot k t)∧ts.length≤20000∧((∃ J,Fin k n ts J∧J≤50000∧Q (zt (vW k n ts J)))∨(yd k (cAt k n ts ts.length)=false∧R A.TooLess))
def qR (A:Adr):DSp:=fun ds Q=>∃ k n,∃ rs:List (List Int),ds=[z6 A k n,.lst (rs.map zt)]∧k.ok n∧(∀ r∈rs,Legal k n r∧r.length≤1000)∧Q .non
def u_:DSp:=fun ds Q=>∃ a b,ds=[vn a,vn b]∧a.length≤1000∧b.length≤1000∧Q (vn (wQ a b))
def sy:DSp:=fun ds Q=>∃ a f,ds=[zt a,Nm.dt f]∧a.length≤1000∧(-1000000≤f.re∧f.re≤1000000∧-1000000≤f.im∧f.im≤1000000)∧Q (vn (xn a f))
def ox (A:Adr):DSp:=fun ds Q=>∃ k n a b,ds=[z6 A k n,zt a,zt b]∧k.five=true∧k.ok n∧Legal k n a∧Legal k n b∧few k a.length b.length∧∀ r,Legal k n r→zg k n r=(zg k n a).mul (zg k n b)→r.length≤870→Q (zt r)
def u9 (A:Adr):yt:=fun ds Q R=>∃ k n ts b,ds=[z6 A k n,vn ts]∧k.five=true∧k.ok n∧ts.length≤900∧(∀ t∈ts,tot k t)∧(∀ t∈ts,t.re.natAbs≤2 ^ b∧t.im.natAbs≤2 ^ b)∧7≤b∧b≤1000∧(∀ r,Legal k n r→zg k n r=zU k n ts→r.length≤ts.length+4*b+60→Q (zt r))∧(wn k→(zU k n ts).re<0→R A.TooLess)
def mF (A:Adr):DSp:=fun ds Q=>∃ k n a b,ds=[z6 A k n,zt a,zt b]∧k.five=true∧k.ok n∧Legal k n a∧Legal k n b∧a.length≤200∧b.length≤200∧∀ r,Legal k n r→zg k n r=(zg k n a).add (zg k n b)→r.length≤400→Q (zt r)
def iJ (A:Adr):DSp:=fun ds Q=>∃ k n a b,ds=[z6 A k n,zt a,zt b]∧k.five=true∧k.ok n∧Legal k n a∧Legal k n b∧few k a.length b.length∧∀ r,Legal k n r→zg k n r=(zg k n a).mul (zg k n b)→r.length≤870→Q (zt r)
def nI (A:Adr):yt:=fun ds Q R=>∃ k n a b,ds=[z6 A k n,zt a,zt b]∧k.five=true∧k.ok n∧Legal k n a∧Legal k n b∧a.length≤200∧b.length≤200∧(∀ r,Legal k n r→zg k n r=zg k n (z4 a (yB b (-1)))→r.length≤400→Q (zt r))∧(wn k→(zg k n (z4 a (yB b (-1)))).re<0→R A.TooLess)
def mH (A:Adr):DSp:=fun ds Q=>∃ (k:Kd) (n:Int),ds=[.int k.q4,.int n]∧con k∧k.ok n∧Q (z6 A k n)
def mI (A:Adr):DSp:=fun ds Q=>∃ n a b,ds=[z6 A .plain n,zt a,zt b,zt (z4 a (yB b (-1)))]∧Kd.plain.ok n∧Legal .plain n a∧Legal .plain n b∧a.length≤63∧b.length≤63∧(zg .plain n (z4 a (yB b (-1)))).re<0∧Q (.bl true)
def iS (A:Adr):DSp:=fun ds Q=>∃ k n a b,ds=[z6 A k n,.int (Kd.q4 k),.int n,zt a,zt b]∧con k∧k.ok n∧Legal k n a∧Legal k n b∧a.length≤63∧b.length≤63∧Q (.bl true)
def iM (A:Adr):DSp:=fun ds Q=>∃ k n a b,ds=[z6 A k n,.int (Kd.q4 k),.int n,zt a,zt b]∧con k∧k.ok n∧Legal k n a∧Legal k n b∧few k a.length b.length∧Q (.bl true)
section
variable {P:Program} {w:World} {K:PySem.W.Frag} {mg:Str→Option Value} {base:Heap} {f:Addr} {fd:FuncData} {A:Adr}
abbrev xv:Stmt:=top 55
theorem tG:zi ["_law_script","_law_k"] ["_law_script","_law_k"] (defScope xv):=by walk_at "sc"
theorem tR (T:Txt K mg A) (F:Fun K "_law_cell_at" "_law_cell_at" xv f fd):FnOk P w K mg base CX0 1 f fd ["_law_script","_law_k"] (zm K (iT)):=by
 refine okD F tG (by walk_at "ln") fun _ _ _ _ _ _ hr ds Q h=>?_
 obtain ⟨ns,k,rfl,hk,q⟩:=h
 refine ⟨_,(zf (zN (zB (sZ) (dv 1) (zI rfl T.len (dv 0)) (zv _)) (ze (zl (zw (dv 0) (dv 1) (fun _ _=>rfl)))) zx)
 (ze (zl zc))),?_⟩
 walk_at "rd"
 refine Vf (fun hlt=>?_) (fun _=>q 0)
 have hlt:k<(ns.map Dt.int).length:=of_decide_eq_true hlt
 rw [List.length_map] at hlt
 exact ⟨_,rfl,_,rfl,_,_,_,rfl,rfl,qN hk hlt,q _⟩
abbrev w9:Stmt:=top 57
theorem pd:zi ["_law_kind","_law_number"] ["_law_kind","_law_number"] (defScope w9):=by walk_at "sc"
theorem pG (T:Txt K mg A) (F:Fun K "_law_size" "_law_size" w9 f fd):FnOk P w K mg base CX0 1 f fd ["_law_kind","_law_number"] (zm K (mD)):=by
 refine okD F pd (by walk_at "ln") fun _ _ _ _ _ _ hr ds Q h=>?_
 obtain ⟨k,z,rfl,hk,q⟩:=h
 refine ⟨_,(ze (zl (zw (xj (za (zk zP zc (zk xE (dv 1) zc)) (za (zk zP zc (zk xE (dv 1) zc)) (za (zk zP zc (zk xE (dv 1) zc)) (za (zk zP zc (zk xE (dv 1) zc)) zd))))) (dv 0) (fun _ _=>rfl)))),?_⟩
 have a0:=Int.fmod_nonneg_of_pos z (show (0:Int)<59 by decide)
 have a1:=Int.fmod_lt_of_pos z (show (0:Int)<59 by decide)
 have b0:=Int.fmod_nonneg_of_pos z (show (0:Int)<30 by decide)
 have b1:=Int.fmod_lt_of_pos z (show (0:Int)<30 by decide)
 have c0:=Int.fmod_nonneg_of_pos z (show (0:Int)<9 by decide)
 have c1:=Int.fmod_lt_of_pos z (show (0:Int)<9 by decide)
 rcases hk with rfl | rfl | rfl | rfl
 all_goals walk_at "rd"
 ·exact q _ ⟨by show (2:Int)≤2+z.fmod 59; omega,by show 2+z.fmod 59≤(60:Int); omega⟩
 ·exact q _ ⟨by show (2:Int)≤2+z.fmod 59; omega,by show 2+z.fmod 59≤(60:Int); omega⟩
 ·exact q _ ⟨by show (1:Int)≤1+z.fmod 30; omega,by show 1+z.fmod 30≤(30:Int); omega⟩
 ·exact q _ ⟨by show (1:Int)≤1+z.fmod 9; omega,by show 1+z.fmod 9≤(9:Int); omega⟩
abbrev vb:Stmt:=top 9
theorem pf:zi ["value"] ["value"] (defScope vb):=by walk_at "sc"
theorem pJ (T:Txt K mg A) (F:Fun K "is_whole" "is_whole" vb f fd):FnOk P w K mg base CX0 1 f fd ["value"] (zm K (y0)):=by
 refine okD F pf (by walk_at "ln") fun _ _ _ _ _ _ hr ds Q h=>?_
 obtain ⟨d,b,rfl,hw,q⟩:=h
 refine ⟨_,(ze (zl (xk (ve (T:=.int) T.kt T.isinstance T.n_int PyProof.Rows.boot_int (dv 0)) (vd (iq (ve (T:=.bool) T.kt T.isinstance T.n_bool PyProof.Rows.boot_bool (dv 0))))))),?_⟩
 cases d <;> cases hw
 all_goals
  walk_at "rd"
  exact q
abbrev ud:Stmt:=top 18
theorem oK:zi ["number","least","most"] ["number","least","most"] (defScope ud):=by walk_at "sc"
theorem oX (T:Txt K mg A) (G_is_whole:DOk P w K mg base 1 "is_whole" (y0)) (F:Fun K "bounded" "bounded" ud f fd):FnOk P w K mg base CX0 2 f fd ["number","least","most"] (zm K (xH)):=by
 refine okD F oK (by walk_at "ln") fun _ _ _ _ _ _ hr ds Q h=>?_
 obtain ⟨n,lo,hi,rfl,h1,h2,q⟩:=h
 refine ⟨_,(zf (zN (DW.dt (wW (xZ (zY (zj G_is_whole (hr.mono (by decide)) rfl (za (dv 0) zd)))) (wW (zB (sZ) (dv 0) (dv 1) (zv _)) (wx (zB (gz) (dv 0) (dv 2) (zv _)))))) (ze yo) zx)
 (ze (zl (dv 0)))),?_⟩
 walk_at "rd"
 rw [decide_eq_false (by omega:¬ n<lo)]
 walk_at "rd"
 rw [decide_eq_false (by omega:¬ hi<n)]
 walk_at "rd"
 exact q
abbrev yV:Stmt:=inClass (top 20) 0
theorem sI:zi ["self","base"] ["self","base"] (defScope yV):=by walk_at "sc"
theorem sT (T:Txt K mg A) (G_bounded:DOk P w K mg base 2 "bounded" (xH)) (F:Fun K "__init__" "Plain.__init__" yV f fd):FnOk P w K mg base CX0 3 f fd ["self","base"] (wC A.Plain "base" (Kd.ok .plain)):=by
 refine uW F sI T.U4 T.Tu (fun cdv A outer s H E hr=>?_)
 obtain ⟨te,p,l⟩:=((zj G_bounded (hr.mono (by decide)) rfl (za (dv 1) (za zc (za zc zd)))):DE (yQ CX0 P w K mg base ["self","base"] "Plain.__init__" (defScope yV) f cdv A outer s H E).nox _ _)
 refine ⟨te,_,vp (qh (pv 0) p rfl),l,fun i hi=>?_⟩
 exact ⟨_,rfl,_,_,_,rfl,hi.1,hi.2,rfl⟩
abbrev yX:Stmt:=inClass (top 21) 0
theorem sM:zi ["self","base"] ["self","base"] (defScope yX):=by walk_at "sc"
theorem sX (T:Txt K mg A) (G_bounded:DOk P w K mg base 2 "bounded" (xH)) (F:Fun K "__init__" "Below.__init__" yX f fd):FnOk P w K mg base CX0 3 f fd ["self","base"] (wC A.Below "base" (Kd.ok .below)):=by
 refine uW F sM T.U5 T.Tv (fun cdv A outer s H E hr=>?_)
 obtain ⟨te,p,l⟩:=((zj G_bounded (hr.mono (by decide)) rfl (za (dv 1) (za zc (za zc zd)))):DE (yQ CX0 P w K mg base ["self","base"] "Below.__init__" (defScope yX) f cdv A outer s H E).nox _ _)
 refine ⟨te,_,vp (qh (pv 0) p rfl),l,fun i hi=>?_⟩
 exact ⟨_,rfl,_,_,_,rfl,hi.1,hi.2,rfl⟩
abbrev ya:Stmt:=inClass (top 22) 0
theorem vX:zi ["self","half"] ["self","half"] (defScope ya):=by walk_at "sc"
theorem ui (T:Txt K mg A) (G_bounded:DOk P w K mg base 2 "bounded" (xH)) (F:Fun K "__init__" "Balanced.__init__" ya f fd):FnOk P w K mg base CX0 3 f fd ["self","half"] (wC A.Balanced "half" (Kd.ok .balanced)):=by
 refine uW F vX T.U3 T.Tm (fun cdv A outer s H E hr=>?_)
 obtain ⟨te,p,l⟩:=((zj G_bounded (hr.mono (by decide)) rfl (za (dv 1) (za zc (za zc zd)))):DE (yQ CX0 P w K mg base ["self","half"] "Balanced.__init__" (defScope ya) f cdv A outer s H E).nox _ _)
 refine ⟨te,_,vp (qh (pv 0) p rfl),l,fun i hi=>?_⟩
 exact ⟨_,rfl,_,_,_,rfl,hi.1,hi.2,rfl⟩
abbrev yW:Stmt:=inClass (top 24) 0
theorem sK:zi ["self","most"] ["self","most"] (defScope yW):=by walk_at "sc"
theorem sV (T:Txt K mg A) (G_bounded:DOk P w K mg base 2 "bounded" (xH)) (F:Fun K "__init__" "Pairs.__init__" yW f fd):FnOk P w K mg base CX0 3 f fd ["self","most"] (wC A.Pairs "most" (Kd.ok .pairs)):=by
 refine uW F sK T.UU T.U6 (fun cdv A outer s H E hr=>?_)
 obtain ⟨te,p,l⟩:=((zj G_bounded (hr.mono (by decide)) rfl (za (dv 1) (za zc (za zc zd)))):DE (yQ CX0 P w K mg base ["self","most"] "Pairs.__init__" (defScope yW) f cdv A outer s H E).nox _ _)
 refine ⟨te,_,vp (qh (pv 0) p rfl),l,fun i hi=>?_⟩
 exact ⟨_,rfl,_,_,_,rfl,hi.1,hi.2,rfl⟩
abbrev w_:Stmt:=top 58
theorem pe:zi ["_law_kind","_law_size_here"] ["_law_kind","_law_size_here"] (defScope w_):=by walk_at "sc"
theorem pH (T:Txt K mg A) (Tx:KOk P w K mg base 3 "Plain" A.Plain "base" (Kd.ok .plain)) (Ty:KOk P w K mg base 3 "Below" A.Below "base" (Kd.ok .below)) (Tz:KOk P w K mg base 3 "Balanced" A.Balanced "half" (Kd.ok .balanced)) (TC:KOk P w K mg base 3 "Pairs" A.Pairs "most" (Kd.ok .pairs)) (F:Fun K "_law_made" "_law_made" w_ f fd):FnOk P w K mg base CX0 5 f fd ["_law_kind","_law_size_here"] (zm K (mH A)):=by
 refine okD F pe (by walk_at "ln") fun _ _ _ _ _ _ hr ds Q h=>?_
 obtain ⟨k,n,rfl,hk,hn,q⟩:=h
 refine ⟨_,(zf (zN (zB (wP hr) (dv 0) zc (zv _)) (ze (zl (u5 Tx (hr.mono (by decide)) rfl (za (dv 1) zd)))) zx)
 (zf (zN (zB (wP hr) (dv 0) zc (zv _)) (ze (zl (u5 Ty (hr.mono (by decide)) rfl (za (dv 1) zd)))) zx)
 (zf (zN (zB (wP hr) (dv 0) zc (zv _)) (ze (zl (u5 Tz (hr.mono (by decide)) rfl (za (dv 1) zd)))) zx)
 (ze (zl (u5 TC (hr.mono (by decide)) rfl (za (dv 1) zd))))))),?_⟩
 rcases hk with rfl | rfl | rfl | rfl
 all_goals
  walk_at "rd"
  exact ⟨hn,q⟩
abbrev xN:Stmt:=top 59
theorem sE:zi ["_law_kind","_law_size_here"] ["_law_kind","_law_size_here"] (defScope xN):=by walk_at "sc"
theorem sR (T:Txt K mg A) (F:Fun K "_law_bounds" "_law_bounds" xN f fd):FnOk P w K mg base CX0 1 f fd ["_law_kind","_law_size_here"] (zm K (nJ)):=by
 refine okD F sE (by walk_at "ln") fun _ _ _ _ _ _ hr ds Q h=>?_
 obtain ⟨k,n,rfl,hk,hn,q⟩:=h
 refine ⟨_,(ze (zl (zw (xj (za (ye (za zc (za (zk ym (dv 1) zc) zd))) (za (ye (za zc (za (zk ym (dv 1) zc) zd))) (za (ye (za (zk ym zc (dv 1)) (za (dv 1) zd))) (za (ye (za zc (za (zk yR (dv 1) (dv 1)) zd))) zd))))) (dv 0) (fun _ _=>rfl)))),?_⟩
 obtain ⟨b1,b2⟩:=vx hn
 have e0:(0:Int) - n=-n:=by omega
 rcases hk with rfl | rfl | rfl | rfl
 all_goals
  repeat (first | (walk_at "rd1") | refine ⟨small (by omega) (by omega) _,?_⟩)
  first
  | exact q
  | (dsimp only; rw [e0]; exact q)
abbrev wb:Stmt:=top 60
theorem sc_law_legal:zi ["_law_kind","_law_size_here","_law_numbers","_law_row","_law_least","_law_greatest","_law_number","_law_some"] ["_law_kind","_law_size_here","_law_numbers"] (defScope wb):=by walk_at "sc"
theorem qo (T:Txt K mg A) (G__law_bounds:DOk P w K mg base 1 "_law_bounds" (nJ)) (F:Fun K "_law_legal" "_law_legal" wb f fd):FnOk P w K mg base CX0 2 f fd ["_law_kind","_law_size_here","_law_numbers"] (zm K (iN)):=by
 refine okD F sc_law_legal (by walk_at "ln") fun _ _ _ _ _ _ hr ds Q h=>?_
 obtain ⟨k,n,cs,rfl,hk,hn,hl,q⟩:=h
 refine ⟨_,(zf (yZ (i:=3) sc_law_legal.nd rfl (Or.inl rfl) (uw zd))
 (zf (j9 (i:=4) (j:=5) rfl sc_law_legal.nd rfl rfl (Or.inl rfl) (Or.inl rfl) (zj G__law_bounds (hr.mono (by decide)) rfl (za (dv 0) (za (dv 1) zd))))
 (zf (ij (j:=6) rfl sc_law_legal.nd rfl (Or.inl rfl) PassesOwn.never (dv 2) (zf (zq (i:=7) sc_law_legal.nd rfl (Or.inl rfl) (xj (za (dv 5) (za zc (za (dv 4) (za (zk zP (dv 4) (zk xE (zk tX (dv 6) zc) (zk zP (zk ym (dv 5) (dv 4)) zc))) zd))))))
 (ze (sj 3 (zw (dv 7) (Xv rfl rfl T.n_min (za (zk xE (dv 6) zc) (za zc zd))) (fun _ _=>rfl))))))
 (zf (vK PassesOwn.never (DW.dt (xB (zB (gz) (u6 3 rfl T.len) zc (zv _)) (yG (zB (wP hr) (qF 3 (yf zc) (fun _ _=>rfl)) zc (zv _))))) (ze (nr 3)))
 (ze (wK 3)))))),?_⟩
 have ll:=zC cs
 have l1:k.low n 0≤0:=(qt hn 0).1
 have l2:0≤k.high n 0:=(qt hn 0).2
 obtain ⟨j1,j2⟩:(∀ p:Nat,k.low n p=k.low n 0)∧∀ p:Nat,k.high n p=k.high n 0:=⟨fun p=>(nC hk n p).1,fun p=>(nC hk n p).2⟩
 walk_at "rd"
 refine ⟨hk,hn,_,_,rfl,?_⟩
 refine ⟨_,rfl,_,fun i ρ=>∃ (r:List Int) (v6 v7:Sl),ρ=[.some (.int k.q4),.some (.int n),.some (zt cs),.own (r.map Dt.int),.some (.int (k.low n 0)),.some (.int (k.high n 0)),v6,v7]∧r.length=i∧∀ p,p<i→k.low n p≤r.getD p 0∧r.getD p 0≤k.high n p,rfl,⟨[],_,_,rfl,rfl,fun p hp=>absurd hp (Nat.not_lt_zero _)⟩,?_,?_⟩
 ·rintro i e ρ' he ⟨r,v6,v7,rfl,hlr,hp⟩
  have he:(cs.map Dt.int)[i]? = some e:=he
  rw [List.getElem?_map] at he
  obtain ⟨m,hm,rfl⟩:=Option.map_eq_some_iff.mp he
  have hi:i<cs.length:=(List.getElem?_eq_some_iff.mp hm).1
  have hp0:(0:Int)<k.high n 0 - k.low n 0+1:=by omega
  have f0:=Int.fmod_nonneg_of_pos (m.fdiv 5) hp0
  have f1:=Int.fmod_lt_of_pos (m.fdiv 5) hp0
  obtain ⟨f,ef,hf⟩:=jU (m:=m) l1 l2 f0 f1
  walk_at "rd"
  refine ⟨(by show k.high n 0 - k.low n 0+1≠0; omega),?_⟩
  walk_at "rd"
  refine ⟨_,_,_,rfl,rfl,ef,by rw [zC]; omega,?_⟩
  obtain ⟨r',e1,e2,e3⟩:=lP hlr hp (f:=f) (by rw [j1,j2]; exact hf)
  exact ⟨r',_,_,by rw [← e1]; rfl,e2,e3⟩
 ·rintro ρ' ⟨r,v6,v7,rfl,hl0,hp0⟩
  rw [ll] at hl0 hp0
  refine tp rfl ?_
  have:=tw r
  have hg:Lg k n r:=⟨fun p hp=>hp0 p (by omega),fun h=>by rcases hk with rfl | rfl | rfl | rfl <;> cases h⟩
  exact ⟨_,rfl,q _ hg.trim (by omega)⟩
abbrev xu:Stmt:=top 64
theorem sc_law_product:zi ["_law_one","_law_other","_law_totals","_law_i","_law_j"] ["_law_one","_law_other"] (defScope xu):=by walk_at "sc"
theorem tQ (T:Txt K mg A) (F:Fun K "_law_product" "_law_product" xu f fd):FnOk P w K mg base CX0 1 f fd ["_law_one","_law_other"] (yr K (mE)):=by
 refine okF F sc_law_product (by walk_at "ln") fun _ _ _ _ _ _ hr ds Q h=>?_
 obtain ⟨k,n,a,b,rfl,hk,hn,hLa,hLb,la,lb,q⟩:=h
 refine ⟨_,(zf (yZ (i:=2) sc_law_product.nd rfl (Or.inl rfl) (nt (xj (za zc zd)) (nv rfl rfl T.n_max (za zc (za (zk ym (zk zP (zI rfl T.len (dv 0)) (zI rfl T.len (dv 1))) zc) zd)))))
 (zf (vM (j:=3) rfl sc_law_product.nd rfl (Or.inl rfl) PassesOwn.never rfl T.range (zI rfl T.len (dv 0)) (ze (vM (j:=4) rfl sc_law_product.nd rfl (Or.inl rfl) PassesOwn.never rfl T.range (zI rfl T.len (dv 1)) (ze (Xp 2 (zk zP (dv 3) (dv 4)) (zk zP (qF 2 (zk zP (dv 3) (dv 4)) (fun _ _=>rfl)) (zk yR (zw (dv 0) (dv 3) (fun _ _=>rfl)) (zw (dv 1) (dv 4) (fun _ _=>rfl)))))))))
 (ze (wK 2)))),?_⟩
 have l1:=zC a
 have l2:=zC b
 walk_at "rd"
 have eL:(if ((a.map Dt.int).length:Int) + (b.map Dt.int).length - 1 > 0 then ((a.map Dt.int).length:Int) + (b.map Dt.int).length - 1 else 0)=((a.length + b.length - 1:Nat):Int):=by rw [l1,l2]; split <;> omega
 rw [eL]
 refine ⟨by omega,by omega,by show 1*_≤_; omega,?_⟩
 rw [Int.toNat_natCast,tM]
 refine ⟨_,rfl,?_⟩
 walk_at "rd"
 refine ⟨_,fun i ρ=>∃ (t:List Int) (v3 v4:Sl),ρ=[.some (zt a),.some (zt b),.own (t.map Dt.int),v3,v4]∧PI k n a b i 0 t,rfl,by omega,by omega,⟨_,_,_,rfl,PI.start a b⟩,?_,?_⟩
 ·rintro i ρ' hi ⟨t,v3,v4,rfl,hP⟩
  have hi':i<a.length:=by omega
  have fa:(a.getD i 0).natAbs≤122:=(qy hn hLa la i).1
  walk_at "rd"
  refine ⟨_,fun j ρ=>∃ (t:List Int) (v4:Sl),ρ=[.some (zt a),.some (zt b),.own (t.map Dt.int),.some (.int i),v4]∧PI k n a b i j t,rfl,by omega,by omega,⟨_,_,rfl,hP⟩,?_,?_⟩
  ·rintro j ρ' hj ⟨t,v4,rfl,hP⟩
   have hj':j<b.length:=by omega
   have lt:=hP.len
   have hat:atI (t.map Dt.int) ((i:Int)+j)=some (.int (hf t (i+j))):=by
    have:=wl (ns:=t) (i:=i+j) (by omega)
    rwa [Int.natCast_add] at this
   refine ⟨_,rfl,_,rfl,_,rfl,_,rfl,_,_,rfl,rfl,_,_,rfl,hat,?_⟩
   refine ⟨_,rfl,_,rfl,_,_,_,rfl,rfl,wl hi',_,rfl,_,rfl,_,_,_,rfl,rfl,wl hj',_,_,rfl,rfl,tz (by omega) (by omega) _,_,_,rfl,rfl,?_⟩
   refine ⟨_,rfl,_,rfl,_,_,rfl,rfl,_,_,rfl,ma (by omega) (by rw [zC]; omega),?_⟩
   rw [show ((i:Int)+j).toNat=i+j by omega,lV]
   exact ⟨_,_,rfl,hP.step hk hn hLa hLb la lb hi' hj'⟩
  ·rintro ρ' ⟨t,v4,rfl,hP⟩
   rw [Int.toNat_natCast,l2] at hP
   exact ⟨_,_,_,rfl,hP.next⟩
 ·rintro ρ' ⟨t,v3,v4,rfl,hP⟩
  rw [Int.toNat_natCast,l1] at hP
  obtain ⟨h1,h2,h3⟩:=hP.done la lb
  exact ⟨_,rfl,q t h1 h2 h3⟩
abbrev x_:Stmt:=top 56
theorem rX:zi ["_law_found"] ["_law_found"] (defScope x_):=by walk_at "sc"
theorem ql (T:Txt K mg A) (F:Fun K "_law_whole" "_law_whole" x_ f fd):FnOk P w K mg base CX0 1 f fd ["_law_found"] (zm K (ou)):=by
 refine okD F rX (by walk_at "ln") fun _ _ _ _ _ _ hr ds Q h=>?_
 obtain ⟨i,rfl,q⟩:=h
 refine ⟨_,(ze (zl (xk (ve (T:=.int) T.kt T.isinstance T.n_int PyProof.Rows.boot_int (dv 0)) (vd (iq (ve (T:=.bool) T.kt T.isinstance T.n_bool PyProof.Rows.boot_bool (dv 0))))))),?_⟩
 walk_at "rd"
 exact q
abbrev y7:Stmt:=top 62
theorem uG:zi ["_law_kind","_law_found"] ["_law_kind","_law_found"] (defScope y7):=by walk_at "sc"
theorem uM (T:Txt K mg A) (G__law_whole:DOk P w K mg base 1 "_law_whole" (ou)) (F:Fun K "_law_is_carry" "_law_is_carry" y7 f fd):FnOk P w K mg base CX0 2 f fd ["_law_kind","_law_found"] (zm K (iO)):=by
 refine okD F uG (by walk_at "ln") fun _ _ _ _ _ _ hr ds Q h=>?_
 obtain ⟨k,c,rfl,hk,hc,q⟩:=h
 refine ⟨_,(zf (zN (zB (sZ) (dv 0) zc (zv _)) (ze (zl (zj G__law_whole (hr.mono (by decide)) rfl (za (dv 1) zd)))) zx)
 (ze (zl (xk (ve (T:=.tuple) T.kt T.isinstance T.n_tuple PyProof.Rows.boot_tuple (dv 1)) (xk (ux (wP hr) (zI rfl T.len (dv 1)) zc (zv _)) (xk (zj G__law_whole (hr.mono (by decide)) rfl (za (zw (dv 1) zc (fun _ _=>rfl)) zd)) (vd (zj G__law_whole (hr.mono (by decide)) rfl (za (zw (dv 1) zc (fun _ _=>rfl)) zd))))))))),?_⟩
 rcases hk with rfl | rfl | rfl | rfl
 ·obtain ⟨a,rfl⟩:=hc
  walk_at "rd"
  exact q
 ·obtain ⟨a,rfl⟩:=hc
  walk_at "rd"
  exact q
 ·obtain ⟨a,rfl⟩:=hc
  walk_at "rd"
  exact q
 ·obtain ⟨a,b,rfl⟩:=hc
  walk_at "rd"
  exact q
abbrev xM:Stmt:=top 61
theorem sD:zi ["_law_kind","_law_size_here","_law_carry","_law_thing","_law_after"] ["_law_kind","_law_size_here","_law_carry","_law_thing","_law_after"] (defScope xM):=by walk_at "sc"
theorem sQ (T:Txt K mg A) (F:Fun K "_law_figure" "_law_figure" xM f fd):FnOk P w K mg base CX0 1 f fd ["_law_kind","_law_size_here","_law_carry","_law_thing","_law_after"] (zm K (iQ)):=by
 refine okD F sD (by walk_at "ln") fun _ _ _ _ _ _ hr ds Q h=>?_
 obtain ⟨k,n,c,a,t,f',rfl,hk,hn,hc,ha,e1,e2,q⟩:=h
 refine ⟨_,(zf (zN (zB (sZ) (dv 0) zc (zv _)) (ze (zl (zk ym (zk zP (dv 2) (dv 3)) (zk yR (dv 4) (zw (xj (za (dv 1) (za (zk ym zc (dv 1)) (za (zk zP (zk yR zc (dv 1)) zc) zd)))) (dv 0) (fun _ _=>rfl)))))) zx)
 (zf (zN (zB (oZ hr) (zk zP (zk ym (zw (dv 2) zc (fun _ _=>rfl)) (zw (dv 4) zc (fun _ _=>rfl))) (zk yR (dv 1) (zw (dv 4) zc (fun _ _=>rfl)))) zc (zv _)) (ze (zl (yf zc))) zx)
 (ze (zl (zk zP (zk zP (zk zP (zw (dv 2) zc (fun _ _=>rfl)) (dv 3)) (zk yR (dv 1) (zw (dv 4) zc (fun _ _=>rfl)))) (zw (dv 4) zc (fun _ _=>rfl))))))),?_⟩
 obtain ⟨b1,b2⟩:=vx hn
 rcases hk with rfl | rfl | rfl | rfl
 ·obtain ⟨x,rfl⟩:=hc
  obtain ⟨u,rfl⟩:=ha
  obtain rfl:f'=x+t - u*n:=by
   have e1':x+t=f'+(n*u - 0*0):=e1
   grind
  repeat (first | (walk_at "rd1") | refine ⟨small (by omega) (by omega) _,?_⟩ | refine ⟨_,_,_,rfl,rfl,rfl,?_⟩)
  exact q
 ·obtain ⟨x,rfl⟩:=hc
  obtain ⟨u,rfl⟩:=ha
  obtain rfl:f'=x+t - u*(0 - n):=by
   have e1':x+t=f'+(-n*u - 0*0):=e1
   grind
  repeat (first | (walk_at "rd1") | refine ⟨small (by omega) (by omega) _,?_⟩ | refine ⟨_,_,_,rfl,rfl,rfl,?_⟩)
  exact q
 ·obtain ⟨x,rfl⟩:=hc
  obtain ⟨u,rfl⟩:=ha
  obtain rfl:f'=x+t - u*(2*n+1):=by
   have e1':x+t=f'+((2*n+1)*u - 0*0):=e1
   grind
  repeat (first | (walk_at "rd1") | refine ⟨small (by omega) (by omega) _,?_⟩ | refine ⟨_,_,_,rfl,rfl,rfl,?_⟩)
  exact q
 ·obtain ⟨x,y,rfl⟩:=hc
  obtain ⟨u,v,rfl⟩:=ha
  simp only [Kd.ratN,Nm.re,Nm.im] at e1 e2
  have i1:x+t+n*u+v=f':=by
   have:-n*u=-(n*u):=Int.neg_mul ..
   have e1':x+t=f'+(-n*u - 1*v):=e1
   omega
  have i2:y - u+n*v=0:=by
   have:-n*v=-(n*v):=Int.neg_mul ..
   have e2':y=-n*v+1*u:=e2
   omega
  repeat (first | (walk_at "rd1") | refine ⟨tz (by omega) (by omega) _,?_⟩ | refine ⟨_,_,_,rfl,rfl,rfl,?_⟩)
  refine ifF (nT (eqI i2)) ?_
  repeat (first | (walk_at "rd1") | refine ⟨tz (by omega) (by omega) _,?_⟩ | refine ⟨_,_,_,rfl,rfl,rfl,?_⟩)
  show Q (.int (x+t+n*u+v))
  rw [i1]
  exact q
abbrev yU:Stmt:=top 63
theorem sc_law_walked:zi ["_law_kind","_law_size_here","_law_totals","_law_found","_law_none","_law_things","_law_figures","_law_least","_law_greatest","_law_place","_law_figure_here"] ["_law_kind","_law_size_here","_law_totals","_law_found"] (defScope yU):=by walk_at "sc"
theorem sP (T:Txt K mg A) (G__law_is_carry:DOk P w K mg base 2 "_law_is_carry" (iO)) (G__law_bounds:DOk P w K mg base 1 "_law_bounds" (nJ)) (G__law_figure:DOk P w K mg base 1 "_law_figure" (iQ)) (F:Fun K "_law_walked" "_law_walked" yU f fd):FnOk P w K mg base CX0 3 f fd ["_law_kind","_law_size_here","_law_totals","_law_found"] (yr K (qQ)):=by
 refine okF F sc_law_walked (by walk_at "ln") fun _ _ _ _ _ _ hr ds Q h=>?_
 obtain ⟨k,n,ts,J,rfl,hk,hn,F,hJ,q⟩:=h
 refine ⟨_,(zf (zq (i:=4) sc_law_walked.nd rfl (Or.inl rfl) (zw (xj (za zc (za zc (za zc (za (ye (za zc (za zc zd))) zd))))) (dv 0) (fun _ _=>rfl)))
 (z_ (zN (DW.dt (wW (xZ (zY (ve (T:=.list) T.kt T.isinstance T.n_list PyProof.Rows.boot_list (dv 3)))) (wx (xZ (zY (Xw rfl rfl T.n_all (DF.de (cQ (vN (osc:=defScope yU) (N0:=["_law_kind","_law_size_here","_law_totals","_law_found","_law_none","_law_things","_law_figures","_law_least","_law_greatest","_law_place","_law_figure_here"]) (bs:=["_law_carry"]) (caps:=["_law_kind"]) (js:=[0]) rfl (by decide +kernel) rfl rfl rfl (qE (dv 3)) (fun _ _ _ _ _=>(z0 (i:=0) (show List.Nodup [("_law_carry":Str),("_law_kind":Str)] by decide +kernel) rfl (Or.inl (lookup_relabel_local rfl)) (.inl rfl))) wE (fun _ _ _ _ _=>qG) (fun _ _ _ _ _=>(zj G__law_is_carry (hr.mono (by decide)) rfl (za (dv 1) (za (dv 0) zd))))))))))))) (ze yo) zx)
 (z_ (zN (DW.dt (wW (zB (sZ) (zI rfl T.len (dv 3)) (zk zP (zI rfl T.len (dv 2)) zc) (zv _)) (wW (zB (oZ hr) (zw (dv 3) zc (fun _ _=>rfl)) (dv 4) (zv _)) (wx (zB (oZ hr) (zw (dv 3) (yf zc) (fun _ _=>rfl)) (dv 4) (zv _)))))) (ze yo) zx)
 (zf (zq (i:=5) sc_law_walked.nd rfl (Or.inl rfl) (zk Ws (dv 2) (DF.de (nt (xj (za zc zd)) (zk ym (zk ym (zI rfl T.len (dv 3)) zc) (zI rfl T.len (dv 2)))))))
 (zf (yZ (i:=6) sc_law_walked.nd rfl (Or.inl rfl) (uw zd))
 (zf (j9 (i:=7) (j:=8) rfl sc_law_walked.nd rfl rfl (Or.inl rfl) (Or.inl rfl) (zj G__law_bounds (hr.mono (by decide)) rfl (za (dv 0) (za (dv 1) zd))))
 (zf (vM (j:=9) rfl sc_law_walked.nd rfl (Or.inl rfl) PassesOwn.never rfl T.range (zI rfl T.len (dv 5)) (zf (zq (i:=10) sc_law_walked.nd rfl (Or.inl rfl) (zj G__law_figure (hr.mono (by decide)) rfl (za (dv 0) (za (dv 1) (za (zw (dv 3) (dv 9) (fun _ _=>rfl)) (za (zw (dv 5) (dv 9) (fun _ _=>rfl)) (za (zw (dv 3) (zk zP (dv 9) zc) (fun _ _=>rfl)) zd)))))))
 (zf (zN (xZ (j8 (Wq) (Wq) (dv 7) (dv 10) (dv 8))) (ze yo) zx)
 (ze (sj 6 (dv 10))))))
 (zf (vK PassesOwn.never (DW.dt (xB (zB (gz) (u6 6 rfl T.len) zc (zv _)) (yG (zB (wP hr) (qF 6 (yf zc) (fun _ _=>rfl)) zc (zv _))))) (ze (nr 6)))
 (ze (wK 6)))))))))),?_⟩
 have h5:=s9 hk
 have ht:∀ u∈ts.map Nm.i,tot k u:=yk
 have lts:(ts.map Dt.int).length=ts.length:=List.length_map _
 have ltn:(ts.map Nm.i).length=ts.length:=List.length_map _
 have hle:=F.le
 have lcr:(yp k n (ts.map Nm.i) (J+1)).length=J+1:=by unfold yp; rw [List.length_map,qK]
 have cat:∀ i,i≤J→atI (yp k n (ts.map Nm.i) (J+1)) (i:Int)=some (cAt k n (ts.map Nm.i) i).dt:=fun i hi=>u8 (by
  unfold yp crs
  rw [List.getElem?_map,List.getElem?_map,List.getElem?_range (by omega)]
  rfl)
 have clast:atI (yp k n (ts.map Nm.i) (J+1)) (-1)=some (cAt k n (ts.map Nm.i) J).dt:=by
  have e:=cat J (Nat.le_refl _)
  unfold atI at e ⊢
  rw [pT (by rw [lcr]; exact Nat.succ_pos _),lcr]
  rw [ma (Int.natCast_nonneg _) (by rw [lcr]; omega)] at e
  exact e
 have h1:atI [Dt.int 0,.int 0,.int 0,.tup [.int 0,.int 0]] (Kd.q4 k)=some k.zero.dt:=by rcases hk with rfl | rfl | rfl | rfl <;> rfl
 have ez:eqD k.zero.dt k.zero.dt=true:=si 40 (xf _)
 refine ⟨rfl,rfl,_,rfl,_,_,_,rfl,rfl,h1,?_⟩
 refine ⟨fun ρ=>ρ=[.some (.int k.q4),.some (.int n),.some (zt ts),.some (.lst (yp k n (ts.map Nm.i) (J+1))),.some k.zero.dt,.none,.none,.none,.none,.none,.none],?_,?_⟩
 ·refine ⟨_,rfl,_,rfl,_,rfl,ifF rfl ?_⟩
  refine ⟨_,rfl,_,fun i es=>es=List.replicate i (.bl true),rfl,by rw [lcr]; omega,rfl,?_,?_⟩
  ·rintro i e es he rfl
   obtain ⟨m,hm,rfl⟩:∃ m:Nm,m.ty k∧e=m.dt:=by
    have he:(yp k n (ts.map Nm.i) (J+1))[i]? = some e:=he
    unfold yp crs at he
    rw [List.getElem?_map,List.getElem?_map] at he
    obtain ⟨m,g1,rfl⟩:=Option.map_eq_some_iff.mp he
    obtain ⟨j,_,rfl⟩:=Option.map_eq_some_iff.mp g1
    exact ⟨_,zZ k n _ j,rfl⟩
   exact ⟨_,rfl,_,rfl,k,m,rfl,hk,hm,List.replicate_succ'.symm⟩
  ·rintro es rfl
   refine ⟨List.replicate _ true,by rw [List.map_replicate],_,rfl,?_⟩
   have ea:∀ m,(List.replicate m true).all id=true:=fun m=>List.all_eq_true.mpr fun x hx=>List.eq_of_mem_replicate hx
   rw [ea]
   exact ifF rfl rfl
 rintro ρ rfl
 refine ⟨fun ρ=>ρ=[.some (.int k.q4),.some (.int n),.some (zt ts),.some (.lst (yp k n (ts.map Nm.i) (J+1))),.some k.zero.dt,.none,.none,.none,.none,.none,.none],?_,?_⟩
 ·refine ⟨_,rfl,_,rfl,_,rfl,_,rfl,_,_,rfl,rfl,_,_,rfl,rfl,_,rfl,ifF (decide_eq_false (by rw [lcr,lts]; omega)) ?_⟩
  refine ⟨_,rfl,_,_,_,rfl,rfl,cat 0 (Nat.zero_le _),_,rfl,xf _,xf _,_,rfl,ifF (nT ez) ?_⟩
  exact ⟨_,rfl,_,rfl,_,_,_,rfl,rfl,clast,_,rfl,xf _,xf _,_,rfl,ifF (nT (by rw [F.z]; exact ez)) rfl⟩
 rintro ρ rfl
 walk_at "rd"
 have em:(((yp k n (ts.map Nm.i) (J+1)).length:Int) - 1 - (ts.map Dt.int).length).toNat=J - ts.length:=by omega
 refine ⟨by omega,by omega,by show 1*_≤_; omega,?_⟩
 rw [em,tM]
 refine ⟨_,_,rfl,rfl,by rw [zC,zC,List.length_replicate]; omega,?_⟩
 rw [← List.map_append]
 have hU:(ts++List.replicate (J - ts.length) 0).length=J:=by rw [List.length_append,List.length_replicate]; omega
 have gU:∀ i,(ts++List.replicate (J - ts.length) 0).getD i 0=ts.getD i 0:=Xk ts (J - ts.length)
 generalize ts++List.replicate (J - ts.length) 0=U at *
 have lU:=zC U
 walk_at "rd"
 refine ⟨hk,hn,_,_,rfl,?_⟩
 walk_at "rd"
 refine ⟨_,fun i ρ=>∃ v9 v10,ρ=[.some (.int k.q4),.some (.int n),.some (zt ts),.some (.lst (yp k n (ts.map Nm.i) (J+1))),.some k.zero.dt,.some (zt U),.own ((yP k n (ts.map Nm.i) i).map Dt.int),.some (.int (k.low n 0)),.some (.int (k.high n 0)),v9,v10],rfl,by omega,by omega,⟨_,_,rfl⟩,?_,?_⟩
 ·rintro i ρ' hi ⟨v9,v10,rfl⟩
  have hi':i<J:=by omega
  obtain ⟨f1,f2,g1,g2⟩:=x9 (j:=i) h5 hn (xl (zZ k n (ts.map Nm.i) i) (z9 ht i))
  rw [zD,zo] at g1
  rw [zL,zu] at g2
  have g1:(cAt k n (ts.map Nm.i) i).re+((ts.map Nm.i).getD i (.i 0)).re=fAt k n (ts.map Nm.i) i+((k.ratN n i).re*(cAt k n (ts.map Nm.i) (i+1)).re - (k.ratN n i).im*(cAt k n (ts.map Nm.i) (i+1)).im):=g1
  have g2:(cAt k n (ts.map Nm.i) i).im+((ts.map Nm.i).getD i (.i 0)).im=(k.ratN n i).re*(cAt k n (ts.map Nm.i) (i+1)).im+(k.ratN n i).im*(cAt k n (ts.map Nm.i) (i+1)).re:=g2
  rw [Xl,qL hk] at g1 g2
  obtain ⟨j1,j2⟩:=nC hk n i
  have f1:k.low n i≤fAt k n (ts.map Nm.i) i:=f1
  have f2:fAt k n (ts.map Nm.i) i≤k.high n i:=f2
  rw [j1] at f1
  rw [j2] at f2
  have cat1:atI (yp k n (ts.map Nm.i) (J+1)) ((i:Int)+1)=some (cAt k n (ts.map Nm.i) (i+1)).dt:=cat (i+1) (by omega)
  have g1:(cAt k n (ts.map Nm.i) i).re+U.getD i 0=fAt k n (ts.map Nm.i) i+((k.ratN n 0).re*(cAt k n (ts.map Nm.i) (i+1)).re - (k.ratN n 0).im*(cAt k n (ts.map Nm.i) (i+1)).im):=by rw [gU]; exact g1
  have g2:(cAt k n (ts.map Nm.i) i).im=(k.ratN n 0).re*(cAt k n (ts.map Nm.i) (i+1)).im+(k.ratN n 0).im*(cAt k n (ts.map Nm.i) (i+1)).re:=by rw [← Int.add_zero (cAt k n (ts.map Nm.i) i).im]; exact g2
  refine ⟨_,rfl,_,rfl,_,rfl,_,rfl,_,_,_,rfl,rfl,cat i (by omega),_,rfl,_,rfl,_,_,_,rfl,rfl,wl (by omega),_,rfl,_,rfl,_,_,rfl,rfl,_,_,_,rfl,rfl,cat1,k,n,cAt k n (ts.map Nm.i) i,cAt k n (ts.map Nm.i) (i+1),U.getD i 0,fAt k n (ts.map Nm.i) i,rfl,hk,hn,zZ k n _ i,zZ k n _ (i+1),g1,g2,?_⟩
  refine ⟨_,rfl,_,rfl,_,_,rfl,rfl,_,rfl,ifT (decide_eq_true f1) ?_⟩
  refine ⟨_,rfl,_,_,rfl,rfl,_,rfl,?_⟩
  rw [decide_eq_true f2]
  refine ifF rfl ?_
  refine ⟨_,rfl,_,rfl,by rw [zC,xh]; omega,.some (.int i),.some (.int (fAt k n (ts.map Nm.i) i)),?_⟩
  rw [ut,← wz]
  rfl
 ·rintro ρ' ⟨v9,v10,rfl⟩
  rw [Int.toNat_natCast,lU,hU]
  refine tp rfl ?_
  exact ⟨_,rfl,q⟩
abbrev ue:Stmt:=top 11
theorem oM:zi ["number"] ["number"] (defScope ue):=by walk_at "sc"
theorem oY (T:Txt K mg A) (G_is_whole:DOk P w K mg base 1 "is_whole" (y0)) (F:Fun K "as_pair" "as_pair" ue f fd):FnOk P w K mg base CX0 2 f fd ["number"] (zm K (wM)):=by
 refine okD F oM (by walk_at "ln") fun _ _ _ _ _ _ hr ds Q h=>?_
 obtain ⟨d,m,rfl,hm,q⟩:=h
 refine ⟨_,(zf (zN (zY (zj G_is_whole (hr.mono (by decide)) rfl (za (dv 0) zd))) (ze (zl (ye (za (dv 0) (za zc zd))))) zx)
 (ze (zl (dv 0)))),?_⟩
 obtain rfl:=yF hm
 cases m with
 | i n=>
  walk_at "rd"
  exact q
 | p a b=>
  walk_at "rd"
  exact q
abbrev qc:Stmt:=top 12
theorem sc_added:zi ["one","other","left","right"] ["one","other"] (defScope qc):=by walk_at "sc"
theorem ky (T:Txt K mg A) (G_is_whole:DOk P w K mg base 1 "is_whole" (y0)) (G_as_pair:DOk P w K mg base 2 "as_pair" (wM)) (F:Fun K "added" "added" qc f fd):FnOk P w K mg base CX0 3 f fd ["one","other"] (zm K (qT)):=by
 refine okD F sc_added (by walk_at "ln") fun _ _ _ _ _ _ hr ds Q h=>?_
 obtain ⟨d,e,m,n,rfl,hm,hn,q⟩:=h
 refine ⟨_,(zf (zN (DW.dt (xB (zY (zj G_is_whole (hr.mono (by decide)) rfl (za (dv 0) zd))) (yG (zY (zj G_is_whole (hr.mono (by decide)) rfl (za (dv 1) zd)))))) (ze (zl (zk zP (dv 0) (dv 1)))) zx)
 (zf (zq (i:=2) sc_added.nd rfl (Or.inl rfl) (zj G_as_pair (hr.mono (by decide)) rfl (za (dv 0) zd)))
 (zf (zq (i:=3) sc_added.nd rfl (Or.inl rfl) (zj G_as_pair (hr.mono (by decide)) rfl (za (dv 1) zd)))
 (ze (zl (ye (za (zk zP (zw (dv 2) zc (fun _ _=>rfl)) (zw (dv 3) zc (fun _ _=>rfl))) (za (zk zP (zw (dv 2) zc (fun _ _=>rfl)) (zw (dv 3) zc (fun _ _=>rfl))) zd)))))))),?_⟩
 obtain rfl:=yF hm
 obtain rfl:=yF hn
 cases m <;> cases n
 all_goals
  walk_at "rd"
  exact q
abbrev w8:Stmt:=top 15
theorem pb:zi ["row","place"] ["row","place"] (defScope w8):=by walk_at "sc"
theorem pE (T:Txt K mg A) (F:Fun K "thing_at" "thing_at" w8 f fd):FnOk P w K mg base CX0 1 f fd ["row","place"] (zm K (vi)):=by
 refine okD F pb (by walk_at "ln") fun _ _ _ _ _ _ hr ds Q h=>?_
 obtain ⟨xs,p,rfl,hp,q⟩:=h
 refine ⟨_,(zf (zN (zB (sZ) (dv 1) (zI rfl T.len (dv 0)) (zv _)) (ze (zl (zw (dv 0) (dv 1) (fun _ _=>rfl)))) zx)
 (ze (zl zc))),?_⟩
 refine ⟨_,rfl,_,rfl,_,rfl,_,_,rfl,rfl,_,rfl,Vf (fun h=>?_) (fun h=>?_)⟩
 ·have h:p<(xs.length:Int):=of_decide_eq_true h
  have hl:p.toNat<xs.length:=by omega
  have e:((p.toNat:Nat):Int)=p:=Int.toNat_of_nonneg hp
  have:=u8 (List.getElem?_eq_getElem hl)
  rw [e] at this
  rw [List.getD_eq_getElem?_getD,List.getElem?_eq_getElem hl] at q
  exact ⟨_,rfl,_,rfl,_,_,_,rfl,rfl,this,q⟩
 ·have h:¬ p<(xs.length:Int):=fun z=>h (decide_eq_true z)
  rw [List.getD_eq_getElem?_getD,List.getElem?_eq_none (by omega)] at q
  exact q
abbrev xP:Stmt:=inClass (top 19) 0
theorem sH:zi ["self"] ["self"] (defScope xP):=by walk_at "sc"
theorem yD (T:Txt K mg A) (F:Fun K "nought" "Way.nought" xP f fd):FnOk P w K mg base CX0 1 f fd ["self"] (zm K (V0)):=by
 refine okD F sH (by walk_at "ln") fun _ _ _ _ _ _ hr ds Q h=>?_
 obtain ⟨o,rfl,q⟩:=h
 refine ⟨_,(ze (zl zc)),?_⟩
 exact q
abbrev y8:Stmt:=inClass (top 24) 1
theorem uH:zi ["self"] ["self"] (defScope y8):=by walk_at "sc"
theorem uN (T:Txt K mg A) (F:Fun K "nought" "Pairs.nought" y8 f fd):FnOk P w K mg base CX0 1 f fd ["self"] (zm K (VZ)):=by
 refine okD F uH (by walk_at "ln") fun _ _ _ _ _ _ hr ds Q h=>?_
 obtain ⟨o,rfl,q⟩:=h
 refine ⟨_,(ze (zl (ye (za zc (za zc zd))))),?_⟩
 exact ⟨rfl,q⟩
abbrev uh:Stmt:=inClass (top 19) 5
theorem oO:zi ["self","number"] ["self","number"] (defScope uh):=by walk_at "sc"
theorem tS (T:Txt K mg A) (G_is_whole:DOk P w K mg base 1 "is_whole" (y0)) (F:Fun K "has" "Way.has" uh f fd):FnOk P w K mg base CX0 2 f fd ["self","number"] (zm K (uz .plain)):=by
 refine okD F oO (by walk_at "ln") fun _ _ _ _ _ _ hr ds Q h=>?_
 obtain ⟨o,d,m,rfl,hm,q⟩:=h
 refine ⟨_,(ze (zl (xk (zj G_is_whole (hr.mono (by decide)) rfl (za (dv 1) zd)) (vd (ux (Wr) (dv 1) zc (zv _)))))),?_⟩
 obtain rfl:=yF hm
 cases m
 all_goals
  walk_at "rd"
  exact q
abbrev wg:Stmt:=inClass (top 21) 3
theorem rZ:zi ["self","number"] ["self","number"] (defScope wg):=by walk_at "sc"
theorem qr (T:Txt K mg A) (G_is_whole:DOk P w K mg base 1 "is_whole" (y0)) (F:Fun K "has" "Below.has" wg f fd):FnOk P w K mg base CX0 2 f fd ["self","number"] (zm K (uz .below)):=by
 refine okD F rZ (by walk_at "ln") fun _ _ _ _ _ _ hr ds Q h=>?_
 obtain ⟨o,d,m,rfl,hm,q⟩:=h
 refine ⟨_,(ze (zl (zj G_is_whole (hr.mono (by decide)) rfl (za (dv 1) zd)))),?_⟩
 obtain rfl:=yF hm
 cases m
 all_goals
  walk_at "rd"
  exact q
abbrev xa:Stmt:=inClass (top 22) 4
theorem uK:zi ["self","number"] ["self","number"] (defScope xa):=by walk_at "sc"
theorem uQ (T:Txt K mg A) (G_is_whole:DOk P w K mg base 1 "is_whole" (y0)) (F:Fun K "has" "Balanced.has" xa f fd):FnOk P w K mg base CX0 2 f fd ["self","number"] (zm K (uz .balanced)):=by
 refine okD F uK (by walk_at "ln") fun _ _ _ _ _ _ hr ds Q h=>?_
 obtain ⟨o,d,m,rfl,hm,q⟩:=h
 refine ⟨_,(ze (zl (zj G_is_whole (hr.mono (by decide)) rfl (za (dv 1) zd)))),?_⟩
 obtain rfl:=yF hm
 cases m
 all_goals
  walk_at "rd"
  exact q
abbrev ub:Stmt:=top 10
theorem oI:zi ["value"] ["value"] (defScope ub):=by walk_at "sc"
theorem oV (T:Txt K mg A) (G_is_whole:DOk P w K mg base 1 "is_whole" (y0)) (F:Fun K "is_pair" "is_pair" ub f fd):FnOk P w K mg base CX0 2 f fd ["value"] (zm K (rN)):=by
 refine okD F oI (by walk_at "ln") fun _ _ _ _ _ _ hr ds Q h=>?_
 obtain ⟨d,m,rfl,hm,q⟩:=h
 refine ⟨_,(ze (zl (xk (ve (T:=.tuple) T.kt T.isinstance T.n_tuple PyProof.Rows.boot_tuple (dv 0)) (xk (ux (wP hr) (zI rfl T.len (dv 0)) zc (zv _)) (xk (zj G_is_whole (hr.mono (by decide)) rfl (za (zw (dv 0) zc (fun _ _=>rfl)) zd)) (vd (zj G_is_whole (hr.mono (by decide)) rfl (za (zw (dv 0) zc (fun _ _=>rfl)) zd)))))))),?_⟩
 obtain rfl:=yF hm
 cases m
 all_goals
  walk_at "rd"
  exact q
abbrev wd:Stmt:=inClass (top 24) 5
theorem rY:zi ["self","number"] ["self","number"] (defScope wd):=by walk_at "sc"
theorem qp (T:Txt K mg A) (G_is_pair:DOk P w K mg base 2 "is_pair" (rN)) (F:Fun K "has" "Pairs.has" wd f fd):FnOk P w K mg base CX0 3 f fd ["self","number"] (zm K (uz .pairs)):=by
 refine okD F rY (by walk_at "ln") fun _ _ _ _ _ _ hr ds Q h=>?_
 obtain ⟨o,d,m,rfl,hm,q⟩:=h
 refine ⟨_,(ze (zl (zj G_is_pair (hr.mono (by decide)) rfl (za (dv 1) zd)))),?_⟩
 obtain rfl:=yF hm
 refine ⟨_,rfl,_,m,rfl,hm,?_⟩
 cases m <;> exact q
abbrev uf:Stmt:=inClass (top 19) 1
theorem oN:zi ["self","place"] ["self","place"] (defScope uf):=by walk_at "sc"
theorem xW (T:Txt K mg A) (F:Fun K "low" "Way.low" uf f fd):FnOk P w K mg base CX0 1 f fd ["self","place"] (zm K (XS)):=by
 refine okD F oN (by walk_at "ln") fun _ _ _ _ _ _ hr ds Q h=>?_
 obtain ⟨o,p,rfl,q⟩:=h
 refine ⟨_,(ze (zl zc)),?_⟩
 exact q
abbrev y_:Stmt:=inClass (top 22) 1
theorem uJ:zi ["self","place"] ["self","place"] (defScope y_):=by walk_at "sc"
theorem uP (T:Txt K mg A) (F:Fun K "low" "Balanced.low" y_ f fd):FnOk P w K mg base CX0 1 f fd ["self","place"] (zm K (x5 A .balanced (Kd.low .balanced))):=by
 refine okD F uJ (by walk_at "ln") fun _ _ _ _ _ _ hr ds Q h=>?_
 obtain ⟨n,p,rfl,hn,q⟩:=h
 refine ⟨_,(ze (zl (yf (z8 (dv 0))))),?_⟩
 exact ⟨_,rfl,_,_,_,rfl,rfl,T.U3,T.Tm,_,rfl,q⟩
abbrev xQ:Stmt:=inClass (top 20) 1
theorem sJ:zi ["self","place"] ["self","place"] (defScope xQ):=by walk_at "sc"
theorem sU (T:Txt K mg A) (F:Fun K "high" "Plain.high" xQ f fd):FnOk P w K mg base CX0 1 f fd ["self","place"] (zm K (x5 A .plain (Kd.high .plain))):=by
 refine okD F sJ (by walk_at "ln") fun _ _ _ _ _ _ hr ds Q h=>?_
 obtain ⟨n,p,rfl,hn,q⟩:=h
 refine ⟨_,(ze (zl (zk ym (z8 (dv 0)) zc))),?_⟩
 exact ⟨_,rfl,_,_,_,rfl,rfl,T.U4,T.Tu,_,_,rfl,rfl,q⟩
abbrev xS:Stmt:=inClass (top 21) 1
theorem sN:zi ["self","place"] ["self","place"] (defScope xS):=by walk_at "sc"
theorem sY (T:Txt K mg A) (F:Fun K "high" "Below.high" xS f fd):FnOk P w K mg base CX0 1 f fd ["self","place"] (zm K (x5 A .below (Kd.high .below))):=by
 refine okD F sN (by walk_at "ln") fun _ _ _ _ _ _ hr ds Q h=>?_
 obtain ⟨n,p,rfl,hn,q⟩:=h
 refine ⟨_,(ze (zl (zk ym (z8 (dv 0)) zc))),?_⟩
 exact ⟨_,rfl,_,_,_,rfl,rfl,T.U5,T.Tv,_,_,rfl,rfl,q⟩
abbrev yL:Stmt:=inClass (top 22) 2
theorem vY:zi ["self","place"] ["self","place"] (defScope yL):=by walk_at "sc"
theorem uj (T:Txt K mg A) (F:Fun K "high" "Balanced.high" yL f fd):FnOk P w K mg base CX0 1 f fd ["self","place"] (zm K (x5 A .balanced (Kd.high .balanced))):=by
 refine okD F vY (by walk_at "ln") fun _ _ _ _ _ _ hr ds Q h=>?_
 obtain ⟨n,p,rfl,hn,q⟩:=h
 refine ⟨_,(ze (zl (z8 (dv 0)))),?_⟩
 exact ⟨_,rfl,_,_,_,rfl,rfl,T.U3,T.Tm,q⟩
abbrev y9:Stmt:=inClass (top 23) 1
theorem uI:zi ["self","place"] ["self","place"] (defScope y9):=by walk_at "sc"
theorem uO (T:Txt K mg A) (F:Fun K "high" "Falling.high" y9 f fd):FnOk P w K mg base CX0 1 f fd ["self","place"] (zm K (x5 A .falling (Kd.high .falling))):=by
 refine okD F uI (by walk_at "ln") fun _ _ _ _ _ _ hr ds Q h=>?_
 obtain ⟨n,p,rfl,hn,q⟩:=h
 refine ⟨_,(ze (zl (z8 (dv 0)))),?_⟩
 exact ⟨_,rfl,_,_,_,rfl,rfl,T.Tb,T.So,q⟩
abbrev xR:Stmt:=inClass (top 24) 2
theorem sL:zi ["self","place"] ["self","place"] (defScope xR):=by walk_at "sc"
theorem sW (T:Txt K mg A) (F:Fun K "high" "Pairs.high" xR f fd):FnOk P w K mg base CX0 1 f fd ["self","place"] (zm K (x5 A .pairs (Kd.high .pairs))):=by
 refine okD F sL (by walk_at "ln") fun _ _ _ _ _ _ hr ds Q h=>?_
 obtain ⟨n,p,rfl,hn,q⟩:=h
 refine ⟨_,(ze (zl (zk yR (z8 (dv 0)) (z8 (dv 0))))),?_⟩
 obtain ⟨h1,h2⟩:=vx hn
 exact ⟨_,rfl,_,_,_,rfl,rfl,T.UU,T.U6,_,rfl,_,_,_,rfl,rfl,T.UU,T.U6,_,_,rfl,rfl,small (by omega) (by omega) _,q⟩
abbrev xw:Stmt:=inClass (top 20) 2
theorem tH:zi ["self","place"] ["self","place"] (defScope xw):=by walk_at "sc"
theorem tT (T:Txt K mg A) (F:Fun K "ratio" "Plain.ratio" xw f fd):FnOk P w K mg base CX0 1 f fd ["self","place"] (zm K (vj A .plain (Kd.ratN .plain))):=by
 refine okD F tH (by walk_at "ln") fun _ _ _ _ _ _ hr ds Q h=>?_
 obtain ⟨n,p,rfl,hn,q⟩:=h
 refine ⟨_,(ze (zl (z8 (dv 0)))),?_⟩
 exact ⟨_,rfl,_,_,_,rfl,rfl,T.U4,T.Tu,q⟩
abbrev xz:Stmt:=inClass (top 21) 2
theorem tJ:zi ["self","place"] ["self","place"] (defScope xz):=by walk_at "sc"
theorem tW (T:Txt K mg A) (F:Fun K "ratio" "Below.ratio" xz f fd):FnOk P w K mg base CX0 1 f fd ["self","place"] (zm K (vj A .below (Kd.ratN .below))):=by
 refine okD F tJ (by walk_at "ln") fun _ _ _ _ _ _ hr ds Q h=>?_
 obtain ⟨n,p,rfl,hn,q⟩:=h
 refine ⟨_,(ze (zl (yf (z8 (dv 0))))),?_⟩
 exact ⟨_,rfl,_,_,_,rfl,rfl,T.U5,T.Tv,_,rfl,q⟩
abbrev yz:Stmt:=inClass (top 22) 3
theorem vo:zi ["self","place"] ["self","place"] (defScope yz):=by walk_at "sc"
theorem vy (T:Txt K mg A) (F:Fun K "ratio" "Balanced.ratio" yz f fd):FnOk P w K mg base CX0 1 f fd ["self","place"] (zm K (vj A .balanced (Kd.ratN .balanced))):=by
 refine okD F vo (by walk_at "ln") fun _ _ _ _ _ _ hr ds Q h=>?_
 obtain ⟨n,p,rfl,hn,q⟩:=h
 refine ⟨_,(ze (zl (zk zP (zk yR zc (z8 (dv 0))) zc))),?_⟩
 exact ⟨_,rfl,_,_,_,rfl,rfl,T.U3,T.Tm,_,_,rfl,rfl,Y7 (by decide),_,_,rfl,rfl,q⟩
abbrev xy:Stmt:=inClass (top 24) 3
theorem tI:zi ["self","place"] ["self","place"] (defScope xy):=by walk_at "sc"
theorem tV (T:Txt K mg A) (F:Fun K "ratio" "Pairs.ratio" xy f fd):FnOk P w K mg base CX0 1 f fd ["self","place"] (zm K (vj A .pairs (Kd.ratN .pairs))):=by
 refine okD F tI (by walk_at "ln") fun _ _ _ _ _ _ hr ds Q h=>?_
 obtain ⟨n,p,rfl,hn,q⟩:=h
 refine ⟨_,(ze (zl (ye (za (yf (z8 (dv 0))) (za zc zd))))),?_⟩
 exact ⟨_,rfl,_,_,_,rfl,rfl,T.UU,T.U6,_,rfl,rfl,q⟩
abbrev wc:Stmt:=inClass (top 19) 4
theorem sc_Way_split:zi ["self","total","place","low","figures","figure"] ["self","total","place"] (defScope wc):=by walk_at "sc"
theorem xV (T:Txt K mg A) (HLo:∀ k:Kd,MOk P w K mg base 1 (A.at k) "low" (x5 A k (k.low))∧MOk P w K mg base 1 (A.at k) "high" (x5 A k (k.high))) (HR:∀ k:Kd,k.five=true→MOk P w K mg base 1 (A.at k) "ratio" (vj A k (k.ratN))) (F:Fun K "split" "Way.split" wc f fd):FnOk P w K mg base CX0 2 f fd ["self","total","place"] (zm K (iK A)):=by
 refine okD F sc_Way_split (by walk_at "ln") fun _ _ _ _ _ _ hr ds Q h=>?_
 obtain ⟨k,n,t,j,rfl,h4,hn,hj,q⟩:=h
 refine ⟨_,(zf (zq (i:=3) sc_Way_split.nd rfl (Or.inl rfl) (xr hr (dv 0) (za (dv 2) zd)))
 (zf (zq (i:=4) sc_Way_split.nd rfl (Or.inl rfl) (zk zP (zk ym (xr hr (dv 0) (za (dv 2) zd)) (dv 3)) zc))
 (zf (zq (i:=5) sc_Way_split.nd rfl (Or.inl rfl) (zk zP (dv 3) (zk xE (zk ym (dv 1) (dv 3)) (dv 4))))
 (ze (zl (ye (za (dv 5) (za (zk tX (zk ym (dv 1) (dv 5)) (xr hr (dv 0) (za (dv 2) zd))) zd)))))))),?_⟩
 obtain ⟨M1,M2⟩:=HLo k
 have h5:k.five=true:=by cases k <;> first | rfl | cases h4
 have M3:=HR k h5
 obtain ⟨e1,e2⟩:=rT h4 n j
 have hp:=tE h4 hn j
 have hr:k.ratN n j=.i (k.rat n j):=by cases k <;> first | rfl | cases h4
 have hb:(k.rat n j).natAbs<1073741824:=by
  obtain ⟨b1,b2⟩:=vx hn
  cases k <;> cases h4 <;> simp only [Kd.rat] <;> omega
 refine ⟨_,rfl,_,_,_,_,rfl,cK k,M1.mono (by decide),_,rfl,n,j,rfl,hn,?_⟩
 refine ⟨_,rfl,_,_,_,_,rfl,j6 k,M2.mono (by decide),_,rfl,n,j,rfl,hn,_,rfl,_,_,rfl,rfl,_,_,rfl,rfl,?_⟩
 refine ⟨_,rfl,_,rfl,_,rfl,_,_,rfl,rfl,_,rfl,_,_,rfl,rfl,(show k.high n j - k.low n j+1≠0 by omega),_,_,rfl,rfl,?_⟩
 refine ⟨_,rfl,_,rfl,_,rfl,_,_,rfl,rfl,_,rfl,_,_,_,_,rfl,mr k,M3.mono (by decide),_,rfl,n,j,rfl,hn,?_⟩
 rw [hr]
 refine ⟨_,_,rfl,rfl,⟨by omega,hb⟩,rfl,?_⟩
 cases k <;> cases h4 <;> exact q
abbrev xL:Stmt:=top 13
theorem sc_multiplied:zi ["one","other","left","right"] ["one","other"] (defScope xL):=by walk_at "sc"
theorem sO (T:Txt K mg A) (G_is_whole:DOk P w K mg base 1 "is_whole" (y0)) (G_as_pair:DOk P w K mg base 2 "as_pair" (wM)) (F:Fun K "multiplied" "multiplied" xL f fd):FnOk P w K mg base CX0 3 f fd ["one","other"] (zm K (nH)):=by
 refine okD F sc_multiplied (by walk_at "ln") fun _ _ _ _ _ _ hr ds Q h=>?_
 obtain ⟨d,e,m,n,rfl,hm,hn,k1,q⟩:=h
 refine ⟨_,(zf (zN (DW.dt (xB (zY (zj G_is_whole (hr.mono (by decide)) rfl (za (dv 0) zd))) (yG (zY (zj G_is_whole (hr.mono (by decide)) rfl (za (dv 1) zd)))))) (ze (zl (zk yR (dv 0) (dv 1)))) zx)
 (zf (zq (i:=2) sc_multiplied.nd rfl (Or.inl rfl) (zj G_as_pair (hr.mono (by decide)) rfl (za (dv 0) zd)))
 (zf (zq (i:=3) sc_multiplied.nd rfl (Or.inl rfl) (zj G_as_pair (hr.mono (by decide)) rfl (za (dv 1) zd)))
 (ze (zl (ye (za (zk ym (zk yR (zw (dv 2) zc (fun _ _=>rfl)) (zw (dv 3) zc (fun _ _=>rfl))) (zk yR (zw (dv 2) zc (fun _ _=>rfl)) (zw (dv 3) zc (fun _ _=>rfl)))) (za (zk zP (zk yR (zw (dv 2) zc (fun _ _=>rfl)) (zw (dv 3) zc (fun _ _=>rfl))) (zk yR (zw (dv 2) zc (fun _ _=>rfl)) (zw (dv 3) zc (fun _ _=>rfl)))) zd)))))))),?_⟩
 obtain rfl:=yF hm
 obtain rfl:=yF hn
 obtain ⟨h1,h2,h3,h4⟩:=k1
 cases m <;> cases n
 all_goals
  walk_at "rd"
  first | refine ⟨h1,?_⟩ | skip
  walk_at "rd"
  first | exact q | skip
  try refine ⟨h2,?_⟩
  walk_at "rd"
  try refine ⟨h3,?_⟩
  walk_at "rd"
  try refine ⟨h4,?_⟩
  walk_at "rd"
  try exact q
abbrev xx:Stmt:=inClass (top 24) 4
theorem Tk:zi ["self","total","place","pair","figures","figure","turned"] ["self","total","place"] (defScope xx):=by walk_at "sc"
theorem tU (T:Txt K mg A) (G_as_pair:DOk P w K mg base 2 "as_pair" (wM)) (G_multiplied:DOk P w K mg base 3 "multiplied" (nH)) (F:Fun K "split" "Pairs.split" xx f fd):FnOk P w K mg base CX0 4 f fd ["self","total","place"] (zm K (iL A)):=by
 refine okD F Tk (by walk_at "ln") fun _ _ _ _ _ _ hr ds Q h=>?_
 obtain ⟨n,d,m,j,rfl,hm,hn,q⟩:=h
 refine ⟨_,(zf (zq (i:=3) Tk.nd rfl (Or.inl rfl) (zj G_as_pair (hr.mono (by decide)) rfl (za (dv 1) zd)))
 (zf (zq (i:=4) Tk.nd rfl (Or.inl rfl) (zk zP (zk yR (z8 (dv 0)) (z8 (dv 0))) zc))
 (zf (zq (i:=5) Tk.nd rfl (Or.inl rfl) (zk xE (zk zP (zw (dv 3) zc (fun _ _=>rfl)) (zk yR (z8 (dv 0)) (zw (dv 3) zc (fun _ _=>rfl)))) (dv 4)))
 (zf (zq (i:=6) Tk.nd rfl (Or.inl rfl) (zj G_multiplied (hr.mono (by decide)) rfl (za (ye (za (zk ym (zw (dv 3) zc (fun _ _=>rfl)) (dv 5)) (za (zw (dv 3) zc (fun _ _=>rfl)) zd))) (za (ye (za (yf (z8 (dv 0))) (za (yf zc) zd))) zd))))
 (ze (zl (ye (za (dv 5) (za (ye (za (zk tX (zw (dv 6) zc (fun _ _=>rfl)) (dv 4)) (za (zk tX (zw (dv 6) zc (fun _ _=>rfl)) (dv 4)) zd))) zd))))))))),?_⟩
 have hn1:1≤n:=hn.1
 have hn2:n≤9:=hn.2
 have sq:n*n≤81:=by
  have:=Int.mul_le_mul hn2 hn2 (by omega) (by omega)
  omega
 have sq0:0≤n*n:=Int.mul_nonneg (by omega) (by omega)
 have hN:mL 0 (n*n+1):=⟨by omega,by omega⟩
 refine ⟨_,rfl,_,m,rfl,hm,?_⟩
 refine ⟨_,rfl,_,_,_,rfl,rfl,T.UU,T.U6,_,rfl,_,_,_,rfl,rfl,T.UU,T.U6,_,_,rfl,rfl,small (by omega) (by omega) _,_,_,rfl,rfl,?_⟩
 refine ⟨_,rfl,_,_,_,rfl,rfl,rfl,_,rfl,_,_,_,rfl,rfl,T.UU,T.U6,_,rfl,_,_,_,rfl,rfl,rfl,_,_,rfl,rfl,tz (by omega) (by omega) _,_,_,rfl,rfl,_,rfl,_,_,rfl,rfl,(show n*n+1≠0 by omega),?_⟩
 repeat (first | (walk_at "rd1") | refine ⟨_,_,_,rfl,rfl,T.UU,T.U6,?_⟩)
 refine ⟨⟨small (show -1000000≤-n by omega) (show -n≤1000000 by omega) _,small (show (-1000000:Int)≤-1 by decide) (show (-1:Int)≤1000000 by decide) _,small (show (-1000000:Int)≤-1 by decide) (show (-1:Int)≤1000000 by decide) _,small (show -1000000≤-n by omega) (show -n≤1000000 by omega) _⟩,?_⟩
 repeat (first | (walk_at "rd1") | refine ⟨hN,?_⟩)
 exact q
abbrev zX:Stmt:=top 26
theorem sc_figures_and_carries:zi ["way","totals","figures","carry","found","place","parts"] ["way","totals"] (defScope zX):=by walk_at "sc"
theorem xU (T:Txt K mg A) (G_added:DOk P w K mg base 3 "added" (qT)) (G_thing_at:DOk P w K mg base 1 "thing_at" (vi)) (HNo:∀ k:Kd,MOk P w K mg base 1 (A.at k) "nought" (V1 k)) (HHas:∀ k:Kd,MOk P w K mg base 3 (A.at k) "has" (uz k)) (HSp:∀ k:Kd,k.five=true→MOk P w K mg base 4 (A.at k) "split" (mC A k)) (F:Fun K "figures_and_carries" "figures_and_carries" zX f fd):FnOk P w K mg base (CX1 P w) 5 f fd ["way","totals"] (qP K (.t true true) (iR A)):=by
 refine Uj F sc_figures_and_carries (by walk_at "ln") fun _ _ _ _ _ _ hr ds Q R h rz=>?_
 obtain ⟨k,n,ts,rfl,h5,hn,ht,hlt0,hw⟩:=h
 refine ⟨_,(zf (zN (zY (vO T.isinstance T.Te (dv 0))) (ze yo) zx)
 (zf (yZ (i:=2) sc_figures_and_carries.nd rfl (Or.inl rfl) (uw zd))
 (zf (zq (i:=3) sc_figures_and_carries.nd rfl (Or.inl rfl) (og hr (dv 0)))
 (zf (yZ (i:=4) sc_figures_and_carries.nd rfl (Or.inl rfl) (uw (za (dv 3) zd)))
 (zf (vK Ui (DW.dt (wW (zB (sZ) (u6 2 rfl T.len) (zI rfl T.len (dv 1)) (zv _)) (wx (zB (oZ hr) (dv 3) (og hr (dv 0)) (zv _))))) (zf (zq (i:=5) sc_figures_and_carries.nd rfl (Or.inl rfl) (u6 2 rfl T.len))
 (z_ (zN (DW.dt (xB (zB (Wr) (dv 5) (zI rfl T.len (dv 1)) (zv _)) (yG (xZ (zY (xr hr (dv 0) (za (dv 3) zd))))))) (ze (ig rfl rfl T.Tw T.Tj Xu)) zx)
 (zf (zq (i:=6) sc_figures_and_carries.nd rfl (Or.inl rfl) (xr hr (dv 0) (za (zj G_added (hr.mono (by decide)) rfl (za (dv 3) (za (zj G_thing_at (hr.mono (by decide)) rfl (za (dv 1) (za (dv 5) zd))) zd))) (za (dv 5) zd))))
 (zf (sj 2 (zw (dv 6) zc (fun _ _=>rfl)))
 (zf (zq (i:=3) sc_figures_and_carries.nd rfl (Or.inl rfl) (zw (dv 6) zc (fun _ _=>rfl)))
 (ze (sj 4 (dv 3)))))))))
 (ze (ic 2 4))))))),?_⟩
 have ll:(ts.map Nm.dt).length=ts.length:=List.length_map _
 refine ⟨_,rfl,_,_,_,_,rfl,pU T k,kiF T k,_,rfl,?_⟩
 refine ifF (wv h5) ?_
 refine ⟨rfl,_,rfl,_,rfl,_,_,_,_,rfl,vJ k,(HNo k).mono (by decide),_,rfl,_,rfl,rfl,_,rfl,?_⟩
 rcases hw with ⟨J,F,hJ,q⟩ | ⟨hneg,hR⟩
 ·refine ⟨fun m ρ=>∃ j v5 v6,ρ=[.some (z6 A k n),.some (vn ts),.own ((yP k n ts j).map Dt.int),.some (cAt k n ts j).dt,.own (yp k n ts (j+1)),v5,v6]∧m=J - j∧j≤J,⟨J,0,_,_,rfl,rfl,Nat.zero_le _⟩,?_⟩
  rintro m ρ' ⟨j,v5,v6,rfl,rfl,hj⟩
  have fl:=xh k n ts j
  have fl':((yP k n ts j).map Dt.int).length=j:=by rw [List.length_map,fl]
  have cl:(yp k n ts (j+1)).length=j+1:=by unfold yp; rw [List.length_map,qK]
  have hcz:cAt k n ts j=k.zero↔eqD (cAt k n ts j).dt k.zero.dt=true:=(j0 (zZ k n ts j) (z5 k)).symm
  refine ⟨_,rfl,_,rfl,_,rfl,_,_,rfl,rfl,_,rfl,?_⟩
  by_cases hjJ:j<J
  ·refine ifB (fun _=>ifT rfl ?_) (fun hlt=>⟨_,rfl,_,rfl,_,_,_,_,rfl,vJ k,(HNo k).mono (by decide),_,rfl,xf _,xf _,_,rfl,ifT (nF ?_) ?_⟩)
   rotate_left
   ·have hle:ts.length≤j:=by have:=of_decide_eq_false hlt; omega
    cases e:eqD (cAt k n ts j).dt k.zero.dt with
    | false=>rfl
    | true=>exact absurd (hcz.mpr e) (F.nz j hle hjJ).1
   all_goals
    refine ⟨_,rfl,?_⟩
    rw [fl']
    refine ⟨fun ρ=>ρ=[.some (z6 A k n),.some (vn ts),.own ((yP k n ts j).map Dt.int),.some (cAt k n ts j).dt,.own (yp k n ts (j+1)),.some (.int j),v6],?_,?_⟩
    ·refine ⟨_,rfl,_,rfl,_,rfl,_,_,rfl,rfl,_,rfl,?_⟩
     refine ifB (fun hge=>?_) (fun _=>ifF rfl rfl)
     have hge:ts.length≤j:=by have:=of_decide_eq_true hge; omega
     refine ⟨_,rfl,_,_,_,_,rfl,cL k,(HHas k).mono (by decide),_,rfl,_,_,_,rfl,yE _,_,rfl,?_⟩
     rw [(F.nz j hge hjJ).2]
     exact ifF rfl rfl
    ·rintro ρ' rfl
     refine ⟨_,rfl,_,_,_,_,rfl,mq k,(HSp k h5).mono (by decide),_,rfl,_,rfl,_,rfl,_,_,rfl,by omega,?_⟩
     rw [Int.toNat_natCast,uY]
     refine ⟨_,_,_,_,rfl,yE _,yE _,_,rfl,n,_,j,rfl,xl (zZ k n ts j) (z9 ht j),hn,by omega,?_⟩
     refine ⟨_,rfl,_,rfl,_,_,_,rfl,rfl,rfl,by omega,?_⟩
     refine ⟨_,rfl,_,_,_,rfl,rfl,rfl,?_⟩
     refine ⟨_,rfl,_,rfl,by omega,J - (j+1),by omega,j+1,.some (.int j),.some (.tup [.int (fAt k n ts j),(cAt k n ts (j+1)).dt]),?_,rfl,hjJ⟩
     have ef:(yP k n ts j).map Dt.int++[Dt.int (fAt k n ts j)]=(yP k n ts (j+1)).map Dt.int:=by rw [ut,wz]
     have ec:yp k n ts (j+1)++[(cAt k n ts (j+1)).dt]=yp k n ts (j+1+1):=by unfold yp; rw [ol k n ts (j+1),List.map_append]; rfl
     rw [← ec,← ef]
     rfl
  ·have ej:j=J:=by omega
   subst ej
   refine ifF (decide_eq_false (by rw [fl',ll]; have:=F.le; omega)) ?_
   refine ⟨_,rfl,_,rfl,_,_,_,_,rfl,vJ k,(HNo k).mono (by decide),_,rfl,xf _,xf _,_,rfl,ifF (nT (hcz.mp F.z)) ?_⟩
   exact ⟨_,rfl,_,rfl,q⟩
 ·have hcn:cAt k n ts ts.length≠k.zero:=fun e=>by rw [e,jP] at hneg; cases hneg
  refine ⟨fun m ρ=>∃ j v5 v6,ρ=[.some (z6 A k n),.some (vn ts),.own ((yP k n ts j).map Dt.int),.some (cAt k n ts j).dt,.own (yp k n ts (j+1)),v5,v6]∧m=ts.length - j∧j≤ts.length,⟨ts.length,0,_,_,rfl,rfl,Nat.zero_le _⟩,?_⟩
  rintro m ρ' ⟨j,v5,v6,rfl,rfl,hj⟩
  have fl:=xh k n ts j
  have fl':((yP k n ts j).map Dt.int).length=j:=by rw [List.length_map,fl]
  have cl:(yp k n ts (j+1)).length=j+1:=by unfold yp; rw [List.length_map,qK]
  have hcz:cAt k n ts j=k.zero↔eqD (cAt k n ts j).dt k.zero.dt=true:=(j0 (zZ k n ts j) (z5 k)).symm
  refine ⟨_,rfl,_,rfl,_,rfl,_,_,rfl,rfl,_,rfl,?_⟩
  by_cases hjl:j<ts.length
  ·refine ifT (decide_eq_true (by rw [fl',ll]; omega)) (ifT rfl ?_)
   refine ⟨_,rfl,?_⟩
   rw [fl']
   refine ⟨fun ρ=>ρ=[.some (z6 A k n),.some (vn ts),.own ((yP k n ts j).map Dt.int),.some (cAt k n ts j).dt,.own (yp k n ts (j+1)),.some (.int j),v6],?_,?_⟩
   ·exact ⟨_,rfl,_,rfl,_,rfl,_,_,rfl,rfl,_,rfl,ifF (decide_eq_false (by rw [ll]; omega)) (ifF rfl rfl)⟩
   ·rintro ρ' rfl
    refine ⟨_,rfl,_,_,_,_,rfl,mq k,(HSp k h5).mono (by decide),_,rfl,_,rfl,_,rfl,_,_,rfl,by omega,?_⟩
    rw [Int.toNat_natCast,uY]
    refine ⟨_,_,_,_,rfl,yE _,yE _,_,rfl,n,_,j,rfl,xl (zZ k n ts j) (z9 ht j),hn,by omega,?_⟩
    refine ⟨_,rfl,_,rfl,_,_,_,rfl,rfl,rfl,by omega,?_⟩
    refine ⟨_,rfl,_,_,_,rfl,rfl,rfl,?_⟩
    refine ⟨_,rfl,_,rfl,by omega,ts.length - (j+1),by omega,j+1,.some (.int j),.some (.tup [.int (fAt k n ts j),(cAt k n ts (j+1)).dt]),?_,rfl,hjl⟩
    have ef:(yP k n ts j).map Dt.int++[Dt.int (fAt k n ts j)]=(yP k n ts (j+1)).map Dt.int:=by rw [ut,wz]
    have ec:yp k n ts (j+1)++[(cAt k n ts (j+1)).dt]=yp k n ts (j+1+1):=by unfold yp; rw [ol k n ts (j+1),List.map_append]; rfl
    rw [← ec,← ef]
    rfl
  ·have ej:j=ts.length:=by omega
   subst ej
   refine ifF (decide_eq_false (by rw [fl',ll]; omega)) ?_
   refine ⟨_,rfl,_,rfl,_,_,_,_,rfl,vJ k,(HNo k).mono (by decide),_,rfl,xf _,xf _,_,rfl,ifT (nF ?_) ?_⟩
   ·cases e:eqD (cAt k n ts ts.length).dt k.zero.dt with
    | false=>rfl
    | true=>exact absurd (hcz.mpr e) hcn
   ·refine ⟨_,rfl,?_⟩
    rw [fl']
    refine ⟨fun _=>False,?_,fun _ h=>h.elim⟩
    refine ⟨_,rfl,_,rfl,_,rfl,_,_,rfl,rfl,_,rfl,ifT (decide_eq_true (by rw [ll]; omega)) ?_⟩
    refine ⟨_,rfl,_,_,_,_,rfl,cL k,(HHas k).mono (by decide),_,rfl,_,_,_,rfl,yE _,_,rfl,?_⟩
    rw [hneg]
    exact ifT rfl (rz _ hR)
abbrev uc:Stmt:=top 28
theorem oJ:zi ["way","totals"] ["way","totals"] (defScope uc):=by walk_at "sc"
theorem oW (T:Txt K mg A) (G_figures_and_carries:TOkX P w K mg base 5 "figures_and_carries" (.t true true) (iR A)) (F:Fun K "carries" "carries" uc f fd):FnOk P w K mg base (CX1 P w) 6 f fd ["way","totals"] (xm K (qS A)):=by
 refine gw F oJ (by walk_at "ln") fun _ _ _ _ _ _ hr ds Q R h rz=>?_
 obtain ⟨k,n,ts,rfl,h5,hn,ht,hl,hw⟩:=h
 refine ⟨_,(ze (wL (Xs (ik G_figures_and_carries (hr.mono (by decide)) rfl (za (dv 0) (za (dv 1) zd))) (fun _ _=>rfl)))),?_⟩
 refine ⟨_,rfl,_,rfl,k,n,ts,rfl,h5,hn,ht,hl,?_⟩
 rcases hw with ⟨J,F,hJ,q⟩ | ⟨hneg,hR⟩
 ·exact .inl ⟨J,F,hJ,_,_,rfl,q⟩
 ·exact .inr ⟨hneg,rz _ hR⟩
abbrev zG:Stmt:=top 39
theorem sc_has_mosts_above_noughts_alone:zi ["way","row","place"] ["way","row"] (defScope zG):=by walk_at "sc"
theorem yl (T:Txt K mg A) (F:Fun K "has_mosts_above_noughts_alone" "has_mosts_above_noughts_alone" zG f fd):FnOk P w K mg base CX0 1 f fd ["way","row"] (zm K (mG A)):=by
 refine okD F sc_has_mosts_above_noughts_alone (by walk_at "ln") fun _ _ _ _ _ _ hr ds Q h=>?_
 obtain ⟨n,r,rfl,hn,hl,q⟩:=h
 refine ⟨_,(zf (ii (j:=2) rfl sc_has_mosts_above_noughts_alone.nd rfl (Or.inl rfl) PassesOwn.never rfl T.range (za zc (za (zI rfl T.len (dv 1)) zd)) (ze (zN (DW.dt (xB (zB (wP hr) (zw (dv 1) (dv 2) (fun _ _=>rfl)) (z8 (dv 0)) (zv _)) (yG (zB (oZ hr) (zw (dv 1) (zk ym (dv 2) zc) (fun _ _=>rfl)) zc (zv _))))) (ze (zl wX)) zx)))
 (ze (zl wX))),?_⟩
 walk_at "rd"
 have ll:=zC r
 refine ⟨_,_,fun i ρ=>∃ v,ρ=[.some (z6 A .falling n),.some (zt r),v]∧∀ p:Nat,p<i→r.getD (p+1) 0=n→r.getD p 0=0,rfl,by decide,by decide,by omega,by omega,⟨_,rfl,fun p hp=>absurd hp (Nat.not_lt_zero _)⟩,?_,?_⟩
 ·rintro i ρ' hi ⟨v,rfl,hp⟩
  rw [ll] at hi
  have e1:(1+(i:Int)).toNat=i+1:=by omega
  have e2:(1+(i:Int) - 1).toNat=i:=by omega
  refine ⟨_,rfl,_,rfl,_,_,_,rfl,rfl,qN (by omega) (by omega),_,rfl,_,_,_,rfl,rfl,T.Tb,T.So,rfl,rfl,_,rfl,?_⟩
  rw [e1]
  refine ifB (fun h=>?_) (fun h=>ifF rfl ?_)
  ·refine ⟨_,rfl,_,rfl,_,_,rfl,rfl,_,_,_,rfl,rfl,qN (by omega) (by omega),rfl,rfl,_,rfl,?_⟩
   rw [e2]
   refine ifB (fun h'=>?_) (fun h'=>?_)
   ·refine q false ⟨fun z=>(Bool.false_ne_true z).elim,fun z=>?_⟩
    exact absurd (z i (by omega) (kA h)) (kz (Wn h'))
   ·refine ⟨.some (.int (1+i)),rfl,fun p hp'=>?_⟩
    rcases (by omega:p<i∨p=i) with z | z
    ·exact hp p z
    ·subst z
     exact fun _=>kA (Wo h')
  ·refine ⟨.some (.int (1+i)),rfl,fun p hp'=>?_⟩
   rcases (by omega:p<i∨p=i) with z | z
   ·exact hp p z
   ·subst z
    exact fun z=>absurd z (kz h)
 ·rintro ρ' ⟨v,rfl,hp⟩
  rw [ll] at hp
  exact q true ⟨fun _ p hp'=>hp p (by omega),fun _=>rfl⟩
abbrev z7:Stmt:=top 38
theorem sc_has_figures_alone:zi ["way","row","place","thing"] ["way","row"] (defScope z7):=by walk_at "sc"
theorem wo (T:Txt K mg A) (HLo:∀ k:Kd,MOk P w K mg base 1 (A.at k) "low" (x5 A k (k.low))∧MOk P w K mg base 1 (A.at k) "high" (x5 A k (k.high))) (F:Fun K "has_figures_alone" "has_figures_alone" z7 f fd):FnOk P w K mg base CX0 2 f fd ["way","row"] (zm K (iP A)):=by
 refine okD F sc_has_figures_alone (by walk_at "ln") fun _ _ _ _ _ _ hr ds Q h=>?_
 obtain ⟨k,n,r,rfl,hn,hl,q⟩:=h
 refine ⟨_,(zf (uv (i:=2) (j:=3) rfl sc_has_figures_alone.nd rfl rfl (Or.inl rfl) (Or.inl rfl) PassesOwn.never rfl T.n_enumerate (za (dv 1) zd) (ze (zN (DW.dt (wW (zB (sZ) (dv 3) (xr hr (dv 0) (za (dv 2) zd)) (zv _)) (wx (zB (gz) (dv 3) (xr hr (dv 0) (za (dv 2) zd)) (zv _))))) (ze (zl wX)) zx)))
 (ze (zl wX))),?_⟩
 obtain ⟨M1,M2⟩:=HLo k
 walk_at "rd"
 refine ⟨_,_,fun i ρ=>∃ v u,ρ=[.some (z6 A k n),.some (zt r),v,u]∧∀ p:Nat,p<i→k.low n p≤r.getD p 0∧r.getD p 0≤k.high n p,rfl,rfl,⟨_,_,rfl,fun p hp=>absurd hp (Nat.not_lt_zero _)⟩,?_,?_⟩
 ·rintro i x ρ' hx ⟨v,u,rfl,hp⟩
  obtain ⟨rfl,hi⟩:=jT hx
  refine ⟨_,rfl,_,rfl,_,_,_,_,rfl,cK k,M1.mono (by decide),_,rfl,n,i,rfl,hn,_,_,rfl,rfl,_,rfl,?_⟩
  refine ifB (fun h=>ifT rfl ?_) (fun h=>?_)
  ·refine q false ⟨fun z=>(Bool.false_ne_true z).elim,fun z=>?_⟩
   have:=z i hi
   have h:=of_decide_eq_true h
   omega
  ·refine ⟨_,rfl,_,rfl,_,_,_,_,rfl,j6 k,M2.mono (by decide),_,rfl,n,i,rfl,hn,_,_,rfl,rfl,_,rfl,?_⟩
   have h:=of_decide_eq_false h
   refine ifB (fun h'=>?_) (fun h'=>?_)
   ·refine q false ⟨fun z=>(Bool.false_ne_true z).elim,fun z=>?_⟩
    have:=z i hi
    have h':=of_decide_eq_true h'
    omega
   ·have h':=of_decide_eq_false h'
    refine ⟨.some (.int i),.some (.int (r.getD i 0)),rfl,fun p hp'=>?_⟩
    rcases (by omega:p<i∨p=i) with z | z
    ·exact hp p z
    ·subst z
     omega
 ·rintro ρ' ⟨v,u,rfl,hp⟩
  rw [zC] at hp
  exact q true ⟨fun _=>hp,fun _=>rfl⟩
abbrev xO:Stmt:=top 40
theorem sG:zi ["way","row"] ["way","row"] (defScope xO):=by walk_at "sc"
theorem sS (T:Txt K mg A) (G_has_mosts_above_noughts_alone:DOk P w K mg base 1 "has_mosts_above_noughts_alone" (mG A)) (G_has_figures_alone:DOk P w K mg base 2 "has_figures_alone" (iP A)) (F:Fun K "is_writing" "is_writing" xO f fd):FnOk P w K mg base CX0 3 f fd ["way","row"] (zm K (cS A)):=by
 refine okD F sG (by walk_at "ln") fun _ _ _ _ _ _ hr ds Q h=>?_
 obtain ⟨k,n,r,rfl,hn,hl,q⟩:=h
 refine ⟨_,(z_ (zN (DW.dt (xB (Xo (dv 1)) (yG (zB (wP hr) (zw (dv 1) (yf zc) (fun _ _=>rfl)) zc (zv _))))) (ze (zl wX)) zx)
 (z_ (zN (DW.dt (xB (zY (vO T.isinstance T.Te (dv 0))) (yG (xZ (zY (zj G_has_mosts_above_noughts_alone (hr.mono (by decide)) rfl (za (dv 0) (za (dv 1) zd)))))))) (ze (zl wX)) zx)
 (ze (zl (zj G_has_figures_alone (hr.mono (by decide)) rfl (za (dv 0) (za (dv 1) zd))))))),?_⟩
 refine ⟨fun ρ=>ρ=[.some (z6 A k n),.some (zt r)]∧(r=[]∨r.getD (r.length - 1) 0≠0),?_,?_⟩
 ·walk_at "rd"
  rcases zK r with rfl | ⟨l,z,rfl⟩
  ·exact ifF rfl (ifF rfl ⟨rfl,.inl rfl⟩)
  ·have ez:(l++[z]).getD ((l++[z]).length - 1) 0=z:=by rw [List.length_append]; simp [List.getD_eq_getElem?_getD]
   refine ifT (by simp) ⟨_,rfl,_,rfl,_,_,_,rfl,rfl,vT,rfl,rfl,_,rfl,?_⟩
   by_cases hz:z=0
   ·refine ifT (eqI hz) ?_
    rw [qv (fun L=>by
     rcases L.end_ with h | h
     ·simp at h
     ·rw [ez] at h; exact h hz)] at q
    exact q
   ·refine ifF (neI hz) ⟨rfl,.inr (by rw [ez]; exact hz)⟩
 ·rintro ρ' ⟨rfl,hend⟩
  refine ⟨fun ρ=>ρ=[.some (z6 A k n),.some (zt r)]∧(k.isF=true→∀ p,p+1<r.length→r.getD (p+1) 0=n→r.getD p 0=0),?_,?_⟩
  ·refine ⟨_,rfl,_,_,_,_,rfl,pU T k,kiF T k,_,rfl,?_⟩
   cases hk:k.isF with
   | false=>exact ifF rfl (ifF rfl ⟨rfl,fun z=>(Bool.false_ne_true z).elim⟩)
   | true=>
    have ek:k=.falling:=by cases k <;> first | rfl | cases hk
    subst ek
    refine ifT rfl ⟨_,rfl,_,rfl,n,r,rfl,hn,hl,fun b hb=>⟨_,rfl,?_⟩⟩
    cases b with
    | true=>exact ifF rfl ⟨rfl,fun _=>hb.mp rfl⟩
    | false=>
     refine ifT rfl ?_
     rw [qv (fun L=>Bool.false_ne_true (hb.mpr (L.fal rfl)))] at q
     exact q
  ·rintro ρ' ⟨rfl,hf⟩
   refine ⟨_,rfl,_,rfl,k,n,r,rfl,hn,hl,fun b hb=>?_⟩
   cases b with
   | true=>rw [n8 ⟨hb.mp rfl,hf,hend⟩] at q; exact q
   | false=>rw [qv (fun L=>Bool.false_ne_true (hb.mpr L.fig))] at q; exact q
abbrev zW:Stmt:=top 41
theorem sc_held_to_be_writings:zi ["way","rows","row"] ["way","rows"] (defScope zW):=by walk_at "sc"
theorem xT (T:Txt K mg A) (G_is_writing:DOk P w K mg base 3 "is_writing" (cS A)) (F:Fun K "held_to_be_writings" "held_to_be_writings" zW f fd):FnOk P w K mg base CX0 4 f fd ["way","rows"] (zm K (qR A)):=by
 refine okD F sc_held_to_be_writings (by walk_at "ln") fun _ _ _ _ _ _ hr ds Q h=>?_
 obtain ⟨k,n,rs,rfl,hn,hrs,q⟩:=h
 refine ⟨_,(ze (ij (j:=2) rfl sc_held_to_be_writings.nd rfl (Or.inl rfl) PassesOwn.never (dv 1) (ze (zN (xZ (zY (zj G_is_writing (hr.mono (by decide)) rfl (za (dv 0) (za (dv 2) zd))))) (ze yo) zx)))),?_⟩
 refine ⟨_,rfl,_,fun i ρ=>∃ v,ρ=[.some (z6 A k n),.some (.lst (rs.map zt)),v],rfl,⟨_,rfl⟩,?_,?_⟩
 ·rintro i e ρ' he ⟨v,rfl⟩
  obtain ⟨r,hm,rfl⟩:=List.mem_map.mp (List.mem_of_getElem? he)
  obtain ⟨hL,hl⟩:=hrs r hm
  refine ⟨_,rfl,_,rfl,k,n,r,rfl,hn,hl,_,rfl,?_⟩
  rw [n8 hL]
  exact ifF rfl ⟨_,rfl⟩
 ·rintro ρ' ⟨v,rfl⟩
  exact q
abbrev xp:Stmt:=top 45
theorem rW:zi ["row","factor"] ["row","factor"] (defScope xp):=by walk_at "sc"
theorem qk (T:Txt K mg A) (G_multiplied:DOk P w K mg base 3 "multiplied" (nH)) (F:Fun K "row_times" "row_times" xp f fd):FnOk P w K mg base CX0 4 f fd ["row","factor"] (zm K (sy)):=by
 refine okD F rW (by walk_at "ln") fun _ _ _ _ _ _ hr ds Q h=>?_
 obtain ⟨a,f,rfl,ha,⟨f1,f2,f3,f4⟩,q⟩:=h
 refine ⟨_,(ze (zl (DF.de (cQ (vN (osc:=defScope xp) (N0:=["row","factor"]) (bs:=["thing"]) (caps:=["factor"]) (js:=[1]) rfl (by decide +kernel) rfl rfl rfl (qE (dv 0)) (fun _ _ _ _ _=>(z0 (i:=0) (show List.Nodup [("thing":Str),("factor":Str)] by decide +kernel) rfl (Or.inl (lookup_relabel_local rfl)) (.inl rfl))) wE (fun _ _ _ _ _=>qG) (fun _ _ _ _ _=>(zj G_multiplied (hr.mono (by decide)) rfl (za (dv 0) (za (dv 1) zd))))))))),?_⟩
 have ll:=zC a
 refine ⟨_,rfl,a.map Dt.int,fun i es=>es=((a.take i).map fun z=>(Nm.i z).mul f).map Nm.dt,rfl,by rw [ll]; omega,rfl,?_,?_⟩
 ·rintro i e es hi rfl
  obtain ⟨rfl,hl⟩:=hZ hi
  refine ⟨_,rfl,_,rfl,_,_,.i (a.getD i 0),f,rfl,rfl,yE f,⟨small f1 f2 _,small f3 f4 _,small f3 f4 _,small f1 f2 _⟩,?_⟩
  show List.map Nm.dt (List.map (fun z=>(Nm.i z).mul f) (a.take i))++[_]=List.map Nm.dt (List.map (fun z=>(Nm.i z).mul f) (a.take (i+1)))
  rw [mT hl,List.map_append,List.map_append]
  rfl
 ·rintro es rfl
  rw [ll,List.take_length]
  exact q
abbrev vZ:Stmt:=top 16
theorem sc_trimmed:zi ["row","things"] ["row"] (defScope vZ):=by walk_at "sc"
theorem oT (T:Txt K mg A) (F:Fun K "trimmed" "trimmed" vZ f fd):FnOk P w K mg base CX0 1 f fd ["row"] (yr K (iI)):=by
 refine okF F sc_trimmed (by walk_at "ln") fun _ _ _ _ _ _ hr ds Q h=>?_
 obtain ⟨r,rfl,q⟩:=h
 refine ⟨_,(zf (yZ (i:=1) sc_trimmed.nd rfl (Or.inl rfl) (yb rfl T.n_list (dv 0)))
 (zf (vK PassesOwn.never (DW.dt (xB (cc 1) (yG (zB (wP hr) (qF 1 (yf zc) (fun _ _=>rfl)) zc (zv _))))) (ze (nr 1)))
 (ze (wK 1)))),?_⟩
 refine ⟨_,rfl,_,rfl,_,rfl,?_⟩
 exact q0 rfl ⟨_,rfl,q⟩
abbrev ua:Stmt:=top 27
theorem oH:zi ["way","totals"] ["way","totals"] (defScope ua):=by walk_at "sc"
theorem oU (T:Txt K mg A) (G_trimmed:FOk P w K mg base 1 "trimmed" (iI)) (G_figures_and_carries:TOkX P w K mg base 5 "figures_and_carries" (.t true true) (iR A)) (F:Fun K "settled" "settled" ua f fd):FnOk P w K mg base (CX1 P w) 6 f fd ["way","totals"] (xm K (sx A)):=by
 refine gw F oH (by walk_at "ln") fun _ _ _ _ _ _ hr ds Q R h rz=>?_
 obtain ⟨k,n,ts,rfl,h5,hn,ht,hl,hw⟩:=h
 refine ⟨_,(ze (wL (yH G_trimmed (hr.mono (by decide)) rfl (za (zw (ir G_figures_and_carries.dok (hr.mono (by decide)) rfl (za (dv 0) (za (dv 1) zd))) zc (fun _ _=>rfl)) zd)))),?_⟩
 refine ⟨_,rfl,_,rfl,k,n,ts,rfl,h5,hn,ht,hl,?_⟩
 rcases hw with ⟨J,F,hJ,q⟩ | ⟨hneg,hR⟩
 ·exact .inl ⟨J,F,hJ,_,_,_,rfl,rfl,rfl,_,rfl,q⟩
 ·exact .inr ⟨hneg,rz _ hR⟩
abbrev xt:Stmt:=top 42
theorem tF:zi ["way","row"] ["way","row"] (defScope xt):=by walk_at "sc"
theorem tP (T:Txt K mg A) (G_settled:FOkX P w K mg base 6 "settled" (sx A)) (F:Fun K "written_row" "written_row" xt f fd):FnOk P w K mg base (CX1 P w) 7 f fd ["way","row"] (xm K (u9 A)):=by
 refine gw F tF (by walk_at "ln") fun _ _ _ _ _ _ hr ds Q R h rz=>?_
 obtain ⟨k,n,ts,b,rfl,h5,hn,hl,ht,hb,b7,b8,q,hR⟩:=h
 refine ⟨_,(zf (zN (zY (vO T.isinstance T.Te (dv 0))) (ze yo) zx)
 (ze (wL (yK G_settled (hr.mono (by decide)) rfl (za (dv 0) (za (dv 1) zd)))))),?_⟩
 refine ⟨_,rfl,_,_,_,_,rfl,pU T k,kiF T k,_,rfl,?_⟩
 refine ifF (wv h5) ?_
 refine ⟨_,rfl,_,rfl,k,n,ts,rfl,h5,hn,ht,by omega,?_⟩
 by_cases hh:yd k (cAt k n ts ts.length)=true
 ·obtain ⟨J,F,hJ,_⟩:=rV h5 hn ht hb b7 hh
  refine .inl ⟨J,F,by omega,q _ (w6 h5 hn ht) (wZ F h5 hn ht) ?_⟩
  have:=tw (yP k n ts J)
  rw [xh] at this
  show (trim (yP k n ts J)).length≤_
  omega
 ·have hneg:yd k (cAt k n ts ts.length)=false:=by cases e:yd k (cAt k n ts ts.length) with | false=>rfl | true=>exact absurd e hh
  have hp:wn k:=Classical.byContradiction fun z=>hh (t_ h5 z (zZ k n ts _))
  refine .inr ⟨hneg,rz _ (hR hp ?_)⟩
  have:¬ 0≤(zU k n ts).re:=fun z=>hh ((vf hp hn ht _).mp z)
  omega
abbrev xK:Stmt:=top 44
theorem sc_row_plus:zi ["one","other","many"] ["one","other"] (defScope xK):=by walk_at "sc"
theorem pF (T:Txt K mg A) (G_added:DOk P w K mg base 3 "added" (qT)) (G_thing_at:DOk P w K mg base 1 "thing_at" (vi)) (F:Fun K "row_plus" "row_plus" xK f fd):FnOk P w K mg base CX0 4 f fd ["one","other"] (zm K (u_)):=by
 refine okD F sc_row_plus (by walk_at "ln") fun _ _ _ _ _ _ hr ds Q h=>?_
 obtain ⟨a,b,rfl,ha,hb,q⟩:=h
 refine ⟨_,(zf (zq (i:=2) sc_row_plus.nd rfl (Or.inl rfl) (nv rfl rfl T.n_max (za (zI rfl T.len (dv 0)) (za (zI rfl T.len (dv 1)) zd))))
 (ze (zl (DF.de (VU (vN (osc:=defScope xK) (N0:=["one","other","many"]) (bs:=["place"]) (caps:=["one","other"]) (js:=[0,1]) rfl (by decide +kernel) rfl rfl rfl (sk rfl T.range (dv 2)) (fun _ _ _ _ _=>(z0 (i:=0) (show List.Nodup [("place":Str),("one":Str),("other":Str)] by decide +kernel) rfl (Or.inl (lookup_relabel_local rfl)) (.inl rfl))) wE (fun _ _ _ _ _=>qG) (fun _ _ _ _ _=>(zj G_added (hr.mono (by decide)) rfl (za (zj G_thing_at (hr.mono (by decide)) rfl (za (dv 1) (za (dv 0) zd))) (za (zj G_thing_at (hr.mono (by decide)) rfl (za (dv 2) (za (dv 0) zd))) zd)))))))))),?_⟩
 have l1:(a.map Nm.dt).length=a.length:=List.length_map _
 have l2:(b.map Nm.dt).length=b.length:=List.length_map _
 walk_at "rd"
 have em:(if ((b.map Nm.dt).length:Int)>((a.map Nm.dt).length:Int) then ((b.map Nm.dt).length:Int) else ((a.map Nm.dt).length:Int))=((max a.length b.length:Nat):Int):=by
  rw [l1,l2]; split <;> omega
 rw [em]
 refine ⟨_,fun i es=>es=((List.range i).map fun p=>(a.getD p (.i 0)).add (b.getD p (.i 0))).map Nm.dt,rfl,by omega,by omega,rfl,?_,?_⟩
 ·rintro i es hi rfl
  refine ⟨_,rfl,_,rfl,_,i,rfl,by omega,?_⟩
  refine ⟨_,rfl,_,rfl,_,i,rfl,by omega,?_⟩
  rw [Int.toNat_natCast,uY,uY]
  refine ⟨_,_,a.getD i (.i 0),b.getD i (.i 0),rfl,yE _,yE _,?_⟩
  show List.map Nm.dt (List.map (fun p=>(a.getD p (.i 0)).add (b.getD p (.i 0))) (List.range i))++[_]=List.map Nm.dt (List.map (fun p=>(a.getD p (.i 0)).add (b.getD p (.i 0))) (List.range (i+1)))
  rw [List.range_succ,List.map_append,List.map_append]
  rfl
 ·rintro es rfl
  rw [Int.toNat_natCast]
  exact q
abbrev yx:Stmt:=top 49
theorem sc_times_by_ratio:zi ["way","one","other","product","place","above"] ["way","one","other"] (defScope yx):=by walk_at "sc"
theorem vv (T:Txt K mg A) (G_row_times:DOk P w K mg base 4 "row_times" (sy)) (G_written_row:FOkX P w K mg base 7 "written_row" (u9 A)) (G_row_plus:DOk P w K mg base 4 "row_plus" (u_)) (HR:∀ k:Kd,k.five=true→MOk P w K mg base 1 (A.at k) "ratio" (vj A k (k.ratN))) (F:Fun K "times_by_ratio" "times_by_ratio" yx f fd):FnOk P w K mg base CX0 8 f fd ["way","one","other"] (yr K (ox A)):=by
 refine okF F sc_times_by_ratio (by walk_at "ln") fun _ _ _ _ _ _ hr ds Q h=>?_
 obtain ⟨k,n,a,b,rfl,h5,hn,hLa,hLb,hw,q⟩:=h
 refine ⟨_,(zf (yZ (i:=3) sc_times_by_ratio.nd rfl (Or.inl rfl) (uw zd))
 (zf (cf (j:=4) rfl sc_times_by_ratio.nd rfl (Or.inl rfl) PassesOwn.never rfl T.range (za (zk ym (zI rfl T.len (dv 2)) zc) (za (yf zc) (za (yf zc) zd))) (ce 3 (zf (zq (i:=5) sc_times_by_ratio.nd rfl (Or.inl rfl) (zj G_row_times (hr.mono (by decide)) rfl (za (dv 3) (za (xr hr (dv 0) (za (dv 4) zd)) zd))))
 (ze (yZ (i:=3) sc_times_by_ratio.nd rfl (Or.inl rfl) (yK G_written_row (hr.mono (by decide)) rfl (za (dv 0) (za (zj G_row_plus (hr.mono (by decide)) rfl (za (dv 5) (za (zj G_row_times (hr.mono (by decide)) rfl (za (dv 1) (za (zw (dv 2) (dv 4) (fun _ _=>rfl)) zd))) zd))) zd))))))))
 (ze (wK 3)))),?_⟩
 have l1:=zC a
 have l2:=zC b
 obtain ⟨w1,w2,w3,w4⟩:=id hw
 walk_at "rd"
 refine ⟨_,_,fun i ρ=>∃ (r:List Int) (v4 v5:Sl),ρ=[.some (z6 A k n),.some (zt a),.some (zt b),.own (r.map Dt.int),v4,v5]∧Legal k n r∧zg k n r=(zg k n a).mul (hv k n b i (b.length - i))∧r.length≤870,rfl,by omega,by omega,by decide,by decide,⟨[],_,_,rfl,lf k n,(Vc (zA k n a)).symm,by decide⟩,?_,?_⟩
 ·rintro i ρ' hi ⟨r,v4,v5,rfl,hr,hwr,hlr⟩
  obtain ⟨p,hp⟩:∃ p:Nat,p+i+1=b.length:=⟨b.length - 1 - i,by omega⟩
  have ep:((List.map Dt.int b).length:Int) - 1 - i=p:=by omega
  rw [ep]
  have eb:b.length - i=p+1:=by omega
  have eb':b.length - (i+1)=p:=by omega
  rw [eb] at hwr
  have lr:=wj r (k.ratN n p)
  have la:=wj a (.i (b.getD p 0))
  have hl:=tZ (xn r (k.ratN n p)) (xn a (.i (b.getD p 0)))
  have t1:=tK (a:=r) (uT k n p)
  have t2:=tK (a:=a) (rd k (b.getD p 0))
  have hww:zU k n (wQ (xn r (k.ratN n p)) (xn a (.i (b.getD p 0))))=(zg k n a).mul (hv k n b (i+1) p):=by
   rw [qZ t1 t2,uB r (uT k n p),uB a (rd k _),hwr]
   exact d6 (zA k n a) (mf k n b i (p+1)) (uT k n p) (mf k n b (i+1) p)
  have fo:(b.getD p 0).natAbs≤122:=(qy hn hLb w2 p).1
  refine ⟨_,rfl,_,rfl,_,rfl,_,_,_,_,rfl,mr k,(HR k h5).mono (by decide),_,rfl,n,p,rfl,hn,r,k.ratN n p,rfl,by omega,bh hn (by omega) (by omega),?_⟩
  refine ⟨_,rfl,_,rfl,_,rfl,_,rfl,_,rfl,_,_,_,rfl,rfl,wl (show p<b.length by omega),a,.i (b.getD p 0),rfl,by omega,⟨by show -1000000≤b.getD p 0; omega,by show b.getD p 0≤1000000; omega,by show (-1000000:Int)≤0; decide,by show (0:Int)≤1000000; decide⟩,xn r (k.ratN n p),_,rfl,by omega,by omega,?_⟩
  refine ⟨k,n,_,25,rfl,h5,hn,by omega,pK t1 t2,fun t ht=>?_,by decide,by decide,fun r' hr' hw' _=>?_,fun hk hneg=>?_⟩
  ·obtain ⟨u,rfl⟩:=pL ht
   obtain ⟨x1,x2⟩:=qd r (k.ratN n p) u
   obtain ⟨y1,y2⟩:=qd a (.i (b.getD p 0)) u
   rw [zD,zL,x1,x2,y1,y2]
   have g1:=vF hn hr (by omega) u
   have g2:=(qy hn hLa w1 u).1
   obtain ⟨z1,z2⟩:=bg (p:=p) hn (by omega)
   have m1:=yq g1 z1
   have m2:=yq g1 z2
   have m3:(hf a u*(b.getD p 0)).natAbs≤122*122:=yq g2 fo
   show (hf r u*(k.ratN n p).re+hf a u*(b.getD p 0)).natAbs≤33554432∧(hf r u*(k.ratN n p).im+hf a u*0).natAbs≤33554432
   rw [Int.mul_zero]
   generalize hf r u * (k.ratN n p).re=Y1 at *
   generalize hf r u * (k.ratN n p).im=Y2 at *
   generalize hf a u * b.getD p 0=Y3 at *
   exact ⟨by omega,by omega⟩
  ·exact ⟨_,rfl,r',_,_,rfl,hr',by rw [hw',hww,eb'],kh h5 hn hLa hLb (by omega:p+(i+1)=b.length) hw hr' (by rw [hw',hww])⟩
  ·rw [hww,zo] at hneg
   obtain ⟨h0,h1⟩:=cF hk hn (fun u=>by
    by_cases hu:u<b.length
    ·have f1:=(hLb.fig u hu).1
     have:k.low n u=0:=by rcases hk with rfl | rfl <;> rfl
     rw [this] at f1
     exact f1
    ·rw [yc (by omega)]; exact Int.le_refl _) (i+1) p
   rw [h1,Int.mul_zero,Int.sub_zero] at hneg
   exact absurd (Int.mul_nonneg (yi hn hLa hk) h0) (by omega)
 ·rintro ρ' ⟨r,v4,v5,rfl,hr,hwr,hlr⟩
  have e:(((List.map Dt.int b).length:Int) - 1 - (-1)).toNat=b.length:=by omega
  rw [e,Nat.sub_self,← o_ h5] at hwr
  exact ⟨_,rfl,q r hr hwr hlr⟩
abbrev r0:Stmt:=top 53
theorem lW:zi ["way","one","other"] ["way","one","other"] (defScope r0):=by walk_at "sc"
theorem kv (T:Txt K mg A) (G_held_to_be_writings:DOk P w K mg base 4 "held_to_be_writings" (qR A)) (G_times_by_ratio:FOk P w K mg base 8 "times_by_ratio" (ox A)) (F:Fun K "times" "times" r0 f fd):FnOk P w K mg base CX0 9 f fd ["way","one","other"] (yr K (iJ A)):=by
 refine okF F lW (by walk_at "ln") fun _ _ _ _ _ _ hr ds Q h=>?_
 obtain ⟨k,n,a,b,rfl,h5,hn,hLa,hLb,hw,q⟩:=h
 refine ⟨_,(zf (qA (zj G_held_to_be_writings (hr.mono (by decide)) rfl (za (dv 0) (za (xj (za (dv 1) (za (dv 2) zd))) zd))))
 (zf (zN (zY (vO T.isinstance T.Te (dv 0))) (ze yo) zx)
 (ze (wL (yH G_times_by_ratio (hr.mono (by decide)) rfl (za (dv 0) (za (dv 1) (za (dv 2) zd)))))))),?_⟩
 obtain ⟨w1,w2,w3,w4⟩:=id hw
 refine ⟨_,rfl,_,rfl,_,rfl,rfl,k,n,[a,b],rfl,hn,fun r' h'=>?_,?_⟩
 ·rcases List.mem_cons.mp h' with rfl | h'
  ·exact ⟨hLa,by omega⟩
  ·rw [List.mem_singleton.mp h']; exact ⟨hLb,by omega⟩
 refine ⟨_,rfl,_,_,_,_,rfl,pU T k,kiF T k,_,rfl,?_⟩
 refine ifF (wv h5) ?_
 exact ⟨_,rfl,_,rfl,_,rfl,k,n,a,b,rfl,h5,hn,hLa,hLb,hw,q⟩
abbrev y6:Stmt:=top 65
theorem sc_law_together:zi ["_law_one","_law_other","_law_sign","_law_totals","_law_place","_law_total"] ["_law_one","_law_other","_law_sign"] (defScope y6):=by walk_at "sc"
theorem uL (T:Txt K mg A) (F:Fun K "_law_together" "_law_together" y6 f fd):FnOk P w K mg base CX0 1 f fd ["_law_one","_law_other","_law_sign"] (yr K (nG)):=by
 refine okF F sc_law_together (by walk_at "ln") fun _ _ _ _ _ _ hr ds Q h=>?_
 obtain ⟨a,b,s,rfl,la,lb,hs,q⟩:=h
 refine ⟨_,(zf (yZ (i:=3) sc_law_together.nd rfl (Or.inl rfl) (uw zd))
 (zf (vM (j:=4) rfl sc_law_together.nd rfl (Or.inl rfl) PassesOwn.never rfl T.range (nv rfl rfl T.n_max (za (zI rfl T.len (dv 0)) (za (zI rfl T.len (dv 1)) zd))) (zf (zq (i:=5) sc_law_together.nd rfl (Or.inl rfl) zc)
 (z_ (zN (zB (sZ) (dv 4) (zI rfl T.len (dv 0)) (zv _)) (ze (zq (i:=5) sc_law_together.nd rfl (Or.inl rfl) (zw (dv 0) (dv 4) (fun _ _=>rfl)))) zx)
 (z_ (zN (zB (sZ) (dv 4) (zI rfl T.len (dv 1)) (zv _)) (ze (zq (i:=5) sc_law_together.nd rfl (Or.inl rfl) (zk zP (dv 5) (zk yR (dv 2) (zw (dv 1) (dv 4) (fun _ _=>rfl)))))) zx)
 (ze (sj 3 (dv 5)))))))
 (ze (wK 3)))),?_⟩
 have l1:=zC a
 have l2:=zC b
 walk_at "rd"
 have eM:(if ((b.map Dt.int).length:Int) > (a.map Dt.int).length then ((b.map Dt.int).length:Int) else ((a.map Dt.int).length:Int))=((max a.length b.length:Nat):Int):=by rw [l1,l2]; split <;> omega
 rw [eM]
 refine ⟨_,fun i ρ=>∃ v4 v5,ρ=[.some (zt a),.some (zt b),.some (.int s),.own ((List.range i).map fun p=>Dt.int (hf a p+s*hf b p)),v4,v5],rfl,by omega,by omega,⟨_,_,rfl⟩,?_,?_⟩
 ·rintro i ρ' hi ⟨v4,v5,rfl⟩
  rw [Int.toNat_natCast] at hi
  refine ⟨fun ρ=>ρ=[.some (zt a),.some (zt b),.some (.int s),.own ((List.range i).map fun p=>Dt.int (hf a p+s*hf b p)),.some (.int i),.some (.int (hf a i))],?_,?_⟩
  ·refine ⟨_,rfl,_,rfl,_,rfl,_,_,rfl,rfl,_,rfl,ifB (fun h=>?_) (fun h=>?_)⟩
   ·have h:(i:Int)<((a.map Dt.int).length:Int):=of_decide_eq_true h
    exact ⟨_,rfl,_,rfl,_,_,_,rfl,rfl,wl (by omega),rfl⟩
   ·have h:¬ (i:Int)<((a.map Dt.int).length:Int):=of_decide_eq_false h
    rw [yc (show a.length≤i by omega)]
    rfl
  rintro ρ rfl
  refine ⟨fun ρ=>ρ=[.some (zt a),.some (zt b),.some (.int s),.own ((List.range i).map fun p=>Dt.int (hf a p+s*hf b p)),.some (.int i),.some (.int (hf a i+s*hf b i))],?_,?_⟩
  ·refine ⟨_,rfl,_,rfl,_,rfl,_,_,rfl,rfl,_,rfl,ifB (fun h=>?_) (fun h=>?_)⟩
   ·have h:(i:Int)<((b.map Dt.int).length:Int):=of_decide_eq_true h
    exact ⟨_,rfl,_,rfl,_,rfl,_,rfl,_,_,_,rfl,rfl,wl (by omega),_,_,rfl,rfl,tz (by omega) (by omega) _,_,_,rfl,rfl,rfl⟩
   ·have h:¬ (i:Int)<((b.map Dt.int).length:Int):=of_decide_eq_false h
    rw [yc (show b.length≤i by omega),Int.mul_zero,Int.add_zero]
    rfl
  rintro ρ rfl
  refine ⟨_,rfl,_,rfl,by rw [List.length_map,List.length_range]; omega,.some (.int i),.some (.int (hf a i+s*hf b i)),?_⟩
  rw [List.range_succ,List.map_append]
  rfl
 ·rintro ρ' ⟨v4,v5,rfl⟩
  rw [Int.toNat_natCast,← i0]
  exact ⟨_,rfl,q⟩
abbrev oP:Stmt:=top 51
theorem hG:zi ["way","one","other"] ["way","one","other"] (defScope oP):=by walk_at "sc"
theorem gv (T:Txt K mg A) (G_held_to_be_writings:DOk P w K mg base 4 "held_to_be_writings" (qR A)) (G_written_row:FOkX P w K mg base 7 "written_row" (u9 A)) (G_row_plus:DOk P w K mg base 4 "row_plus" (u_)) (F:Fun K "plus" "plus" oP f fd):FnOk P w K mg base CX0 8 f fd ["way","one","other"] (yr K (mF A)):=by
 refine okF F hG (by walk_at "ln") fun _ _ _ _ _ _ hr ds Q h=>?_
 obtain ⟨k,n,a,b,rfl,h5,hn,hLa,hLb,la,lb,q⟩:=h
 refine ⟨_,(zf (qA (zj G_held_to_be_writings (hr.mono (by decide)) rfl (za (dv 0) (za (xj (za (dv 1) (za (dv 2) zd))) zd))))
 (ze (wL (yK G_written_row (hr.mono (by decide)) rfl (za (dv 0) (za (zj G_row_plus (hr.mono (by decide)) rfl (za (dv 1) (za (dv 2) zd))) zd)))))),?_⟩
 refine ⟨_,rfl,_,rfl,_,rfl,rfl,k,n,[a,b],rfl,hn,fun r' h'=>?_,?_⟩
 ·rcases List.mem_cons.mp h' with rfl | h'
  ·exact ⟨hLa,by omega⟩
  ·rw [List.mem_singleton.mp h']; exact ⟨hLb,by omega⟩
 have hl:=wk a b
 refine ⟨_,rfl,_,rfl,_,rfl,a.map Nm.i,b.map Nm.i,by rw [xJ,xJ],by rw [List.length_map]; omega,by rw [List.length_map]; omega,?_⟩
 have hw:zU k n ((z4 a b).map Nm.i)=(zg k n a).add (zg k n b):=by rw [yg,tm]
 refine ⟨k,n,(z4 a b).map Nm.i,14,by rw [rp],h5,hn,by rw [List.length_map]; omega,yk,fun t ht=>?_,by decide,by decide,fun r hr hwr hlr=>?_,fun hk hneg=>?_⟩
 ·obtain ⟨z,hz,rfl⟩:=List.mem_map.mp ht
  obtain ⟨p,rfl⟩:=tL hz
  have f1:=vF hn hLa (by omega) p
  have f2:=vF hn hLb (by omega) p
  have:=Int.natAbs_add_le (hf a p) (hf b p)
  exact ⟨by show (hf a p+hf b p).natAbs≤16384; omega,by show (0:Int).natAbs≤_; decide⟩
 ·rw [List.length_map] at hlr
  exact q r hr (hwr.trans hw) (by omega)
 ·rw [hw,zD] at hneg
  have:=yi hn hLa hk
  have:=yi hn hLb hk
  omega
abbrev qa:Stmt:=top 52
theorem sc_minus:zi ["way","one","other","difference"] ["way","one","other"] (defScope qa):=by walk_at "sc"
theorem kx (T:Txt K mg A) (G_held_to_be_writings:DOk P w K mg base 4 "held_to_be_writings" (qR A)) (G_row_plus:DOk P w K mg base 4 "row_plus" (u_)) (G_row_times:DOk P w K mg base 4 "row_times" (sy)) (G_written_row:FOkX P w K mg base 7 "written_row" (u9 A)) (F:Fun K "minus" "minus" qa f fd):FnOk P w K mg base (CX1 P w) 8 f fd ["way","one","other"] (xm K (nI A)):=by
 refine gw F sc_minus (by walk_at "ln") fun _ _ _ _ _ _ hr ds Q R h rz=>?_
 obtain ⟨k,n,a,b,rfl,h5,hn,hLa,hLb,la,lb,q,hR⟩:=h
 refine ⟨_,(zf (qA (zj G_held_to_be_writings (hr.mono (by decide)) rfl (za (dv 0) (za (xj (za (dv 1) (za (dv 2) zd))) zd))))
 (zf (zq (i:=3) sc_minus.nd rfl (Or.inl rfl) (zj G_row_plus (hr.mono (by decide)) rfl (za (dv 1) (za (zj G_row_times (hr.mono (by decide)) rfl (za (dv 2) (za (yf zc) zd))) zd))))
 (zf (zN (zY (vO T.isinstance T.Te (dv 0))) (ze yo) zx)
 (ze (wL (yK G_written_row (hr.mono (by decide)) rfl (za (dv 0) (za (dv 3) zd)))))))),?_⟩
 have hl:=wk a (yB b (-1))
 have li:(yB b (-1)).length=b.length:=List.length_map _
 refine ⟨_,rfl,_,rfl,_,rfl,rfl,k,n,[a,b],rfl,hn,fun r' h'=>?_,?_⟩
 ·rcases List.mem_cons.mp h' with rfl | h'
  ·exact ⟨hLa,by omega⟩
  ·rw [List.mem_singleton.mp h']; exact ⟨hLb,by omega⟩
 have en:wQ (a.map Nm.i) (xn b (.i (-1)))=(z4 a (yB b (-1))).map Nm.i:=by rw [bf,rp]
 refine ⟨_,rfl,_,rfl,_,rfl,b,.i (-1),rfl,by omega,⟨by show (-1000000:Int)≤-1; decide,by show (-1:Int)≤1000000; decide,by show (-1000000:Int)≤0; decide,by show (0:Int)≤1000000; decide⟩,a.map Nm.i,xn b (.i (-1)),by rw [xJ],by rw [List.length_map]; omega,by rw [wj]; omega,?_⟩
 rw [en]
 refine ⟨_,rfl,_,_,_,_,rfl,pU T k,kiF T k,_,rfl,?_⟩
 refine ifF (wv h5) ?_
 refine ⟨_,rfl,_,rfl,k,n,(z4 a (yB b (-1))).map Nm.i,14,rfl,h5,hn,by rw [List.length_map]; omega,yk,fun t ht=>?_,by decide,by decide,fun r hr hwr hlr=>?_,fun hp hneg=>rz _ (hR hp ?_)⟩
 ·obtain ⟨z,hz,rfl⟩:=List.mem_map.mp ht
  obtain ⟨p,rfl⟩:=tL hz
  have f1:=vF hn hLa (by omega) p
  have f2:=vF hn hLb (by omega) p
  rw [uX]
  exact ⟨by show (hf a p+hf b p*(-1)).natAbs≤16384; omega,by show (0:Int).natAbs≤_; decide⟩
 ·rw [List.length_map] at hlr
  exact q r hr (hwr.trans (yg k n _)) (by omega)
 ·rw [yg] at hneg
  exact hneg
abbrev va:Stmt:=top 66
theorem sc_law_less:zi ["_law_way","_law_one","_law_other","_law_totals","_law_refused","_law_again"] ["_law_way","_law_one","_law_other","_law_totals"] (defScope va):=by walk_at "sc"
theorem pI (T:Txt K mg A) (G_minus:FOkX P w K mg base 8 "minus" (nI A)) (G_carries:FOkX P w K mg base 6 "carries" (qS A)) (F:Fun K "_law_less" "_law_less" va f fd):FnOk P w K mg base CX0 9 f fd ["_law_way","_law_one","_law_other","_law_totals"] (zm K (mI A)):=by
 refine okD F sc_law_less (by walk_at "ln") fun _ _ _ _ _ _ hr ds Q h=>?_
 obtain ⟨n,a,b,rfl,hn,hLa,hLb,la,lb,hw,q⟩:=h
 refine ⟨_,(zf (zq (i:=4) sc_law_less.nd rfl (Or.inl rfl) zc)
 (zf (mv rfl rfl G_minus (hr.mono (by decide)) rfl (za (dv 0) (za (dv 1) (za (dv 2) zd))) (fun _=>(ze (zq (i:=4) sc_law_less.nd rfl (Or.inl rfl) zc))) rfl T.Tw)
 (zf (zq (i:=5) sc_law_less.nd rfl (Or.inl rfl) zc)
 (zf (mv rfl rfl G_carries (hr.mono (by decide)) rfl (za (dv 0) (za (dv 3) zd)) (fun _=>(ze (zq (i:=5) sc_law_less.nd rfl (Or.inl rfl) zc))) rfl T.Tw)
 (ze (zl (xk (ux (wP hr) (dv 4) (dv 5) (zv _)) (vd (ux (wP hr) (dv 4) zc (zv _)))))))))),?_⟩
 have lT:=rQ (s:=-1) la lb
 refine ⟨_,rfl,_,rfl,_,rfl,.plain,n,a,b,rfl,rfl,hn,hLa,hLb,by omega,by omega,fun r hr hwr _=>?_,fun _ _=>⟨T.Td,?_⟩⟩
 ·exact absurd (yi hn hr (.inl rfl)) (by rw [hwr]; omega)
 ·refine ⟨_,rfl,_,rfl,.plain,n,(z4 a (yB b (-1))).map Nm.i,by rw [← xJ],rfl,hn,yk,by rw [List.length_map]; omega,.inr ⟨dW (.inl rfl) hn hw,T.Td,?_⟩⟩
  walk_at "rd"
  exact q
abbrev yy:Stmt:=top 67
theorem sc_law_difference:zi ["_law_way","_law_kind","_law_size_here","_law_one","_law_other","_law_totals","_law_figures"] ["_law_way","_law_kind","_law_size_here","_law_one","_law_other"] (defScope yy):=by walk_at "sc"
theorem vw (T:Txt K mg A) (G__law_together:FOk P w K mg base 1 "_law_together" (nG)) (G__law_less:DOk P w K mg base 9 "_law_less" (mI A)) (G__law_walked:FOk P w K mg base 3 "_law_walked" (qQ)) (G_carries:FOkX P w K mg base 6 "carries" (qS A)) (G_minus:FOkX P w K mg base 8 "minus" (nI A)) (F:Fun K "_law_difference" "_law_difference" yy f fd):FnOk P w K mg base CX0 10 f fd ["_law_way","_law_kind","_law_size_here","_law_one","_law_other"] (zm K (iS A)):=by
 refine okD F sc_law_difference (by walk_at "ln") fun _ _ _ _ _ _ hr ds Q h=>?_
 obtain ⟨k,n,a,b,rfl,hk,hn,hLa,hLb,la,lb,q⟩:=h
 refine ⟨_,(zf (zq (i:=5) sc_law_difference.nd rfl (Or.inl rfl) (DF.de (yH G__law_together (hr.mono (by decide)) rfl (za (dv 3) (za (dv 4) (za (yf zc) zd))))))
 (z_ (zN (DW.dt (xB (zB (wP hr) (dv 1) zc (zv _)) (yG (zB (Wp hr) (DF.de (nu rfl rfl T.n_list rfl T.n_reversed (dv 5))) (DF.de (nt (xj (za zc zd)) (zI rfl T.len (dv 5)))) (zv _))))) (ze (zl (zj G__law_less (hr.mono (by decide)) rfl (za (dv 0) (za (DF.de (yb rfl T.n_list (dv 3))) (za (DF.de (yb rfl T.n_list (dv 4))) (za (dv 5) zd))))))) zx)
 (zf (zq (i:=6) sc_law_difference.nd rfl (Or.inl rfl) (DF.de (yH G__law_walked (hr.mono (by decide)) rfl (za (dv 1) (za (dv 2) (za (dv 5) (za (DF.de (yK G_carries (hr.mono (by decide)) rfl (za (dv 0) (za (DF.de (yb rfl T.n_list (dv 5))) zd)))) zd)))))))
 (ze (zl (xk (ci (dv 6)) (vd (ux (wP hr) (DF.de (yK G_minus (hr.mono (by decide)) rfl (za (dv 0) (za (DF.de (yb rfl T.n_list (dv 3))) (za (DF.de (yb rfl T.n_list (dv 4))) zd))))) (dv 6) (zv _))))))))),?_⟩
 refine ⟨_,rfl,_,rfl,_,rfl,a,b,-1,rfl,by omega,by omega,.inr rfl,?_⟩
 have hU:=nS hn hLa hLb la lb (s:=-1) (.inr rfl)
 have lU:=rQ (s:=-1) la lb
 generalize eU:z4 a (yB b (-1))=U at *
 have lU':=zC U
 refine ⟨fun ρ=>ρ=[.some (z6 A k n),.some (.int k.q4),.some (.int n),.some (zt a),.some (zt b),.some (zt U),.none]∧(wn k→0≤(zg k n U).re),?_,?_⟩
 ·by_cases hk0:k=.plain
  ·subst hk0
   walk_at "rd"
   refine ⟨by omega,by omega,by show 1*_≤_; omega,?_⟩
   rw [Int.toNat_natCast,lU',tM]
   refine ⟨U.reverse,List.replicate U.length 0,by show some (List.map Dt.int U).reverse=_; rw [List.map_reverse],rfl,by rw [List.length_replicate,List.length_reverse],_,rfl,?_⟩
   have hx:=jJ hn U.length U rfl (fun p=>by rw [← eU]; exact Xr hn hLa hLb p)
   refine ifB (fun h=>?_) (fun h=>?_)
   ·exact ⟨_,rfl,_,rfl,_,rfl,_,rfl,_,rfl,_,rfl,n,a,b,(by rw [eU]; rfl),hn,hLa,hLb,la,lb,by rw [eU]; exact hx.mp h,q⟩
   ·refine ⟨rfl,fun _=>?_⟩
    have:¬ (zg .plain n U).re<0:=fun z=>by rw [hx.mpr z] at h; cases h
    omega
  ·walk_at "rd"
   refine ifF (by rcases hk with rfl | rfl | rfl | rfl <;> first | rfl | exact absurd rfl hk0) (ifF rfl ⟨rfl,fun hp=>absurd (mw hk hp) hk0⟩)
 ·rintro ρ ⟨rfl,hp⟩
  obtain ⟨J,F,hJ,hS,wS⟩:=qz hk hn (by omega) hU hp
  refine ⟨_,rfl,_,rfl,_,rfl,_,rfl,_,rfl,_,rfl,k,n,U.map Nm.i,by rw [← xJ]; rfl,s9 hk,hn,yk,by rw [List.length_map]; omega,.inl ⟨J,F,hJ,k,n,U,J,rfl,hk,hn,F,hJ,?_⟩⟩
  refine ⟨_,rfl,_,rfl,ifT rfl ?_⟩
  refine ⟨_,rfl,_,rfl,_,rfl,_,rfl,_,rfl,k,n,a,b,rfl,s9 hk,hn,hLa,hLb,by omega,by omega,fun r hr hwr _=>?_,fun h1 h2=>?_⟩
  ·rw [eU] at hwr
   obtain rfl:=iY hn hr hS (hwr.trans wS.symm)
   refine ⟨_,rfl,xq _,xq _,?_⟩
   rw [show eqD (zt (vW k n (U.map Nm.i) J)) (zt (vW k n (U.map Nm.i) J))=true from si 40 (xq _)]
   exact q
  ·rw [eU] at h2
   exact absurd (hp h1) (by omega)
abbrev wa:Stmt:=top 68
theorem sc_law_right:zi ["_law_way","_law_kind","_law_size_here","_law_one","_law_other","_law_totals","_law_figures"] ["_law_way","_law_kind","_law_size_here","_law_one","_law_other"] (defScope wa):=by walk_at "sc"
theorem qm (T:Txt K mg A) (G__law_product:FOk P w K mg base 1 "_law_product" (mE)) (G__law_walked:FOk P w K mg base 3 "_law_walked" (qQ)) (G_carries:FOkX P w K mg base 6 "carries" (qS A)) (G_times:FOk P w K mg base 9 "times" (iJ A)) (G__law_together:FOk P w K mg base 1 "_law_together" (nG)) (G_plus:FOk P w K mg base 8 "plus" (mF A)) (G__law_difference:DOk P w K mg base 10 "_law_difference" (iS A)) (F:Fun K "_law_right" "_law_right" wa f fd):FnOk P w K mg base CX0 11 f fd ["_law_way","_law_kind","_law_size_here","_law_one","_law_other"] (zm K (iM A)):=by
 refine okD F sc_law_right (by walk_at "ln") fun _ _ _ _ _ _ hr ds Q h=>?_
 obtain ⟨k,n,a,b,rfl,hk,hn,hLa,hLb,hw,q⟩:=h
 refine ⟨_,(zf (zq (i:=5) sc_law_right.nd rfl (Or.inl rfl) (DF.de (yH G__law_product (hr.mono (by decide)) rfl (za (dv 3) (za (dv 4) zd)))))
 (zf (zq (i:=6) sc_law_right.nd rfl (Or.inl rfl) (DF.de (yH G__law_walked (hr.mono (by decide)) rfl (za (dv 1) (za (dv 2) (za (dv 5) (za (DF.de (yK G_carries (hr.mono (by decide)) rfl (za (dv 0) (za (DF.de (yb rfl T.n_list (dv 5))) zd)))) zd)))))))
 (z_ (zN (DW.dt (wW (j7 (dv 6)) (wx (zB (oZ hr) (DF.de (yH G_times (hr.mono (by decide)) rfl (za (dv 0) (za (DF.de (yb rfl T.n_list (dv 3))) (za (DF.de (yb rfl T.n_list (dv 4))) zd))))) (dv 6) (zv _))))) (ze (zl wX)) zx)
 (zf (zq (i:=5) sc_law_right.nd rfl (Or.inl rfl) (DF.de (yH G__law_together (hr.mono (by decide)) rfl (za (dv 3) (za (dv 4) (za zc zd))))))
 (zf (zq (i:=6) sc_law_right.nd rfl (Or.inl rfl) (DF.de (yH G__law_walked (hr.mono (by decide)) rfl (za (dv 1) (za (dv 2) (za (dv 5) (za (DF.de (yK G_carries (hr.mono (by decide)) rfl (za (dv 0) (za (DF.de (yb rfl T.n_list (dv 5))) zd)))) zd)))))))
 (z_ (zN (DW.dt (wW (j7 (dv 6)) (wx (zB (oZ hr) (DF.de (yH G_plus (hr.mono (by decide)) rfl (za (dv 0) (za (DF.de (yb rfl T.n_list (dv 3))) (za (DF.de (yb rfl T.n_list (dv 4))) zd))))) (dv 6) (zv _))))) (ze (zl wX)) zx)
 (ze (zl (zj G__law_difference (hr.mono (by decide)) rfl (za (dv 0) (za (dv 1) (za (dv 2) (za (dv 3) (za (dv 4) zd)))))))))))))),?_⟩
 obtain ⟨w1,w2,w3,w4⟩:=id hw
 refine ⟨_,rfl,_,rfl,k,n,a,b,rfl,hk,hn,hLa,hLb,w1,w2,fun t lt ht wT=>?_⟩
 have er:∀ r,eqD (zt r) (zt r)=true:=fun r=>si 40 (xq r)
 obtain ⟨J,F,hJ,hS,wS⟩:=qz hk hn (by omega) ht fun hp=>by
  rw [wT,zo]
  obtain rfl:=mw hk hp
  have e:(zg .plain n a).im=0:=by
   obtain ⟨x,e⟩:=y3 (k:=.plain) (fun h=>nomatch h) (zA .plain n a)
   rw [e]; rfl
  rw [e,Int.zero_mul,Int.sub_zero]
  exact Int.mul_nonneg (yi hn hLa hp) (yi hn hLb hp)
 refine ⟨_,rfl,_,rfl,_,rfl,_,rfl,_,rfl,_,rfl,k,n,t.map Nm.i,by rw [← xJ]; rfl,s9 hk,hn,yk,by rw [List.length_map]; omega,.inl ⟨J,F,hJ,k,n,t,J,rfl,hk,hn,F,hJ,?_⟩⟩
 refine ⟨fun ρ=>ρ=[.some (z6 A k n),.some (.int k.q4),.some (.int n),.some (zt a),.some (zt b),.some (zt t),.some (zt (vW k n (t.map Nm.i) J))],?_,?_⟩
 ·refine ⟨_,rfl,_,rfl,ifF rfl ?_⟩
  refine ⟨_,rfl,_,rfl,_,rfl,_,rfl,_,rfl,k,n,a,b,rfl,s9 hk,hn,hLa,hLb,hw,fun r hr hwr _=>?_⟩
  obtain rfl:=iY hn hr hS (hwr.trans (wT.symm.trans wS.symm))
  exact ⟨_,rfl,xq _,xq _,_,rfl,ifF (nT (er _)) rfl⟩
 rintro ρ rfl
 refine ⟨_,rfl,_,rfl,a,b,1,rfl,by omega,by omega,.inl rfl,?_⟩
 have hU:=nS hn hLa hLb w1 w2 (s:=1) (.inl rfl)
 have lU:=rQ (s:=1) w1 w2
 have wU:zg k n (z4 a (yB b 1))=(zg k n a).add (zg k n b):=by rw [jM,tm]
 generalize z4 a (yB b 1)=U at *
 obtain ⟨J',F',hJ',hS',wS'⟩:=qz hk hn (by omega) hU fun hp=>by
  rw [wU,zD]
  have:=yi hn hLa hp
  have:=yi hn hLb hp
  omega
 refine ⟨_,rfl,_,rfl,_,rfl,_,rfl,_,rfl,_,rfl,k,n,U.map Nm.i,by rw [← xJ]; rfl,s9 hk,hn,yk,by rw [List.length_map]; omega,.inl ⟨J',F',hJ',k,n,U,J',rfl,hk,hn,F',hJ',?_⟩⟩
 refine ⟨fun ρ=>ρ=[.some (z6 A k n),.some (.int k.q4),.some (.int n),.some (zt a),.some (zt b),.some (zt U),.some (zt (vW k n (U.map Nm.i) J'))],?_,?_⟩
 ·refine ⟨_,rfl,_,rfl,ifF rfl ?_⟩
  refine ⟨_,rfl,_,rfl,_,rfl,_,rfl,_,rfl,k,n,a,b,rfl,s9 hk,hn,hLa,hLb,by omega,by omega,fun r hr hwr _=>?_⟩
  obtain rfl:=iY hn hr hS' (hwr.trans (wU.symm.trans wS'.symm))
  exact ⟨_,rfl,xq _,xq _,_,rfl,ifF (nT (er _)) rfl⟩
 rintro ρ rfl
 exact ⟨_,rfl,_,rfl,_,rfl,_,rfl,_,rfl,k,n,a,b,rfl,hk,hn,hLa,hLb,w1,w2,q⟩
abbrev wV:Stmt:=top 69
theorem sc_law:zi ["_law_script","_law_number","_law_numbers","_law_evens","_law_odds","_law_kind","_law_size_here","_law_way","_law_one","_law_other"] ["_law_script"] (defScope wV):=by walk_at "sc"
theorem bN (T:Txt K mg A) (G__law_cell_at:DOk P w K mg base 1 "_law_cell_at" (iT)) (G__law_size:DOk P w K mg base 1 "_law_size" (mD)) (G__law_made:DOk P w K mg base 5 "_law_made" (mH A)) (G__law_legal:DOk P w K mg base 2 "_law_legal" (iN)) (G__law_right:DOk P w K mg base 11 "_law_right" (iM A)) (F:Fun K "law" "law" wV f fd):FnOk P w K mg base CX0 12 f fd ["_law_script"] (zm K (mJ)):=by
 refine okD F sc_law (by walk_at "ln") fun _ _ _ _ _ _ hr ds Q h=>?_
 obtain ⟨ns,rfl,hns,q⟩:=h
 refine ⟨_,(zf (zq (i:=1) sc_law.nd rfl (Or.inl rfl) (zk xE (zj G__law_cell_at (hr.mono (by decide)) rfl (za (dv 0) (za zc zd))) (zk cC zc zc)))
 (zf (zq (i:=2) sc_law.nd rfl (Or.inr rfl) (DF.de (VV (vN (osc:=defScope wV) (N0:=["_law_script","_law_number","_law_numbers","_law_evens","_law_odds","_law_kind","_law_size_here","_law_way","_law_one","_law_other"]) (bs:=["_law_cell"]) (caps:=[]) (js:=[]) rfl (by decide +kernel) rfl rfl rfl (qE (oe (dv 0) (qD zc) (qD zc))) (fun _ _ _ _ _=>(z0 (i:=0) (show List.Nodup [("_law_cell":Str)] by decide +kernel) rfl (Or.inl (lookup_relabel_local rfl)) (.inl rfl))) wE (fun _ _ _ _ _=>qG) (fun _ _ _ _ _=>(zk xE (dv 0) (zk cC zc zc)))))))
 (zf (vL (i:=3) (osc:=defScope wV) (N0:=["_law_script","_law_number","_law_numbers","_law_evens","_law_odds","_law_kind","_law_size_here","_law_way","_law_one","_law_other"]) (bs:=["_law_k"]) (caps:=["_law_numbers"]) (js:=[2]) rfl (by decide +kernel) rfl rfl rfl sc_law.nd rfl (Or.inl rfl) (sk rfl T.range (zI rfl T.len (dv 2))) (fun _ _ _ _ _=>(z0 (i:=0) (show List.Nodup [("_law_k":Str),("_law_numbers":Str)] by decide +kernel) rfl (Or.inl (lookup_relabel_local rfl)) (.inl rfl))) wE (fun _ _ _ _ _=>(iw (zB (wP hr) (zk xE (dv 0) zc) zc (zv _)))) (fun _ _ _ _ _=>(zw (dv 1) (dv 0) (fun _ _=>rfl))))
 (zf (vL (i:=4) (osc:=defScope wV) (N0:=["_law_script","_law_number","_law_numbers","_law_evens","_law_odds","_law_kind","_law_size_here","_law_way","_law_one","_law_other"]) (bs:=["_law_k"]) (caps:=["_law_numbers"]) (js:=[2]) rfl (by decide +kernel) rfl rfl rfl sc_law.nd rfl (Or.inl rfl) (sk rfl T.range (zI rfl T.len (dv 2))) (fun _ _ _ _ _=>(z0 (i:=0) (show List.Nodup [("_law_k":Str),("_law_numbers":Str)] by decide +kernel) rfl (Or.inl (lookup_relabel_local rfl)) (.inl rfl))) wE (fun _ _ _ _ _=>(iw (zB (wP hr) (zk xE (dv 0) zc) zc (zv _)))) (fun _ _ _ _ _=>(zw (dv 1) (dv 0) (fun _ _=>rfl))))
 (zf (zq (i:=4) sc_law.nd rfl (Or.inl rfl) (oe (dv 4) cg (qD (zk xE (zj G__law_cell_at (hr.mono (by decide)) rfl (za (dv 0) (za zc zd))) zc))))
 (zf (vM (j:=5) rfl sc_law.nd rfl (Or.inl rfl) PassesOwn.never rfl T.range zc (zf (zq (i:=6) sc_law.nd rfl (Or.inl rfl) (zj G__law_size (hr.mono (by decide)) rfl (za (dv 5) (za (zk tX (dv 1) (zk zP (dv 5) zc)) zd))))
 (zf (zq (i:=7) sc_law.nd rfl (Or.inl rfl) (zj G__law_made (hr.mono (by decide)) rfl (za (dv 5) (za (dv 6) zd))))
 (zf (zq (i:=8) sc_law.nd rfl (Or.inl rfl) (zj G__law_legal (hr.mono (by decide)) rfl (za (dv 5) (za (dv 6) (za (dv 3) zd)))))
 (zf (zq (i:=9) sc_law.nd rfl (Or.inl rfl) (zj G__law_legal (hr.mono (by decide)) rfl (za (dv 5) (za (dv 6) (za (dv 4) zd)))))
 (ze (zN (DW.dt (wW (xZ (zY (zj G__law_right (hr.mono (by decide)) rfl (za (dv 7) (za (dv 5) (za (dv 6) (za (dv 8) (za (dv 9) zd)))))))) (wx (xZ (zY (zj G__law_right (hr.mono (by decide)) rfl (za (dv 7) (za (dv 5) (za (dv 6) (za (dv 9) (za (dv 8) zd))))))))))) (ze (zl wX)) zx)))))))
 (ze (zl wX)))))))),?_⟩
 walk_at "rd"
 refine ⟨Int.le_refl _,fun c0=>?_⟩
 walk_at "rd"
 obtain ⟨cs,ec,lc,_⟩:=oi ns (some 2) (some 30)
 have l28:=XH (ns.map Dt.int)
 rw [ec,zC] at l28
 rw [ec]
 refine ⟨_,fun i es=>∃ zs:List Int,es=zs.map Dt.int∧zs.length=i,rfl,by rw [zC]; omega,⟨[],rfl,rfl⟩,?_,?_⟩
 ·rintro i e es he ⟨zs,rfl,hz⟩
  rw [List.getElem?_map] at he
  obtain ⟨m,_,rfl⟩:=Option.map_eq_some_iff.mp he
  walk_at "rd"
  exact ⟨zs++[_],wz zs _,by rw [List.length_append,hz]; rfl⟩
 rintro es ⟨zs,rfl,hz⟩
 rw [zC] at hz
 have every:∀ (st:Int) (ρ:DS) (Q':Dt→Prop),ρ[2]? = some (.some (.lst (zs.map Dt.int)))→(∀ us:List Int,us.length≤28→Q' (zt us))→xC [2] (cj (VI (iy 2))) qH (vP (dOp gEq (dOp (gIC mK fun i j=>Dt.int (i.fmod j)) (iy 0) (dC (Dt.int 2))) (dC (Dt.int st)))) (dIx (iy 1) (iy 0)) ρ Q':=fun st ρ Q' e4 q'=>by
  have e5:vg ρ [2]=[.some (.lst (zs.map Dt.int))]:=by
   unfold vg
   show [match ρ[2]? with | some (Sl.some d)=>Sl.some d | _=>Sl.none]=_
   rw [e4]
  have lz:=zC zs
  refine ⟨_,e4,_,rfl,_,rfl,by omega,by omega,fun i es=>∃ us:List Int,es=us.map Dt.int∧us.length≤i,⟨[],rfl,Nat.le_refl _⟩,?_,?_⟩
  ·rintro i e es hi rfl ⟨us,rfl,hu⟩
   refine ⟨_,rfl,?_⟩
   rw [e5]
   refine ⟨_,rfl,_,_,rfl,rfl,iF (by decide),rfl,rfl,_,rfl,ifB (fun _=>?_) (fun _=>⟨us,rfl,by omega⟩)⟩
   refine ⟨_,rfl,_,rfl,_,_,_,rfl,rfl,wl (by omega),?_⟩
   exact ⟨us++[_],wz us _,by rw [List.length_append]; exact Nat.succ_le_succ hu⟩
  ·rintro es ⟨us,rfl,hu⟩
   exact q' us (by omega)
 refine nU (every 0 _ _ ?_ fun ev hev=>?_)
 ·rfl
 refine nU (every 1 _ _ ?_ fun od hod=>?_)
 ·rfl
 refine ⟨_,rfl,_,rfl,ns,1,rfl,by decide,fun c1=>⟨_,_,rfl,rfl,iF (by decide),_,rfl,_,rfl,?_⟩⟩
 obtain ⟨od',eo,_⟩:=oi od none (some (c1.fmod 16))
 have l15:=XI (od.map Dt.int) (Int.fmod_nonneg_of_pos c1 (show (0:Int)<16 by decide)) (Int.fmod_lt_of_pos c1 (show (0:Int)<16 by decide))
 rw [eo,zC] at l15
 rw [eo]
 refine ⟨_,fun i ρ=>∃ v5 v6 v7 v8 v9,ρ=[.some (.scr ns),.some (.int (c0.fmod (10 ^ Int.toNat 20))),.some (zt zs),.some (zt ev),.some (zt od'),v5,v6,v7,v8,v9],rfl,by decide,by decide,⟨_,_,_,_,_,rfl⟩,?_,?_⟩
 ·rintro i ρ' hi ⟨v5,v6,v7,v8,v9,rfl⟩
  have hi:i<4:=hi
  obtain ⟨k,hk,ek⟩:=XJ (e:=(i:Int)) (by omega) (by omega)
  have h0:k.q4+1≠0∧(k.q4+1).natAbs<1073741824:=by omega
  rw [ek]
  refine ⟨_,rfl,_,rfl,_,rfl,_,_,rfl,rfl,_,_,rfl,rfl,h0,k,_,rfl,hk,fun n hn=>?_⟩
  refine ⟨_,rfl,_,rfl,k,n,rfl,hk,hn,?_⟩
  refine ⟨_,rfl,_,rfl,_,rfl,k,n,ev,rfl,hk,hn,by omega,fun x hx lx=>?_⟩
  refine ⟨_,rfl,_,rfl,_,rfl,k,n,od',rfl,hk,hn,by omega,fun y hy ly=>?_⟩
  refine ⟨_,rfl,_,rfl,_,rfl,_,rfl,_,rfl,k,n,x,y,rfl,hk,hn,hx,hy,⟨by omega,by omega,by omega,fun _=>by omega⟩,_,rfl,ifF rfl ?_⟩
  refine ⟨_,rfl,_,rfl,_,rfl,_,rfl,_,rfl,k,n,y,x,rfl,hk,hn,hy,hx,⟨by omega,by omega,by omega,fun _=>by omega⟩,_,rfl,ifF rfl ?_⟩
  exact ⟨_,_,_,_,_,rfl⟩
 ·rintro ρ' ⟨v5,v6,v7,v8,v9,rfl⟩
  exact q
end
def BA (n q:Str) (st:Stmt) (ps:List Str) (us:List Value):Prop:=∀ (kV doc pm:Value) (an:Option Addr) (cdv ct:Value),bindArgs (PySem.W.fnOf n q (defArgs st) (defBody st) (defScope st) .none kV doc pm an cdv ct) ⟨us,[]⟩=pure (ps.zip us)
def BZ (n q:Str) (st:Stmt) (ps:List Str):Prop:=∀ us:List Value,us.length=ps.length→BA n q st ps us
theorem bz1 {n q:Str} {st:Stmt} {ps:List Str} (hl:ps.length=1) (h:∀ u0:Value,BA n q st ps [u0]):BZ n q st ps:=fun us e=>match us,e.trans hl with | [_],_=>h _
theorem bz2 {n q:Str} {st:Stmt} {ps:List Str} (hl:ps.length=2) (h:∀ u0 u1:Value,BA n q st ps [u0,u1]):BZ n q st ps:=fun us e=>match us,e.trans hl with | [_,_],_=>h _ _
theorem bz3 {n q:Str} {st:Stmt} {ps:List Str} (hl:ps.length=3) (h:∀ u0 u1 u2:Value,BA n q st ps [u0,u1,u2]):BZ n q st ps:=fun us e=>match us,e.trans hl with | [_,_,_],_=>h _ _ _
theorem bz4 {n q:Str} {st:Stmt} {ps:List Str} (hl:ps.length=4) (h:∀ u0 u1 u2 u3:Value,BA n q st ps [u0,u1,u2,u3]):BZ n q st ps:=fun us e=>match us,e.trans hl with | [_,_,_,_],_=>h _ _ _ _
theorem bz5 {n q:Str} {st:Stmt} {ps:List Str} (hl:ps.length=5) (h:∀ u0 u1 u2 u3 u4:Value,BA n q st ps [u0,u1,u2,u3,u4]):BZ n q st ps:=fun us e=>match us,e.trans hl with | [_,_,_,_,_],_=>h _ _ _ _ _
section
variable (K:PySem.W.Frag)
def FX (n q:Str) (st:Stmt) (f:Addr):Prop:=∃ oc od kV dc pm an cd ct sl,K.lookup f=some ⟨oc,od,.func (PySem.W.fnOf n q (defArgs st) (defBody st) (defScope st) .none kV dc pm an cd ct),sl⟩∧PySem.W.codeIn K cd q=true∧PySem.W.keepIn K (.ref f)=true
def FD (n:Str) (st:Stmt) (f:Addr):Prop:=PySem.W.nsIn K mainGlobals n=some (some (.ref f))∧FX K n n st f
def FE (g n:Str) (st:Stmt) (f:Addr):Prop:=PySem.W.nsIn K mainGlobals g=some (some (.ref f))∧FX K n n st f
def FM (n q:Str) (st:Stmt) (f:Addr):Prop:=PySem.W.isFn K (.ref f)=true∧FX K n q st f
def Fi (C:Addr) (n:Str) (f:Addr):Prop:=PySem.W.findIn K (.ref C) n=some (some (.ref f))
def Ki (C D:Addr) (b:Bool):Prop:=PySem.W.kitOne K (.ref C) (.ref D)=some b
def Gc (n:Str) (C:Addr):Prop:=PySem.W.nsIn K mainGlobals n=some (some (.ref C))
def Gs (n y:Str) (t:Tok):Prop:=PySem.W.nsIn K mainGlobals n=some (some (.str y t))
def Zn (n:Str):Prop:=PySem.W.nsIn K mainGlobals n=some none
structure ClR (C:Addr) (x:Str):Prop where
 cls:Cls K C
 mks:PySem.W.makesIn K C=true
 kc:PySem.W.keepIn K (.ref C)=true
 na:PySem.W.findIn K (.ref C) x=some none
structure IR (C:Addr):Prop where
 ia:PySem.W.findIn K (.ref C) "__class__"=some (some (.builtin "object.__class__"))
 im:PySem.W.mroIn K C (.type "object")=some true
variable {K} {n q:Str} {st:Stmt} {f:Addr}
theorem FX.mk {oc od kV dc pm an cd ct sl} (l:K.lookup f=some ⟨oc,od,.func (PySem.W.fnOf n q (defArgs st) (defBody st) (defScope st) .none kV dc pm an cd ct),sl⟩) (c:PySem.W.codeIn K cd q=true) (k:PySem.W.keepIn K (.ref f)=true):FX K n q st f:=⟨_,_,_,_,_,_,_,_,_,l,c,k⟩
theorem FX.get (r:FX K n q st f) (ps:List Str) (h:BZ n q st ps):∃ fd,Fun K n q st f fd∧Binds K fd ps []:=
 let ⟨_,_,_,_,_,_,_,_,_,l,c,k⟩:=r; ⟨_,nk l c k,(nk l c k).binds fun a b c d e f us z=>h us z a b c d e f⟩
theorem FD.get (r:FD K n st f) {h:Heap} {mg:Str→Option Value} (X:K.In h) (G:h.Ns mainGlobals mg) (ps:List Str) (h:BZ n n st ps):∃ fd,mg n=some (.ref f)∧Fun K n n st f fd∧Binds K fd ps []:=
 let ⟨fd,F,b⟩:=r.2.get ps h; ⟨fd,PySem.W.mg_of X G r.1,F,b⟩
theorem FE.get {g:Str} (r:FE K g n st f) {h:Heap} {mg:Str→Option Value} (X:K.In h) (G:h.Ns mainGlobals mg) (ps:List Str) (h:BZ n n st ps):∃ fd,mg g=some (.ref f)∧Fun K n n st f fd∧Binds K fd ps []:=
 let ⟨fd,F,b⟩:=r.2.get ps h; ⟨fd,PySem.W.mg_of X G r.1,F,b⟩
theorem mkr (l:PySem.W.OpenLaw) (w:World) (base:Heap) {mg:Str→Option Value} {C:Addr} {k:Nat} {fd:FuncData} {ps:List Str} {S:DSp} (c:Cls K C) (a:Fi K C n f) (r:FM K n q st f) (F:Fun K n q st f fd) (b:Binds K fd ps []) (o:FnOk l.prog w K mg base CX0 k f fd ps (zm K S)):MOk l.prog w K mg base k C n S:=.mk c ⟨_,_,_,⟨a,r.1,F.kp⟩,b,o⟩
theorem FM.get (r:FM K n q st f) (ps:List Str) (h:BZ n q st ps):∃ fd,Fun K n q st f fd∧Binds K fd ps []:=r.2.get ps h
end
theorem all_mk {l:PySem.W.OpenLaw} {w:World} {K:PySem.W.Frag} {h:Heap} {mg:Str→Option Value} {fa:Addr} (X:K.In h) (G:h.Ns mainGlobals mg) (hfa:mg "law"=some (.ref fa))
 {UW UX UY UV UZ U7 f1 f2 f3 f4 f5 f6 f7 f8 f9 f10 f11 f12 f13 f14 f15 f16 f17 f18 f19 f20 f21 f22 f23 f24 f25 f26 f27 f28 f29 f30 f31 f32 f33 f34 f35 f36 f37 f38 f39 f40 f41 f42 f43 f44 f45 f46 f47 f48 f49 f50 f51 f52 f53 f54 f55 f56 f57 f58 f59 f60:Addr}
 (TD:Gc K "Plain" UW)
 (TF:Gc K "Below" UX)
 (TH:Gc K "Balanced" UY)
 (TJ:Gc K "Falling" UV)
 (TK:Gc K "Pairs" UZ)
 (TL:Gc K "TooLess" U7)
 (r1:FD K "_law_cell_at" xv f1)
 (r2:FD K "_law_size" w9 f2)
 (r3:FD K "is_whole" vb f3)
 (r4:FD K "bounded" ud f4)
 (TM:Fi K UW "__init__" f5)
 (r5:FM K "__init__" "Plain.__init__" yV f5)
 (TN:Fi K UX "__init__" f6)
 (r6:FM K "__init__" "Below.__init__" yX f6)
 (TQ:Fi K UY "__init__" f7)
 (r7:FM K "__init__" "Balanced.__init__" ya f7)
 (TR:Fi K UZ "__init__" f8)
 (r8:FM K "__init__" "Pairs.__init__" yW f8)
 (r9:FD K "_law_made" w_ f9)
 (r10:FD K "_law_bounds" xN f10)
 (r11:FD K "_law_legal" wb f11)
 (r12:FD K "_law_product" xu f12)
 (r13:FD K "_law_whole" x_ f13)
 (r14:FD K "_law_is_carry" y7 f14)
 (r15:FD K "_law_figure" xM f15)
 (r16:FD K "_law_walked" yU f16)
 (r17:FD K "as_pair" ue f17)
 (r18:FD K "added" qc f18)
 (r19:FD K "thing_at" w8 f19)
 (TU:Fi K UW "nought" f20)
 (TV:Fi K UX "nought" f20)
 (TW:Fi K UY "nought" f20)
 (TX:Fi K UV "nought" f20)
 (r20:FM K "nought" "Way.nought" xP f20)
 (TY:Fi K UZ "nought" f21)
 (r21:FM K "nought" "Pairs.nought" y8 f21)
 (TZ:Fi K UW "has" f22)
 (T0:Fi K UV "has" f22)
 (r22:FM K "has" "Way.has" uh f22)
 (T3:Fi K UX "has" f23)
 (r23:FM K "has" "Below.has" wg f23)
 (T4:Fi K UY "has" f24)
 (r24:FM K "has" "Balanced.has" xa f24)
 (r25:FD K "is_pair" ub f25)
 (T5:Fi K UZ "has" f26)
 (r26:FM K "has" "Pairs.has" wd f26)
 (T6:Fi K UW "low" f27)
 (T7:Fi K UX "low" f27)
 (T8:Fi K UV "low" f27)
 (T9:Fi K UZ "low" f27)
 (r27:FM K "low" "Way.low" uf f27)
 (T_:Fi K UY "low" f28)
 (r28:FM K "low" "Balanced.low" y_ f28)
 (Sa:Fi K UW "high" f29)
 (r29:FM K "high" "Plain.high" xQ f29)
 (Sb:Fi K UX "high" f30)
 (r30:FM K "high" "Below.high" xS f30)
 (Sc:Fi K UY "high" f31)
 (r31:FM K "high" "Balanced.high" yL f31)
 (Sd:Fi K UV "high" f32)
 (r32:FM K "high" "Falling.high" y9 f32)
 (Se:Fi K UZ "high" f33)
 (r33:FM K "high" "Pairs.high" xR f33)
 (Sf:Fi K UW "ratio" f34)
 (r34:FM K "ratio" "Plain.ratio" xw f34)
 (Sg:Fi K UX "ratio" f35)
 (r35:FM K "ratio" "Below.ratio" xz f35)
 (Sh:Fi K UY "ratio" f36)
 (r36:FM K "ratio" "Balanced.ratio" yz f36)
 (Si:Fi K UZ "ratio" f37)
 (r37:FM K "ratio" "Pairs.ratio" xy f37)
 (Sj:Fi K UW "split" f38)
 (Sk:Fi K UX "split" f38)
 (Sm:Fi K UY "split" f38)
 (r38:FM K "split" "Way.split" wc f38)
 (r39:FD K "multiplied" xL f39)
 (Sn:Fi K UZ "split" f40)
 (r40:FM K "split" "Pairs.split" xx f40)
 (r41:FD K "figures_and_carries" zX f41)
 (r42:FD K "carries" uc f42)
 (r43:FD K "has_mosts_above_noughts_alone" zG f43)
 (r44:FD K "has_figures_alone" z7 f44)
 (r45:FD K "is_writing" xO f45)
 (r46:FD K "held_to_be_writings" zW f46)
 (r47:FD K "row_times" xp f47)
 (r48:FD K "trimmed" vZ f48)
 (r49:FD K "settled" ua f49)
 (r50:FD K "written_row" xt f50)
 (r51:FD K "row_plus" xK f51)
 (r52:FD K "times_by_ratio" yx f52)
 (r53:FD K "times" r0 f53)
 (r54:FD K "_law_together" y6 f54)
 (r55:FD K "plus" oP f55)
 (r56:FD K "minus" qa f56)
 (r57:FD K "_law_less" va f57)
 (r58:FD K "_law_difference" yy f58)
 (r59:FD K "_law_right" wa f59)
 (r60:FD K "law" wV f60)
 (U8:ClR K UW "base")
 (U9:ClR K UX "base")
 (U_:ClR K UY "half")
 (Tl:ClR K UV "most")
 (Ta:ClR K UZ "most")
 (Tp:IR K UW)
 (Tc:Ki K UW UV false)
 (Tq:IR K UX)
 (Tf:Ki K UX UV false)
 (Tr:IR K UY)
 (Tg:Ki K UY UV false)
 (Ts:IR K UV)
 (Th:Ki K UV UV true)
 (Tt:IR K UZ)
 (Ti:Ki K UZ UV false)
 (in_:PySem.W.specialIn K (.builtin "object.__class__") "__get__"=some (some (.builtin "getset_descriptor.__get__")))
 (it_:PySem.W.takesIn K (.builtin "object.__class__")=some true)
 (Tj:ExcK K U7)
 (Tn:cT K U7)
 (Td:PySem.W.exmOne K (.ref U7) (.ref U7)=some true)
 (To:Ki K U7 U7 true)
 (z_isinstance:Zn K "isinstance")
 (z_int:Zn K "int")
 (z_bool:Zn K "bool")
 (z_tuple:Zn K "tuple")
 (z_list:Zn K "list")
 (z_len:Zn K "len")
 (z_range:Zn K "range")
 (z_enumerate:Zn K "enumerate")
 (z_reversed:Zn K "reversed")
 (z_min:Zn K "min")
 (z_max:Zn K "max")
 (z_all:Zn K "all"):
 ∃ fd:FuncData,(∀ (s:Shared) (v:Value),BindsTo s fd ⟨[v],[]⟩ [("_law_script",v)])∧∀ base:Heap,K.In base→base.Ns mainGlobals mg→FnOk l.prog w K mg base CX0 12 fa fd ["_law_script"] (zm K (mJ)):=by
 have mn {n:Str} (z:Zn K n):=PySem.W.mg_none_of X G z
 have mo {n:Str} {C:Addr} (z:Gc K n C):=PySem.W.mg_of X G z
 let A:Adr:=⟨UW,UX,UY,0,UV,UZ,U7⟩
 have T:Txt K mg A:=⟨Ur K,mn z_isinstance,mn z_int,mn z_bool,mn z_tuple,mn z_list,mn z_len,mn z_range,mn z_enumerate,mn z_reversed,mn z_min,mn z_max,mn z_all,U8.cls,U8.na,U9.cls,U9.na,U_.cls,U_.na,Tl.cls,Tl.na,Ta.cls,Ta.na,mo TJ,⟨U8.cls,Tp.1,in_,it_,Tp.2⟩,Tc,⟨U9.cls,Tq.1,in_,it_,Tq.2⟩,Tf,⟨U_.cls,Tr.1,in_,it_,Tr.2⟩,Tg,⟨Tl.cls,Ts.1,in_,it_,Ts.2⟩,Th,⟨Ta.cls,Tt.1,in_,it_,Tt.2⟩,Ti,mo TL,Tj,Tn,Td,To⟩
 obtain ⟨_,m1,F1,b1⟩:=r1.get X G ["_law_script","_law_k"] (bz2 rfl fun _ _ _ _ _ _ _ _=>rfl)
 obtain ⟨_,m2,F2,b2⟩:=r2.get X G ["_law_kind","_law_number"] (bz2 rfl fun _ _ _ _ _ _ _ _=>rfl)
 obtain ⟨_,m3,F3,b3⟩:=r3.get X G ["value"] (bz1 rfl fun _ _ _ _ _ _ _=>rfl)
 obtain ⟨_,m4,F4,b4⟩:=r4.get X G ["number","least","most"] (bz3 rfl fun _ _ _ _ _ _ _ _ _=>rfl)
 obtain ⟨_,F5,b5⟩:=r5.get ["self","base"] (bz2 rfl fun _ _ _ _ _ _ _ _=>rfl)
 obtain ⟨_,F6,b6⟩:=r6.get ["self","base"] (bz2 rfl fun _ _ _ _ _ _ _ _=>rfl)
 obtain ⟨_,F7,b7⟩:=r7.get ["self","half"] (bz2 rfl fun _ _ _ _ _ _ _ _=>rfl)
 obtain ⟨_,F8,b8⟩:=r8.get ["self","most"] (bz2 rfl fun _ _ _ _ _ _ _ _=>rfl)
 obtain ⟨_,m9,F9,b9⟩:=r9.get X G ["_law_kind","_law_size_here"] (bz2 rfl fun _ _ _ _ _ _ _ _=>rfl)
 obtain ⟨_,m10,F10,b10⟩:=r10.get X G ["_law_kind","_law_size_here"] (bz2 rfl fun _ _ _ _ _ _ _ _=>rfl)
 obtain ⟨_,m11,F11,b11⟩:=r11.get X G ["_law_kind","_law_size_here","_law_numbers"] (bz3 rfl fun _ _ _ _ _ _ _ _ _=>rfl)
 obtain ⟨_,m12,F12,b12⟩:=r12.get X G ["_law_one","_law_other"] (bz2 rfl fun _ _ _ _ _ _ _ _=>rfl)
 obtain ⟨_,m13,F13,b13⟩:=r13.get X G ["_law_found"] (bz1 rfl fun _ _ _ _ _ _ _=>rfl)
 obtain ⟨_,m14,F14,b14⟩:=r14.get X G ["_law_kind","_law_found"] (bz2 rfl fun _ _ _ _ _ _ _ _=>rfl)
 obtain ⟨_,m15,F15,b15⟩:=r15.get X G ["_law_kind","_law_size_here","_law_carry","_law_thing","_law_after"] (bz5 rfl fun _ _ _ _ _ _ _ _ _ _ _=>rfl)
 obtain ⟨_,m16,F16,b16⟩:=r16.get X G ["_law_kind","_law_size_here","_law_totals","_law_found"] (bz4 rfl fun _ _ _ _ _ _ _ _ _ _=>rfl)
 obtain ⟨_,m17,F17,b17⟩:=r17.get X G ["number"] (bz1 rfl fun _ _ _ _ _ _ _=>rfl)
 obtain ⟨_,m18,F18,b18⟩:=r18.get X G ["one","other"] (bz2 rfl fun _ _ _ _ _ _ _ _=>rfl)
 obtain ⟨_,m19,F19,b19⟩:=r19.get X G ["row","place"] (bz2 rfl fun _ _ _ _ _ _ _ _=>rfl)
 obtain ⟨_,F20,b20⟩:=r20.get ["self"] (bz1 rfl fun _ _ _ _ _ _ _=>rfl)
 obtain ⟨_,F21,b21⟩:=r21.get ["self"] (bz1 rfl fun _ _ _ _ _ _ _=>rfl)
 obtain ⟨_,F22,b22⟩:=r22.get ["self","number"] (bz2 rfl fun _ _ _ _ _ _ _ _=>rfl)
 obtain ⟨_,F23,b23⟩:=r23.get ["self","number"] (bz2 rfl fun _ _ _ _ _ _ _ _=>rfl)
 obtain ⟨_,F24,b24⟩:=r24.get ["self","number"] (bz2 rfl fun _ _ _ _ _ _ _ _=>rfl)
 obtain ⟨_,m25,F25,b25⟩:=r25.get X G ["value"] (bz1 rfl fun _ _ _ _ _ _ _=>rfl)
 obtain ⟨_,F26,b26⟩:=r26.get ["self","number"] (bz2 rfl fun _ _ _ _ _ _ _ _=>rfl)
 obtain ⟨_,F27,b27⟩:=r27.get ["self","place"] (bz2 rfl fun _ _ _ _ _ _ _ _=>rfl)
 obtain ⟨_,F28,b28⟩:=r28.get ["self","place"] (bz2 rfl fun _ _ _ _ _ _ _ _=>rfl)
 obtain ⟨_,F29,b29⟩:=r29.get ["self","place"] (bz2 rfl fun _ _ _ _ _ _ _ _=>rfl)
 obtain ⟨_,F30,b30⟩:=r30.get ["self","place"] (bz2 rfl fun _ _ _ _ _ _ _ _=>rfl)
 obtain ⟨_,F31,b31⟩:=r31.get ["self","place"] (bz2 rfl fun _ _ _ _ _ _ _ _=>rfl)
 obtain ⟨_,F32,b32⟩:=r32.get ["self","place"] (bz2 rfl fun _ _ _ _ _ _ _ _=>rfl)
 obtain ⟨_,F33,b33⟩:=r33.get ["self","place"] (bz2 rfl fun _ _ _ _ _ _ _ _=>rfl)
 obtain ⟨_,F34,b34⟩:=r34.get ["self","place"] (bz2 rfl fun _ _ _ _ _ _ _ _=>rfl)
 obtain ⟨_,F35,b35⟩:=r35.get ["self","place"] (bz2 rfl fun _ _ _ _ _ _ _ _=>rfl)
 obtain ⟨_,F36,b36⟩:=r36.get ["self","place"] (bz2 rfl fun _ _ _ _ _ _ _ _=>rfl)
 obtain ⟨_,F37,b37⟩:=r37.get ["self","place"] (bz2 rfl fun _ _ _ _ _ _ _ _=>rfl)
 obtain ⟨_,F38,b38⟩:=r38.get ["self","total","place"] (bz3 rfl fun _ _ _ _ _ _ _ _ _=>rfl)
 obtain ⟨_,m39,F39,b39⟩:=r39.get X G ["one","other"] (bz2 rfl fun _ _ _ _ _ _ _ _=>rfl)
 obtain ⟨_,F40,b40⟩:=r40.get ["self","total","place"] (bz3 rfl fun _ _ _ _ _ _ _ _ _=>rfl)
 obtain ⟨_,m41,F41,b41⟩:=r41.get X G ["way","totals"] (bz2 rfl fun _ _ _ _ _ _ _ _=>rfl)
 obtain ⟨_,m42,F42,b42⟩:=r42.get X G ["way","totals"] (bz2 rfl fun _ _ _ _ _ _ _ _=>rfl)
 obtain ⟨_,m43,F43,b43⟩:=r43.get X G ["way","row"] (bz2 rfl fun _ _ _ _ _ _ _ _=>rfl)
 obtain ⟨_,m44,F44,b44⟩:=r44.get X G ["way","row"] (bz2 rfl fun _ _ _ _ _ _ _ _=>rfl)
 obtain ⟨_,m45,F45,b45⟩:=r45.get X G ["way","row"] (bz2 rfl fun _ _ _ _ _ _ _ _=>rfl)
 obtain ⟨_,m46,F46,b46⟩:=r46.get X G ["way","rows"] (bz2 rfl fun _ _ _ _ _ _ _ _=>rfl)
 obtain ⟨_,m47,F47,b47⟩:=r47.get X G ["row","factor"] (bz2 rfl fun _ _ _ _ _ _ _ _=>rfl)
 obtain ⟨_,m48,F48,b48⟩:=r48.get X G ["row"] (bz1 rfl fun _ _ _ _ _ _ _=>rfl)
 obtain ⟨_,m49,F49,b49⟩:=r49.get X G ["way","totals"] (bz2 rfl fun _ _ _ _ _ _ _ _=>rfl)
 obtain ⟨_,m50,F50,b50⟩:=r50.get X G ["way","row"] (bz2 rfl fun _ _ _ _ _ _ _ _=>rfl)
 obtain ⟨_,m51,F51,b51⟩:=r51.get X G ["one","other"] (bz2 rfl fun _ _ _ _ _ _ _ _=>rfl)
 obtain ⟨_,m52,F52,b52⟩:=r52.get X G ["way","one","other"] (bz3 rfl fun _ _ _ _ _ _ _ _ _=>rfl)
 obtain ⟨_,m53,F53,b53⟩:=r53.get X G ["way","one","other"] (bz3 rfl fun _ _ _ _ _ _ _ _ _=>rfl)
 obtain ⟨_,m54,F54,b54⟩:=r54.get X G ["_law_one","_law_other","_law_sign"] (bz3 rfl fun _ _ _ _ _ _ _ _ _=>rfl)
 obtain ⟨_,m55,F55,b55⟩:=r55.get X G ["way","one","other"] (bz3 rfl fun _ _ _ _ _ _ _ _ _=>rfl)
 obtain ⟨_,m56,F56,b56⟩:=r56.get X G ["way","one","other"] (bz3 rfl fun _ _ _ _ _ _ _ _ _=>rfl)
 obtain ⟨_,m57,F57,b57⟩:=r57.get X G ["_law_way","_law_one","_law_other","_law_totals"] (bz4 rfl fun _ _ _ _ _ _ _ _ _ _=>rfl)
 obtain ⟨_,m58,F58,b58⟩:=r58.get X G ["_law_way","_law_kind","_law_size_here","_law_one","_law_other"] (bz5 rfl fun _ _ _ _ _ _ _ _ _ _ _=>rfl)
 obtain ⟨_,m59,F59,b59⟩:=r59.get X G ["_law_way","_law_kind","_law_size_here","_law_one","_law_other"] (bz5 rfl fun _ _ _ _ _ _ _ _ _ _ _=>rfl)
 obtain ⟨a60,_,_,kV,dc,pm,an,cd,ct,_,l60,c60,k60⟩:=r60
 cases hfa.symm.trans (PySem.W.mg_of X G a60)
 have F60:=nk (st:=wV) l60 c60 k60
 refine ⟨PySem.W.fnOf "law" "law" (defArgs wV) (defBody wV) (defScope wV) .none kV dc pm an cd ct,fun s v=>.of_eq rfl,fun base _ _=>?_⟩
 have G__law_cell_at:=DOk.mk' F1 m1 b1 (tR (P:=l.prog) (w:=w) (base:=base) T F1)
 have G__law_size:=DOk.mk' F2 m2 b2 (pG (P:=l.prog) (w:=w) (base:=base) T F2)
 have G_is_whole:=DOk.mk' F3 m3 b3 (pJ (P:=l.prog) (w:=w) (base:=base) T F3)
 have G_bounded:=DOk.mk' F4 m4 b4 (oX T G_is_whole F4)
 have Tx:KOk l.prog w K mg base 3 "Plain" A.Plain "base" (Kd.ok .plain):=⟨_,_,_,mo TD,⟨U8.mks,TM,r5.1,U8.kc⟩,b5,sT T G_bounded F5⟩
 have Ty:KOk l.prog w K mg base 3 "Below" A.Below "base" (Kd.ok .below):=⟨_,_,_,mo TF,⟨U9.mks,TN,r6.1,U9.kc⟩,b6,sX T G_bounded F6⟩
 have Tz:KOk l.prog w K mg base 3 "Balanced" A.Balanced "half" (Kd.ok .balanced):=⟨_,_,_,mo TH,⟨U_.mks,TQ,r7.1,U_.kc⟩,b7,ui T G_bounded F7⟩
 have TC:KOk l.prog w K mg base 3 "Pairs" A.Pairs "most" (Kd.ok .pairs):=⟨_,_,_,mo TK,⟨Ta.mks,TR,r8.1,Ta.kc⟩,b8,sV T G_bounded F8⟩
 have G__law_made:=DOk.mk' F9 m9 b9 (pH T Tx Ty Tz TC F9)
 have G__law_bounds:=DOk.mk' F10 m10 b10 (sR (P:=l.prog) (w:=w) (base:=base) T F10)
 have G__law_legal:=DOk.mk' F11 m11 b11 (qo T G__law_bounds F11)
 have G__law_product:=FOk.mk' F12 m12 b12 (tQ (P:=l.prog) (w:=w) (base:=base) T F12)
 have G__law_whole:=DOk.mk' F13 m13 b13 (ql (P:=l.prog) (w:=w) (base:=base) T F13)
 have G__law_is_carry:=DOk.mk' F14 m14 b14 (uM T G__law_whole F14)
 have G__law_figure:=DOk.mk' F15 m15 b15 (sQ (P:=l.prog) (w:=w) (base:=base) T F15)
 have G__law_walked:=FOk.mk' F16 m16 b16 (sP T G__law_is_carry G__law_bounds G__law_figure F16)
 have G_as_pair:=DOk.mk' F17 m17 b17 (oY T G_is_whole F17)
 have G_added:=DOk.mk' F18 m18 b18 (ky T G_is_whole G_as_pair F18)
 have G_thing_at:=DOk.mk' F19 m19 b19 (pE (P:=l.prog) (w:=w) (base:=base) T F19)
 have Sr:=mkr l w base T.U4 TU r20 F20 b20 (yD T F20)
 have SE:=mkr l w base T.U5 TV r20 F20 b20 (yD T F20)
 have SF:=mkr l w base T.U3 TW r20 F20 b20 (yD T F20)
 have SG:=mkr l w base T.Tb TX r20 F20 b20 (yD T F20)
 have SH:=mkr l w base T.UU TY r21 F21 b21 (uN T F21)
 have HNo:∀ k:Kd,MOk l.prog w K mg base 1 (A.at k) "nought" (V1 k):=fun k=>match k with
  | .plain=>Sr | .below=>SE | .balanced=>SF | .growing=>Sr | .falling=>SG | .pairs=>SH
 have Ss:=mkr l w base T.U4 TZ r22 F22 b22 (tS T G_is_whole F22)
 have SI:=mkr l w base T.Tb T0 r22 F22 b22 (tS T G_is_whole F22)
 have SJ:=mkr l w base T.U5 T3 r23 F23 b23 (qr T G_is_whole F23)
 have SK:=mkr l w base T.U3 T4 r24 F24 b24 (uQ T G_is_whole F24)
 have G_is_pair:=DOk.mk' F25 m25 b25 (oV T G_is_whole F25)
 have SL:=mkr l w base T.UU T5 r26 F26 b26 (qp T G_is_pair F26)
 have HHas:∀ k:Kd,MOk l.prog w K mg base 3 (A.at k) "has" (uz k):=fun k=>match k with
  | .plain=>Ss.mono (by decide)
  | .below=>SJ.mono (by decide)
  | .balanced=>SK.mono (by decide)
  | .growing=>(Ss.imp fun ds Q ⟨o,d,m,e,a,q⟩=>⟨o,d,m,e,a,by cases m <;> exact q⟩).mono (by decide)
  | .falling=>(SI.imp fun ds Q ⟨o,d,m,e,a,q⟩=>⟨o,d,m,e,a,by cases m <;> exact q⟩).mono (by decide)
  | .pairs=>SL.mono (by decide)
 have Su:=mkr l w base T.U4 T6 r27 F27 b27 (xW T F27)
 have SM:=mkr l w base T.U5 T7 r27 F27 b27 (xW T F27)
 have SN:=mkr l w base T.Tb T8 r27 F27 b27 (xW T F27)
 have SO:=mkr l w base T.UU T9 r27 F27 b27 (xW T F27)
 have SQ:=mkr l w base T.U3 T_ r28 F28 b28 (uP T F28)
 have Sv:=mkr l w base T.U4 Sa r29 F29 b29 (sU T F29)
 have SR:=mkr l w base T.U5 Sb r30 F30 b30 (sY T F30)
 have SS:=mkr l w base T.U3 Sc r31 F31 b31 (uj T F31)
 have ST:=mkr l w base T.Tb Sd r32 F32 b32 (uO T F32)
 have SU:=mkr l w base T.UU Se r33 F33 b33 (sW T F33)
 have HLo:∀ k:Kd,MOk l.prog w K mg base 1 (A.at k) "low" (x5 A k (k.low))∧MOk l.prog w K mg base 1 (A.at k) "high" (x5 A k (k.high)):=fun k=>match k with
  | .plain=>⟨Su.imp fun ds Q ⟨n,p,e,_,q⟩=>⟨_,_,e,q⟩,Sv⟩
  | .below=>⟨SM.imp fun ds Q ⟨n,p,e,_,q⟩=>⟨_,_,e,q⟩,SR⟩
  | .balanced=>⟨SQ,SS⟩
  | .growing=>⟨Su.imp fun ds Q ⟨n,p,e,_,q⟩=>⟨_,_,e,q⟩,Sv.imp fun ds Q ⟨n,p,e,hk,q⟩=>(noG hk).elim⟩
  | .falling=>⟨SN.imp fun ds Q ⟨n,p,e,_,q⟩=>⟨_,_,e,q⟩,ST⟩
  | .pairs=>⟨SO.imp fun ds Q ⟨n,p,e,_,q⟩=>⟨_,_,e,q⟩,SU⟩
 have Sw:=mkr l w base T.U4 Sf r34 F34 b34 (tT T F34)
 have SV:=mkr l w base T.U5 Sg r35 F35 b35 (tW T F35)
 have SW:=mkr l w base T.U3 Sh r36 F36 b36 (vy T F36)
 have SY:=mkr l w base T.UU Si r37 F37 b37 (tV T F37)
 have HR:∀ k:Kd,k.five=true→MOk l.prog w K mg base 1 (A.at k) "ratio" (vj A k (k.ratN)):=fun k hk=>match k,hk with
  | .plain,_=>Sw
  | .below,_=>SV
  | .balanced,_=>SW
  | .growing,_=>Sw.imp fun ds Q ⟨n,p,e,hk,q⟩=>(noG hk).elim
  | .pairs,_=>SY
 have Sx:=mkr l w base T.U4 Sj r38 F38 b38 (xV T HLo HR F38)
 have SZ:=mkr l w base T.U5 Sk r38 F38 b38 (xV T HLo HR F38)
 have S0:=mkr l w base T.U3 Sm r38 F38 b38 (xV T HLo HR F38)
 have G_multiplied:=DOk.mk' F39 m39 b39 (sO T G_is_whole G_as_pair F39)
 have S1:=mkr l w base T.UU Sn r40 F40 b40 (tU T G_as_pair G_multiplied F40)
 have HSp:∀ k:Kd,k.five=true→MOk l.prog w K mg base 4 (A.at k) "split" (mC A k):=fun k hk=>match k,hk with
  | .plain,_=>(Sx.imp fun ds Q ⟨n,m,j,e,⟨a,em⟩,h1,h2,q⟩=>⟨.plain,n,a,j,by rw [e,em]; rfl,rfl,h1,h2,by rw [em] at q; exact q⟩).mono (by decide)
  | .below,_=>(SZ.imp fun ds Q ⟨n,m,j,e,⟨a,em⟩,h1,h2,q⟩=>⟨.below,n,a,j,by rw [e,em]; rfl,rfl,h1,h2,by rw [em] at q; exact q⟩).mono (by decide)
  | .balanced,_=>(S0.imp fun ds Q ⟨n,m,j,e,⟨a,em⟩,h1,h2,q⟩=>⟨.balanced,n,a,j,by rw [e,em]; rfl,rfl,h1,h2,by rw [em] at q; exact q⟩).mono (by decide)
  | .growing,_=>(Sx.imp fun ds Q ⟨n,m,j,e,z,h1,q⟩=>(noG h1).elim).mono (by decide)
  | .pairs,_=>(S1.imp fun ds Q ⟨n,m,j,e,_,h1,h2,q⟩=>⟨n,_,m,j,e,yE m,h1,q⟩).mono (by decide)
 have G_figures_and_carries:=TOkX.mk' F41 m41 b41 (xU T G_added G_thing_at HNo HHas HSp F41)
 have G_carries:=FOkX.mk' F42 m42 b42 (oW T G_figures_and_carries F42)
 have G_has_mosts_above_noughts_alone:=DOk.mk' F43 m43 b43 (yl (P:=l.prog) (w:=w) (base:=base) T F43)
 have G_has_figures_alone:=DOk.mk' F44 m44 b44 (wo (P:=l.prog) (w:=w) (base:=base) T HLo F44)
 have G_is_writing:=DOk.mk' F45 m45 b45 (sS T G_has_mosts_above_noughts_alone G_has_figures_alone F45)
 have G_held_to_be_writings:=DOk.mk' F46 m46 b46 (xT T G_is_writing F46)
 have G_row_times:=DOk.mk' F47 m47 b47 (qk T G_multiplied F47)
 have G_trimmed:=FOk.mk' F48 m48 b48 (oT (P:=l.prog) (w:=w) (base:=base) T F48)
 have G_settled:=FOkX.mk' F49 m49 b49 (oU T G_trimmed G_figures_and_carries F49)
 have G_written_row:=FOkX.mk' F50 m50 b50 (tP T G_settled F50)
 have G_row_plus:=DOk.mk' F51 m51 b51 (pF T G_added G_thing_at F51)
 have G_times_by_ratio:=FOk.mk' F52 m52 b52 (vv T G_row_times G_written_row G_row_plus HR F52)
 have G_times:=FOk.mk' F53 m53 b53 (kv T G_held_to_be_writings G_times_by_ratio F53)
 have G__law_together:=FOk.mk' F54 m54 b54 (uL (P:=l.prog) (w:=w) (base:=base) T F54)
 have G_plus:=FOk.mk' F55 m55 b55 (gv T G_held_to_be_writings G_written_row G_row_plus F55)
 have G_minus:=FOkX.mk' F56 m56 b56 (kx T G_held_to_be_writings G_row_plus G_row_times G_written_row F56)
 have G__law_less:=DOk.mk' F57 m57 b57 (pI T G_minus G_carries F57)
 have G__law_difference:=DOk.mk' F58 m58 b58 (vw T G__law_together G__law_less G__law_walked G_carries G_minus F58)
 have G__law_right:=DOk.mk' F59 m59 b59 (qm T G__law_product G__law_walked G_carries G_times G__law_together G_plus G__law_difference F59)
 exact bN T G__law_cell_at G__law_size G__law_made G__law_legal G__law_right F60
theorem walk {l:PySem.W.OpenLaw} {q:Program} {loose:List Str} {XP:(Str→Option Value)→Heap→Prop} {YP:World→Heap→Prop} {d:DefRec} {K:Params→PySem.W.Frag} (hn:l.most=some 63) (hdf:d.params.defaults=[])
  (hY:∀ (w:World) (h:Heap),YP w h→(K w.params).In h)
  (F:∀ (w:World) (mg:Str→Option Value) (fa:Addr) (h:Heap),(K w.params).In h→h.Ns mainGlobals mg→mg d.name=some (.ref fa)→
   ∃ fd:FuncData,(∀ (s:Shared) (u:Value),BindsTo s fd ⟨[u],[]⟩ [("_law_script",u)])∧∀ base:Heap,(K w.params).In base→base.Ns mainGlobals mg→FnOk l.prog w (K w.params) mg base CX0 12 fa fd ["_law_script"] (zm (K w.params) (mJ))):
  PySem.W.WalkO q loose XP YP l.row.toRowW d [] (fun f vs=>PySem.call f vs):=
 L2.walk_of (n:=63) (k:=12) (x:="_law_script") (CX:=fun _=>CX0) (sp:=fun w=>zm (K w.params) (mJ)) hn (by decide) hdf ⟨rfl,by decide,by decide⟩ hY F (fun w H a ns hl _ hS=>⟨⟨H,H,Same.refl H⟩,[.scr ns],fun d=>d=.bl true,rfl,allIs_cons.mpr ⟨_,_,rfl,is_scr.mpr ⟨a,rfl,hS⟩,allIs_nil.mpr rfl⟩,⟨ns,rfl,hl,rfl⟩,fun d v W' _ i e=>by subst e; exact is_bl.mp i⟩) fun _ _ _ _ _ z=>z
end My
local macro_rules | `(tactic| walk_at "fx") => `(tactic| (refine' My.FX.mk ?l ?c ?k; (case l => k_is); (case c => k_is); (case k => k_is)))
local macro_rules | `(tactic| walk_at "kk") => `(tactic| first | k_is | kit_is | kts_exm | (delta L2.ExcK; k_exc) | (delta My.Fi; k_is) | (delta My.Zn; k_is) | (delta My.Gs; k_is) | (delta My.Gc; k_is) | (delta My.Ki; kit_is) | (delta My.FD; refine ⟨?a, ?b⟩; (case a => k_is); (case b => walk_at "fx")) | (delta My.FE; refine ⟨?a, ?b⟩; (case a => k_is); (case b => walk_at "fx")) | (delta My.FM; refine ⟨?a, ?b⟩; (case a => k_is); (case b => walk_at "fx")) | (refine ⟨⟨?_, ?_, ?_, ?_⟩, ?_, ?_, ?_⟩ <;> k_is) | (refine ⟨?_, ?_, ?_, ?_, ?_, ?_, ?_⟩ <;> k_is) | (refine ⟨?_, ?_⟩ <;> k_is))
open PySem PySem.W PyProof.Rows
set_option maxRecDepth 100000 in
set_option maxHeartbeats 0 in
theorem PySem.Challenge.cw_oddbases_k63_whole_by_carries_holds : PySem.Challenge.rw_oddbases_k63_whole_by_carries.Holds := by
 w_on; o_law
 refine holds_open (q:=My.h_view_39) (loose:=[]) (Xt:=(fun s=>xlAt My.h_view_39 [] s && recOk (RowW.records (OpenRow.toRowW PySem.Challenge.rw_oddbases_k63_whole_by_carries.row)) s)) (XP:=XL My.h_view_39 []) (Yf:=Hook.obs (kHook My.h_heap_39 My.myAs My.myE)) (Ya:=Hook.val (kHook My.h_heap_39 My.myAs My.myE)) (YP:=Hook.says (kHook My.h_heap_39 My.myAs My.myE)) (N:=10222) My.left (Hook.of _) (Hook.keeps _) (fun s e=>xl_of s (Bool.and_eq_true_iff.mp e).1) XL.keeps (by rfl) (by rfl) (by rfl) (fun s e=>recFacts_of (Bool.and_eq_true_iff.mp e).2) (by rfl) (by first | assumption | decide +kernel) (by decide +kernel) ⟨rfl,rfl,rfl,rfl,rfl,by decide +kernel⟩ ?hw ?hc
 case hw=>w_witness2
 k_fill
 refine My.walk (l:=PySem.Challenge.rw_oddbases_k63_whole_by_carries) rfl rfl (fun w h Y=>PySem.W.kIn_of Y) ?F
 case F=>
  intro w mg fa h KX G hmg
  refine' My.all_mk KX G hmg ?TD ?TF ?TH ?TJ ?TK ?TL ?r1 ?r2 ?r3 ?r4 ?TM ?r5 ?TN ?r6 ?TQ ?r7 ?TR ?r8 ?r9 ?r10 ?r11 ?r12 ?r13 ?r14 ?r15 ?r16 ?r17 ?r18 ?r19 ?TU ?TV ?TW ?TX ?r20 ?TY ?r21 ?TZ ?T0 ?r22 ?T3 ?r23 ?T4 ?r24 ?r25 ?T5 ?r26 ?T6 ?T7 ?T8 ?T9 ?r27 ?T_ ?r28 ?Sa ?r29 ?Sb ?r30 ?Sc ?r31 ?Sd ?r32 ?Se ?r33 ?Sf ?r34 ?Sg ?r35 ?Sh ?r36 ?Si ?r37 ?Sj ?Sk ?Sm ?r38 ?r39 ?Sn ?r40 ?r41 ?r42 ?r43 ?r44 ?r45 ?r46 ?r47 ?r48 ?r49 ?r50 ?r51 ?r52 ?r53 ?r54 ?r55 ?r56 ?r57 ?r58 ?r59 ?r60 ?U8 ?U9 ?U_ ?Tl ?Ta ?Tp ?Tc ?Tq ?Tf ?Tr ?Tg ?Ts ?Th ?Tt ?Ti ?in_ ?it_ ?Tj ?Tn ?Td ?To ?z_isinstance ?z_int ?z_bool ?z_tuple ?z_list ?z_len ?z_range ?z_enumerate ?z_reversed ?z_min ?z_max ?z_all
  case TD | TF | TH | TJ | TK | TL | r1 | r2 | r3 | r4 | TM | r5 | TN | r6 | TQ | r7 | TR | r8 | r9 | r10 | r11 | r12 | r13 | r14 | r15 | r16 | r17 | r18 | r19 | TU | TV | TW | TX | r20 | TY | r21 | TZ | T0 | r22 | T3 | r23 | T4 | r24 | r25 | T5 | r26 | T6 | T7 | T8 | T9 | r27 | T_ | r28 | Sa | r29 | Sb | r30 | Sc | r31 | Sd | r32 | Se | r33 | Sf | r34 | Sg | r35 | Sh | r36 | Si | r37 | Sj | Sk | Sm | r38 | r39 | Sn | r40 | r41 | r42 | r43 | r44 | r45 | r46 | r47 | r48 | r49 | r50 | r51 | r52 | r53 | r54 | r55 | r56 | r57 | r58 | r59 | r60 | U8 | U9 | U_ | Tl | Ta | Tp | Tc | Tq | Tf | Tr | Tg | Ts | Th | Tt | Ti | in_ | it_ | Tj | Tn | Td | To | z_isinstance | z_int | z_bool | z_tuple | z_list | z_len | z_range | z_enumerate | z_reversed | z_min | z_max | z_all=>walk_at "kk"
