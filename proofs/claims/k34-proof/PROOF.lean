import PyProof.Rows.All
import Wide.All
import OpenK.AllK
import Wide.FinOn
import Lean
import PyProof.EqAt
import PyProof.EqKinds
import PyProof.TupleCall
import PyProof.NeKinds
import PySem.Challenge.RW_oddbases_k34_shared
set_option Elab.async false
set_option linter.all false
set_option maxRecDepth 100000
namespace L2
open PySem PySem.Spec PyProof.Rows
abbrev Key:=Sum Int Str
def eX:Key→Value→Bool
 | .inl k,v=>Value.isInt k v
 | .inr x,v=>Value.isStrOf x v
def V0 (w:World):Key→Int
 | .inl k=>hashInt k
 | .inr x=>hashStr w x
theorem zR:∀ {k:Key} {v:Value},eX k v=true→(∃ i t,k=Sum.inl i∧v=Value.int i t)∨(∃ x t,k=Sum.inr x∧v=Value.str x t)
 | .inl i,v,h=>by
  obtain ⟨t,e⟩:=Value.isInt_shape (k:=i) (v:=v) h
  exact .inl ⟨i,t,rfl,e⟩
 | .inr x,v,h=>by
  obtain ⟨t,e⟩:=Value.isStrOf_shape (x:=x) (v:=v) h
  exact .inr ⟨x,t,rfl,e⟩
theorem Yh (a b:Int):decide ((Sum.inl a:Key)=Sum.inl b)=(a == b):=by
 by_cases e:a=b
 ·subst e; simp
 ·have h:¬ (Sum.inl a:Key)=Sum.inl b:=fun q=>e (Sum.inl.inj q)
  rw [decide_eq_false h]
  exact (beq_eq_false_iff_ne.mpr e).symm
theorem Yd (a b:Str):decide ((Sum.inr a:Key)=Sum.inr b)=decide (a=b):=by
 by_cases e:a=b
 ·subst e; simp
 ·have h:¬ (Sum.inr a:Key)=Sum.inr b:=fun q=>e (Sum.inr.inj q)
  rw [decide_eq_false h,decide_eq_false e]
theorem Yg (a:Int) (b:Str):decide ((Sum.inl a:Key)=Sum.inr b)=false:=decide_eq_false (fun q=>nomatch q)
theorem Ye (a:Str) (b:Int):decide ((Sum.inr a:Key)=Sum.inl b)=false:=decide_eq_false (fun q=>nomatch q)
def rS (prog:Program) (w:World):PySem.KeyKind prog w Key where
 is:=eX
 hash:=V0 w
 inj:=fun v a b ha hb=>by
  rcases zR ha with ⟨i,t,rfl,rfl⟩ | ⟨x,t,rfl,rfl⟩
  ·rcases zR hb with ⟨j,u,rfl,e⟩ | ⟨y,u,rfl,e⟩
   ·injection e with e1 _; rw [e1]
   ·exact nomatch e
  ·rcases zR hb with ⟨j,u,rfl,e⟩ | ⟨y,u,rfl,e⟩
   ·exact nomatch e
   ·injection e with e1 _; rw [e1]
 byValue:=fun k v h=>by
  rcases zR h with ⟨i,t,rfl,rfl⟩ | ⟨x,t,rfl,rfl⟩ <;> rfl
 pyHash:=fun hv h=>by
  rcases zR hv with ⟨i,t,rfl,rfl⟩ | ⟨x,t,rfl,rfl⟩
  ·exact wpAny_pyHash_int h
  ·exact wpAny_pyHash_str h
 eqBool:=fun hu hv h=>by
  rcases zR hu with ⟨i,t,rfl,rfl⟩ | ⟨x,t,rfl,rfl⟩
  ·rcases zR hv with ⟨j,u,rfl,rfl⟩ | ⟨y,u,rfl,rfl⟩
   ·rw [Yh] at h; exact wpAny_eqBool_int h
   ·rw [Yg] at h; exact SeqAt.EqAt.int_str i t y u _ _ _ _ h
  ·rcases zR hv with ⟨j,u,rfl,rfl⟩ | ⟨y,u,rfl,rfl⟩
   ·rw [Ye] at h; exact SeqAt.EqAt.str_int x t j u _ _ _ _ h
   ·rw [Yd] at h; exact wpAny_eqBool_str h
 «strs»:=fun k x t v h=>by
  rcases zR h with ⟨i,u,rfl,e⟩ | ⟨y,u,rfl,e⟩
  ·exact nomatch e
  ·injection e with e1 _
   subst e1
   cases v <;> rfl
end L2
namespace L2
open PySem PySem.Spec PyProof.Rows
inductive V where
 | non | bl (b:Bool) | int (i:Int) | str (x:Str) | byt (b:Array UInt8) | flt (b:UInt64) | ref (a:Addr) | ty (n:String)
 deriving DecidableEq
def RelV:V→Value→Prop
 | .non,u=>u=Value.none
 | .bl b,u=>u=Value.bool b
 | .int i,u=>∃ t,u=Value.int i t
 | .str x,u=>∃ t,u=Value.str x t
 | .byt b,u=>∃ t,u=Value.bytes b t
 | .flt b,u=>∃ t,u=Value.float b t
 | .ref a,u=>u=Value.ref a
 | .ty n,u=>u=Value.type n
abbrev Vals:List V→List Value→Prop:=Paired RelV
theorem Vals.length {xs:List V} {us:List Value} (r:Vals xs us):xs.length=us.length:=Paired.length r
theorem Vals.get:∀ {xs:List V} {us:List Value} {i:Nat} {x:V},Vals xs us→xs[i]? = some x→∃ u,us[i]? = some u∧RelV x u
 | _,_,_,_,.nil,e=>by simp at e
 | _,_,0,_,.cons r _,e=>by simp at e; subst e; exact ⟨_,rfl,r⟩
 | _,_,i+1,x,.cons _ t,e=>by
  obtain ⟨u,h1,h2⟩:=Vals.get (i:=i) (x:=x) t (by simpa using e)
  exact ⟨u,by simpa using h1,h2⟩
theorem Vals.set {x:V} {u:Value} (r:RelV x u):∀ {xs:List V} {us:List Value} (i:Nat),Vals xs us→Vals (xs.set i x) (us.set i u)
 | _,_,_,.nil=>.nil
 | _,_,0,.cons _ t=>.cons r t
 | _,_,i+1,.cons q t=>.cons q (Vals.set r i t)
theorem Vals.append:∀ {xs ys:List V} {us ws:List Value},Vals xs us→Vals ys ws→Vals (xs++ys) (us++ws)
 | _,_,_,_,.nil,s=>s
 | _,_,_,_,.cons r t,s=>.cons r (Vals.append t s)
theorem Vals.take:∀ {xs:List V} {us:List Value} (n:Nat),Vals xs us→Vals (xs.take n) (us.take n)
 | _,_,0,_=>.nil
 | _,_,_+1,.nil=>.nil
 | _,_,n+1,.cons r t=>.cons r (Vals.take n t)
theorem Vals.drop:∀ {xs:List V} {us:List Value} (n:Nat),Vals xs us→Vals (xs.drop n) (us.drop n)
 | _,_,0,r=>r
 | _,_,_+1,.nil=>.nil
 | _,_,n+1,.cons _ t=>Vals.drop n t
theorem Vals.none_of:∀ {xs:List V} {us:List Value} {i:Nat},Vals xs us→xs[i]? = none→us[i]? = none:=fun {xs us i} r e=>by
 have h1:=r.length
 have h2:xs.length≤i:=List.getElem?_eq_none_iff.mp e
 exact List.getElem?_eq_none_iff.mpr (by omega)
def RelO:Option V→Option Value→Prop
 | some v,some u=>RelV v u
 | none,none=>True
 | _,_=>False
def KV {κ:Type}:List (κ × V)→List (κ × Value)→Prop:=Paired fun (p:κ × V) (q:κ × Value)=>p.1=q.1∧RelV p.2 q.2
def kV:Key→V
 | .inl i=>.int i
 | .inr x=>.str x
inductive HO where
 | lst (xs:List V)
 | tup (xs:List V)
 | dK (kvs:List (Key × V)) | dT (kvs:List (List Key × V))
 | set (S:Int→Bool) (n:Nat)
 | ins (C dx:Addr) (fs:List (Str × V))
 | own (x:Addr)
 | xd (fs:List (Str × V))
 | met (f x:Addr)
 | rng (lo hi:Int)
 | frz (o:Obj) (u:HO)
 | tbl (ps:Array Value)
 | ext (φ:Heap→Prop)
abbrev Hp:=Addr→Option HO
def upd (H:Hp) (a:Addr) (o:HO):Hp:=fun b=>if b=a then some o else H b
theorem zu {H:Hp} {a:Addr} {o:HO}:upd H a o a=some o:=by unfold upd; rw [if_pos rfl]
theorem zw {H:Hp} {a b:Addr} {o:HO} (h:b≠a):upd H a o b=H b:=by unfold upd; rw [if_neg h]
theorem zS {H:Hp} {a b:Addr} {o:HO} (h:H a=some o) (h':H b=none):a≠b:=by
 intro e; subst e; rw [h] at h'; cases h'
section
variable (P:Program) (w:World)
def ObjOk (H:Hp) (h:Heap) (a:Addr):HO→Prop
 | .lst xs=>xs.length≤sizeLine∧∃ (its:List Value) (n:Nat),Vals xs its∧h.get? a=some { cls:=.type "list",data:=.seq its.toArray n }
 | .tup xs=>xs.length≤sizeLine∧∃ its:List Value,Vals xs its∧IsTup h a its.toArray
 | .dK kvs=>kvs.length≤sizeLine∧(a == sysModules)=false∧∃ vs,KV kvs vs∧h.DictOf (rS P w) a vs
 | .dT kvs=>kvs.length≤sizeLine∧(a == sysModules)=false∧∃ xs:List (List Key × Addr × Value),
   Paired (fun (p:List Key × V) (q:List Key × Addr × Value)=>p.1=q.1∧H q.2.1=some (.tup (p.1.map kV))∧RelV p.2 q.2.2) kvs xs∧
   ∃ o es ep,h.get? a=some o∧o.ExactDict∧o.data=.dict es ep∧es.toList=xs.map (entryOfKey (tupleKind (rS P w)))∧(xs.map (·.1)).Nodup
 | .set S n=>h.SetOf (intKind P w) a S n
 | .ins C dx fs=>H dx=some (.own a)∧fs.length≤1000∧dx≠a∧h.get? a=some (PySem.W.instObj C dx)∧
   ∃ mA,h.Ns1 dx mA∧(∀ f,RelO (fs.lookup f) (mA f))∧PySem.Within mA (fs.map (·.1))
 | .own _=>∃ o,h.get? a=some o
 | .xd fs=>∃ mA,h.Ns1 a mA∧∀ f,RelO (fs.lookup f) (mA f)
 | .rng lo hi=>∃ t u v,h.get? a=some { cls:=.type "range",data:=.fields #[.int lo t,.int hi u,.int 1 v] }
 | .frz o u=>h.get? a=some o∧ObjOk H h a u
 | .tbl ps=>h.get? a=some { cls:=.none,data:=.fields ps }
 | .met f x=>h.get? a=some (PySem.W.methodObj (.ref f) (.ref x))
 | .ext φ=>φ h∧(∃ o,h.get? a=some o)∧∀ h1 h2:Heap,φ h1→(∀ o,h1.get? a=some o→h2.get? a=some o)→φ h2
def HOk (H:Hp) (h:Heap):Prop:=∀ a o,H a=some o→ObjOk P w H h a o
end
section
variable {P:Program} {w:World} {H H':Hp} {h h':Heap} {a:Addr} {o:HO}
theorem ObjOk.lt (x:ObjOk P w H h a o):a<h.objs.size:=by
 cases o with
 | lst xs=>obtain ⟨_,_,_,_,e⟩:=x; exact Heap.lt_size e
 | tup xs=>obtain ⟨_,_,_,p⟩:=x; exact p.lt
 | dK kvs=>obtain ⟨_,_,_,_,o,_,_,e,_⟩:=x; exact Heap.lt_size e
 | dT kvs=>obtain ⟨_,_,_,_,o,_,_,e,_⟩:=x; exact Heap.lt_size e
 | set S n=>obtain ⟨o,_,_,_,e,_⟩:=x; exact Heap.lt_size e
 | ins C dx fs=>obtain ⟨_,_,_,e,_⟩:=x; exact Heap.lt_size e
 | own y=>obtain ⟨_,e⟩:=x; exact Heap.lt_size e
 | xd fs=>obtain ⟨_,⟨_,_,_,e,_⟩,_⟩:=x; exact Heap.lt_size e
 | rng lo hi=>obtain ⟨_,_,_,e⟩:=x; exact Heap.lt_size e
 | frz ob u=>obtain ⟨e,_⟩:=x; exact Heap.lt_size e
 | tbl ps=>exact Heap.lt_size (show h.get? a=some _ from x)
 | met f y=>exact Heap.lt_size (show h.get? a=some _ from x)
 | ext φ=>obtain ⟨_,⟨_,e⟩,_⟩:=x; exact Heap.lt_size e
theorem Paired.mapP {α β:Type} {F G:α→β→Prop}:∀ {l₁:List α} {l₂:List β},Paired F l₁ l₂→(∀ a b,F a b→G a b)→Paired G l₁ l₂
 | _,_,.nil,_=>.nil
 | _,_,.cons r t,f=>.cons (f _ _ r) (Paired.mapP t f)
theorem ObjOk.stay (x:ObjOk P w H h a o) (k:∀ b u,(b=a∨H b=some (.own a))→h.get? b=some u→h'.get? b=some u)
  (ho:∀ b,H b=some (.own a)→H' b=some (.own a)) (ht:∀ b xs,H b=some (.tup xs)→H' b=some (.tup xs)):ObjOk P w H' h' a o:=by
 induction o with
 | lst xs=>obtain ⟨z,its,n,r,e⟩:=x; exact ⟨z,its,n,r,k _ _ (.inl rfl) e⟩
 | tup xs=>obtain ⟨z,its,r,ob,e,c⟩:=x; exact ⟨z,its,r,ob,k _ _ (.inl rfl) e,c⟩
 | dK kvs=>obtain ⟨z,y,vs,r,ob,es,ep,e,c⟩:=x; exact ⟨z,y,vs,r,ob,es,ep,k _ _ (.inl rfl) e,c⟩
 | dT kvs=>
  obtain ⟨z,y,xs,r,ob,es,ep,e,c⟩:=x
  exact ⟨z,y,xs,Paired.mapP r fun p q z=>⟨z.1,ht _ _ z.2.1,z.2.2⟩,ob,es,ep,k _ _ (.inl rfl) e,c⟩
 | set S n=>obtain ⟨ob,es,ep,t,e,c⟩:=x; exact ⟨ob,es,ep,t,k _ _ (.inl rfl) e,c⟩
 | ins C dx fs=>
  obtain ⟨d,z,ne,e,mA,⟨od,es,ep,e2,c⟩,r⟩:=x
  exact ⟨ho _ d,z,ne,k _ _ (.inl rfl) e,mA,⟨od,es,ep,k _ _ (.inr d) e2,c⟩,r⟩
 | own y=>obtain ⟨ob,e⟩:=x; exact ⟨ob,k _ _ (.inl rfl) e⟩
 | xd fs=>obtain ⟨mA,⟨od,es,ep,e,c⟩,r⟩:=x; exact ⟨mA,⟨od,es,ep,k _ _ (.inl rfl) e,c⟩,r⟩
 | rng lo hi=>obtain ⟨t,u,v,e⟩:=x; exact ⟨t,u,v,k _ _ (.inl rfl) e⟩
 | frz ob u ih=>obtain ⟨e,q⟩:=x; exact ⟨k _ _ (.inl rfl) e,ih q⟩
 | tbl ps=>
  have e:h.get? a=some { cls:=.none,data:=.fields ps }:=x
  show h'.get? a=some { cls:=.none,data:=.fields ps }
  exact k a _ (.inl rfl) e
 | met f y=>
  have e:h.get? a=some (PySem.W.methodObj (.ref f) (.ref y)):=x
  show h'.get? a=some (PySem.W.methodObj (.ref f) (.ref y))
  exact k a _ (.inl rfl) e
 | ext φ=>obtain ⟨p,⟨o,e⟩,st⟩:=x; exact ⟨st _ _ p fun o q=>k _ _ (.inl rfl) q,⟨o,k _ _ (.inl rfl) e⟩,st⟩
theorem HOk.lt (x:HOk P w H h) (e:H a=some o):a<h.objs.size:=(x a o e).lt
theorem HOk.fresh (x:HOk P w H h) (e:h.objs.size≤a):H a=none:=by
 cases q:H a with
 | none=>rfl
 | some u=>exact absurd (Nat.lt_of_lt_of_le (x.lt q) e) (Nat.lt_irrefl _)
theorem HOk.kept (x:HOk P w H h) (k:∀ b u,h.get? b=some u→h'.get? b=some u):HOk P w H h':=fun a o e=>
 (x a o e).stay (fun b u _ q=>k b u q) (fun _ q=>q) fun _ _ q=>q
theorem HOk.laid (x:HOk P w H h) (k:∀ b u,h.get? b=some u→h'.get? b=some u) (hp:h.objs.size≤a) (new:ObjOk P w (upd H a o) h' a o):HOk P w (upd H a o) h':=fun b u e=>by
 have hn:=x.fresh hp
 by_cases hb:b=a
 ·subst hb; rw [zu] at e; cases e; exact new
 ·rw [zw hb] at e
  exact (x b u e).stay (fun c v _ q=>k c v q) (fun c q=>by rw [zw (zS q hn)]; exact q) fun c xs q=>by rw [zw (zS q hn)]; exact q
end
def Rd (H:Hp) (a:Addr) (u:HO):Prop:=H a=some u∨∃ o,H a=some (.frz o u)
theorem Rd.of {H:Hp} {a:Addr} {u:HO} (h:H a=some u):Rd H a u:=.inl h
theorem Rd.ok {P:Program} {w:World} {H:Hp} {h:Heap} {a:Addr} {u:HO} (r:Rd H a u) (x:HOk P w H h):ObjOk P w H h a u:=by
 rcases r with r | ⟨o,r⟩
 ·exact x a u r
 ·obtain ⟨_,q⟩:=x a _ r
  exact q
def Mut:Option HO→Prop
 | some (.lst _)=>True
 | some (.dK _)=>True
 | some (.dT _)=>True
 | some (.set _ _)=>True
 | some (.ins _ _ _)=>True
 | some (.ext _)=>True
 | _=>False
section
variable {P:Program} {w:World} {H:Hp} {h h':Heap} {x e:Addr} {o':HO}
theorem HOk.write (ok:HOk P w H h) (mu:Mut (H x)) (he:e=x∨H e=some (.own x)) (k:∀ b u,b≠e→h.get? b=some u→h'.get? b=some u) (heo:∃ u,h'.get? e=some u)
  (new:ObjOk P w (upd H x o') h' x o'):HOk P w (upd H x o') h':=fun b u q=>by
 have nown:∀ c y,H c=some (.own y)→c≠x:=fun c y r z=>by subst z; rw [r] at mu; exact mu
 have ntup:∀ c xs,H c=some (.tup xs)→c≠x:=fun c xs r z=>by subst z; rw [r] at mu; exact mu
 by_cases hb:b=x
 ·subst hb; rw [zu] at q; cases q; exact new
 ·rw [zw hb] at q
  by_cases hbe:b=e
  ·have q':H b=some (.own x):=by
    rcases he with z | z
    ·exact absurd (hbe.trans z) hb
    ·rw [hbe]; exact z
   rw [q] at q'; cases q'
   obtain ⟨v,hv⟩:=heo
   exact ⟨v,by rw [hbe]; exact hv⟩
  ·refine (ok b u q).stay (fun c v hc r=>k c v ?_ r) (fun c r=>by rw [zw (nown c b r)]; exact r) fun c xs r=>by rw [zw (ntup c xs r)]; exact r
   rcases hc with rfl | hc
   ·exact hbe
   ·rintro rfl
    rcases he with z | z
    ·exact nown c b hc z
    ·rw [hc] at z; cases z; exact hb rfl
end
structure Un (fs ex:List Addr) (H H':Hp) (h h':Heap):Prop where
 keep:∀ b o,h.get? b=some o→H b=none→b∉fs→b∉ex→h'.get? b=some o
 slot:∀ b o,h.get? b=some o→H b=none→b∈fs→b∉ex→∃ sl,h'.get? b=some { o with slots:=sl }
 free:∀ b o,h.get? b=some o→H b=none→b∉ex→H' b=none
 there:∀ b o,h.get? b=some o→b∉ex→∃ o',h'.get? b=some o'
 tups:∀ b xs,H b=some (.tup xs)→H' b=some (.tup xs)
 frzs:∀ b o u,H b=some (.frz o u)→H' b=some (.frz o u)
 tbls:∀ b ps,H b=some (.tbl ps)→∃ more,H' b=some (.tbl (ps++more))
section
variable {fs fs' ex ex':List Addr} {H H1 H2:Hp} {h h1 h2 h':Heap} {a x e:Addr} {o:HO}
theorem Un.any (u:Un fs ex H H1 h h1) {b:Addr} {ob:Obj} (q:h.get? b=some ob) (n:H b=none) (hx:b∉ex):∃ sl,h1.get? b=some { ob with slots:=sl }:=by
 by_cases hb:b∈fs
 ·exact u.slot b ob q n hb hx
 ·exact ⟨ob.slots,u.keep b ob q n hb hx⟩
theorem Un.trans (a:Un fs ex H H1 h h1) (b:Un fs ex H1 H2 h1 h2):Un fs ex H H2 h h2 where
 keep:=fun c ob q n hc hx=>b.keep c ob (a.keep c ob q n hc hx) (a.free c ob q n hx) hc hx
 slot:=fun c ob q n hc hx=>by
  obtain ⟨sl,e1⟩:=a.slot c ob q n hc hx
  obtain ⟨sl',e2⟩:=b.slot c _ e1 (a.free c ob q n hx) hc hx
  exact ⟨sl',e2⟩
 free:=fun c ob q n hx=>by
  obtain ⟨o',e1⟩:=a.there c ob q hx
  exact b.free c o' e1 (a.free c ob q n hx) hx
 there:=fun c ob q hx=>by
  obtain ⟨o',e1⟩:=a.there c ob q hx
  exact b.there c o' e1 hx
 tups:=fun c xs q=>b.tups c xs (a.tups c xs q)
 frzs:=fun c ob xs q=>b.frzs c ob xs (a.frzs c ob xs q)
 tbls:=fun c ps q=>by
  obtain ⟨m1,e1⟩:=a.tbls c ps q
  obtain ⟨m2,e2⟩:=b.tbls c _ e1
  exact ⟨m1++m2,by rw [e2,Array.append_assoc]⟩
theorem Un.kept (k:∀ b u,h.get? b=some u→h'.get? b=some u):Un fs ex H H h h':=
 ⟨fun b ob q _ _ _=>k b ob q,fun b ob q _ _ _=>⟨ob.slots,k b ob q⟩,fun _ _ _ n _=>n,fun b ob q _=>⟨ob,k b ob q⟩,fun _ _ q=>q,fun _ _ _ q=>q,fun _ ps q=>⟨#[],by rw [q]; simp⟩⟩
theorem Un.refl:Un fs ex H H h h:=Un.kept fun _ _ q=>q
theorem Un.laid (k:∀ b u,h.get? b=some u→h'.get? b=some u) (hp:h.objs.size≤a) (hn:H a=none):Un fs ex H (upd H a o) h h' where
 keep:=fun b u q _ _ _=>k b u q
 slot:=fun b u q _ _ _=>⟨u.slots,k b u q⟩
 free:=fun b u q n _=>by rw [zw (Nat.ne_of_lt (Nat.lt_of_lt_of_le (Heap.lt_size q) hp))]; exact n
 there:=fun b u q _=>⟨u,k b u q⟩
 tups:=fun b xs q=>by rw [zw (zS q hn)]; exact q
 frzs:=fun b u xs q=>by rw [zw (zS q hn)]; exact q
 tbls:=fun b ps q=>⟨#[],by rw [zw (zS q hn),q]; simp⟩
theorem Un.write (mu:Mut (H x)) (he:e=x∨H e=some (.own x)) (k:∀ b u,b≠e→h.get? b=some u→h'.get? b=some u) (heo:∃ u,h'.get? e=some u):Un fs ex H (upd H x o) h h':=by
 have hx:∀ b,H b=none→b≠x:=fun b n z=>by subst z; rw [n] at mu; exact mu
 have hb:∀ b,H b=none→b≠e:=fun b n z=>by
  subst z
  rcases he with r | r
  ·exact hx b n r
  ·rw [n] at r; cases r
 have hm:∀ b u,H b=some u→¬ Mut (some u)→b≠x:=fun b u q nm z=>by subst z; rw [q] at mu; exact nm mu
 refine ⟨fun b u q n _ _=>k b u (hb b n) q,fun b u q n _ _=>⟨u.slots,k b u (hb b n) q⟩,fun b u q n _=>by rw [zw (hx b n)]; exact n,fun b u q _=>?_,
  fun b xs q=>by rw [zw (hm b _ q fun z=>z)]; exact q,fun b u xs q=>by rw [zw (hm b _ q fun z=>z)]; exact q,fun b ps q=>⟨#[],by rw [zw (hm b _ q fun z=>z),q]; simp⟩⟩
 by_cases hbe:b=e
 ·subst hbe; exact heo
 ·exact ⟨u,k b u hbe q⟩
theorem Un.mono (u:Un fs ex H H1 h h1) (hs:∀ b∈fs,b∈fs') (hx:∀ b∈ex,b∈ex'):Un fs' ex' H H1 h h1:=
 ⟨fun b ob q n hb he=>u.keep b ob q n (fun z=>hb (hs b z)) fun z=>he (hx b z),fun _ _ q n _ he=>u.any q n fun z=>he (hx _ z),fun b ob q n he=>u.free b ob q n fun z=>he (hx b z),fun b ob q he=>u.there b ob q fun z=>he (hx b z),u.tups,u.frzs,u.tbls⟩
end
def trk (h:Heap) (H:Hp):List Addr:=(List.range h.objs.size).filter fun a=>(H a).isSome
def rX (h:Heap) (H:Hp):Heap:=PySem.W.hideAll h (trk h H)
theorem mK (h:Heap) (H:Hp):(rX h H).objs.size=h.objs.size:=PySem.W.hideAll_size _ _
theorem kE {h:Heap} {H:Hp} {b:Addr} {o:Obj} (e:h.get? b=some o) (n:H b=none):(rX h H).get? b=some o:=
 PySem.W.hideAll_get _ e fun hm=>by
  have q:(H b).isSome=true:=(List.mem_filter.mp hm).2
  rw [n] at q; simp at q
theorem ip {h:Heap} {H:Hp} {b:Addr} {o:Obj} (e:(rX h H).get? b=some o):h.get? b=some o∧H b=none:=by
 have e':h.get? b=some o:=PySem.W.of_hideAll (trk h H) e
 refine ⟨e',?_⟩
 cases q:H b with
 | none=>rfl
 | some x=>
  have hm:b∈trk h H:=List.mem_filter.mpr ⟨List.mem_range.mpr (Heap.lt_size e'),by simp [q]⟩
  have z:(rX h H).get? b=none:=PySem.W.hideAll_none (trk h H) hm
  rw [z] at e; cases e
def eI (g h:Heap) (L:Addr):List (Addr × Obj):=(List.range h.objs.size).filterMap fun a=>if a=L∨(g.get? a).isSome=true then none else (h.get? a).map fun o=>(a,o)
def zX (g h:Heap) (L d:Addr):List (Addr × Obj):=(eI g h L).filter fun p=>decide (p.1≠d)
end L2
namespace L2
open PySem PySem.Spec PyProof.Rows
structure Mod (K:PySem.W.Frag) (mg:Str→Option Value) (base:Heap):Prop where
 kin:K.In base
 glob:base.Ns mainGlobals mg
 blt:∃ mb,base.Ns builtinsNs mb∧∀ x:Str,x≠"__name__"→mb x=bootBuiltins x
 nolimit:base.NoLimit
structure Cx where
 prog:Program
 w:World
 K:PySem.W.Frag
 mg:Str→Option Value
 base:Heap
 A:Around
 N:List Str
 s₀:Shared
 H₀:Hp
 env:Env
 outer:List Env
 stack:List Env
 ex:List Addr
 fn:Str→Bool
 calm:Bool
 pn:List (Addr × Obj)
 xe:Value→Shared→Prop
def frs (l:List Env):List Addr:=l.filterMap (·.frame)
abbrev Cx.fs (X:Cx):List Addr:=frs X.outer
def Vis (sc:Scope) (x:Str):Prop:=sc.names.lookup x=some .local∨sc.names.lookup x=some .cell∨sc.names.lookup x=some .free
def Loc (sc:Scope) (x:Str):Prop:=sc.names.lookup x=some .local∨sc.names.lookup x=some .cell
def UA (env:Env) (h:Heap) (m:Str→Option Value) (x:Str) (u:Value):Prop:=
 (env.kindOf x=some .local∧m x=some u)∨((env.kindOf x=some .cell∨env.kindOf x=some .free)∧∃ c,env.cells.lookup x=some c∧h.IsCell c (some u))
structure Cx.Ok (X:Cx):Prop where
 mod:Mod X.K X.mg X.base
 kind:X.env.scope.kind=.function
 glob:X.env.globals=mainGlobals
 blt:X.env.builtins=builtinsNs
 above:X.s₀.heap.objs.size≤X.env.locals
 inj:∀ x y c,X.env.cells.lookup x=some c→X.env.cells.lookup y=some c→x=y
 has:∀ x,(X.env.kindOf x=some .cell∨X.env.kindOf x=some .free)→∃ c,X.env.cells.lookup x=some c
 cab:∀ x c,X.fn x=true→X.env.cells.lookup x=some c→X.s₀.heap.objs.size≤c
 hd:X.calm=true→X.A.handled=none
 frames:X.A.frames=some X.stack
 stk:X.stack=X.outer∨(X.stack=X.env::X.outer∧X.env.frame=some X.env.locals)
 exf:∀ b∈X.ex,b≠X.env.locals∧∀ x c,X.env.cells.lookup x=some c→c≠b
 bs:∀ b o,X.base.get? b=some o→X.s₀.heap.get? b=some o∧X.H₀ b=none
 bsz:X.base.objs.size≤X.s₀.heap.objs.size
 noex:∀ b o,X.base.get? b=some o→b∉X.ex
 exfs:∀ b∈X.ex,b∉X.fs
 funs:X.s₀.heap.FunFrames X.base X.outer
 frf:∀ b∈X.fs,X.H₀ b=none
structure Inv (X:Cx) (pins:List (Addr × Obj)) (σ:List (Option V)) (H:Hp) (s:Shared):Prop where
 ok:X.Ok
 os:s.os=X.s₀.os
 bare:AllBare s.gens
 base:Un X.fs X.ex X.H₀ H X.s₀.heap s.heap
 loc:∃ m,s.heap.Ns X.env.locals m∧∀ (i:Nat) (x:Str) (v:V),X.N[i]? = some x→σ[i]? = some (some v)→Vis X.env.scope x→∃ u,RelV v u∧UA X.env s.heap m x u
 cell:∀ x c,X.env.cells.lookup x=some c→∃ v,s.heap.IsCell c v
 free:H X.env.locals=none
 freeC:∀ x c,X.env.cells.lookup x=some c→H c=none
 pin:∀ p∈X.pn++pins,s.heap.get? p.1=some p.2∧H p.1=none∧p.1≠X.env.locals∧p.1∉X.fs∧∀ v,p.2.data≠.cell v
 hok:HOk X.prog X.w H s.heap
 len:σ.length=X.N.length
section
variable {X:Cx} {pins:List (Addr × Obj)} {σ:List (Option V)} {H H':Hp} {s:Shared} {h':Heap}
theorem Cx.Ok.nofr (ok:X.Ok) {b:Addr} {o:Obj} (e:X.base.get? b=some o):b∉X.fs:=fun hb=>by
 have:=(ok.funs.mem hb).1
 rw [e] at this; cases this
theorem Inv.bs (I:Inv X pins σ H s):∀ b o,X.base.get? b=some o→s.heap.get? b=some o∧H b=none:=fun b o e=>
 ⟨I.base.keep b o (I.ok.bs b o e).1 (I.ok.bs b o e).2 (I.ok.nofr e) (I.ok.noex b o e),I.base.free b o (I.ok.bs b o e).1 (I.ok.bs b o e).2 (I.ok.noex b o e)⟩
theorem Inv.bk (I:Inv X pins σ H s):∀ b o,X.base.get? b=some o→s.heap.get? b=some o:=fun b o e=>(I.bs b o e).1
theorem Inv.mod (I:Inv X pins σ H s):Mod X.K X.mg X.base:=I.ok.mod
theorem Inv.kIn (I:Inv X pins σ H s):X.K.In s.heap:=I.ok.mod.kin.keeps I.bk
theorem Inv.nolimit (I:Inv X pins σ H s):s.heap.NoLimit:=I.ok.mod.nolimit.keeps I.bk
theorem Inv.fr (I:Inv X pins σ H s):∃ m,Fr X.base X.env.locals s.heap m:=
 let ⟨m,hn,_⟩:=I.loc
 ⟨m,hn,I.bk,Nat.le_trans I.ok.bsz I.ok.above⟩
theorem Inv.lt (I:Inv X pins σ H s):X.env.locals<s.heap.objs.size:=let ⟨_,hn,_⟩:=I.loc; hn.lt
theorem Inv.sz (I:Inv X pins σ H s):X.s₀.heap.objs.size≤s.heap.objs.size:=Nat.le_trans I.ok.above (Nat.le_of_lt I.lt)
theorem Inv.nofs (I:Inv X pins σ H s) {a:Addr} (h:s.heap.objs.size≤a):a∉X.fs:=fun hb=>by
 obtain ⟨_,o,ho,_⟩:=I.ok.funs.mem hb
 exact absurd (Nat.lt_of_lt_of_le (Heap.lt_size ho) (Nat.le_trans I.sz h)) (Nat.lt_irrefl _)
theorem Inv.cne (I:Inv X pins σ H s):∀ x c,X.env.cells.lookup x=some c→c≠X.env.locals:=fun x c e z=>by
 obtain ⟨v,o,ho,hd⟩:=I.cell x c e
 obtain ⟨m,⟨o',es,ep,ho',hd',_⟩,_⟩:=I.loc
 rw [z,ho'] at ho; cases ho; rw [hd'] at hd; cases hd
theorem Inv.funs (I:Inv X pins σ H s):s.heap.FunFrames X.base X.outer:=by
 have all:∀ (l:List Env),(∀ b∈frs l,b∈X.fs)→X.s₀.heap.FunFrames X.base l→s.heap.FunFrames X.base l:=by
  intro l
  induction l with
  | nil=>intro _ _; trivial
  | cons env r ih=>
   intro hs hl
   obtain ⟨hk,⟨L,o,hf,hn,ho,hd⟩,hr⟩:=hl
   have hL:L∈X.fs:=hs L (by unfold frs; rw [List.filterMap_cons,hf]; exact List.mem_cons_self)
   obtain ⟨sl,e⟩:=I.base.slot L o ho (I.ok.frf L hL) hL fun z=>I.ok.exfs L z hL
   exact ⟨hk,⟨L,_,hf,hn,e,hd⟩,ih (fun b hb=>hs b (by unfold frs; rw [List.filterMap_cons,hf]; exact List.mem_cons_of_mem _ hb)) hr⟩
 exact all X.outer (fun _ hb=>hb) I.ok.funs
theorem Inv.stack (I:Inv X pins σ H s):s.heap.FunFrames X.base X.stack:=by
 rcases I.ok.stk with e | ⟨e,hf⟩
 ·rw [e]; exact I.funs
 ·rw [e]
  obtain ⟨m,hn,_⟩:=I.loc
  refine .cons (by rw [I.ok.kind]; decide) hf hn ?_ I.funs
  exact Heap.get?_none_of_le (Nat.le_trans I.ok.bsz I.ok.above)
theorem Inv.stkSub (I:Inv X pins σ H s):∀ b∈frs X.stack,b∈X.env.locals::X.fs:=fun b hb=>by
 rcases I.ok.stk with e | ⟨e,hf⟩
 ·rw [e] at hb; exact List.mem_cons_of_mem _ hb
 ·rw [e] at hb
  unfold frs at hb
  rw [List.filterMap_cons,hf] at hb
  exact hb
theorem Inv.stkFree (I:Inv X pins σ H s):∀ b∈frs X.stack,H b=none:=fun b hb=>by
 rcases List.mem_cons.mp (I.stkSub b hb) with e | hb
 ·rw [e]; exact I.free
 ·obtain ⟨_,o,ho,_⟩:=I.ok.funs.mem hb
  exact I.base.free b o ho (I.ok.frf b hb) fun z=>I.ok.exfs b z hb
theorem Inv.step {g':Array GenState} {t':Nat} {d':Drawn} {ch:List Addr} (I:Inv X pins σ H s)
  (hch:∀ b∈ch,(b∈X.ex∨X.s₀.heap.objs.size≤b)∧b≠X.env.locals∧(∀ x c,X.env.cells.lookup x=some c→c≠b)∧∀ p∈X.pn++pins,p.1≠b)
  (keep:∀ b o,b≠X.env.locals→b∉X.fs→b∉ch→s.heap.get? b=some o→H b=none→h'.get? b=some o)
  (slot:∀ b o,b≠X.env.locals→b∈X.fs→b∉ch→s.heap.get? b=some o→H b=none→∃ sl,h'.get? b=some { o with slots:=sl }) (free:∀ b o,b∉ch→s.heap.get? b=some o→H b=none→H' b=none)
  (there:∀ b o,b∉ch→s.heap.get? b=some o→∃ o',h'.get? b=some o')
  (tups:∀ b xs,H b=some (.tup xs)→H' b=some (.tup xs)) (frzs:∀ b o u,H b=some (.frz o u)→H' b=some (.frz o u)) (tbls:∀ b ps,H b=some (.tbl ps)→∃ more,H' b=some (.tbl (ps++more)))
  (ns:∀ m,s.heap.Ns X.env.locals m→h'.Ns X.env.locals m) (hok:HOk X.prog X.w H' h') (hg:AllBare g'):
  Inv X pins σ H' { s with heap:=h',gens:=g',drawn:=d',toks:=t' }:=by
 have neL:∀ b o,X.s₀.heap.get? b=some o→b≠X.env.locals:=fun b o e=>Nat.ne_of_lt (Nat.lt_of_lt_of_le (Heap.lt_size e) I.ok.above)
 have neC:∀ b o,X.s₀.heap.get? b=some o→b∉X.ex→b∉ch:=fun b o e hx hb=>by
  rcases (hch b hb).1 with z | z
  ·exact hx z
  ·exact absurd (Nat.lt_of_lt_of_le (Heap.lt_size e) z) (Nat.lt_irrefl _)
 have cellK:∀ x c,X.env.cells.lookup x=some c→∀ v,s.heap.IsCell c v→h'.IsCell c v:=fun x c e v ⟨o,ho,hd⟩=>by
  have nch:c∉ch:=fun z=>(hch c z).2.2.1 x c e rfl
  by_cases hc:c∈X.fs
  ·obtain ⟨sl,q⟩:=slot c o (I.cne x c e) hc nch ho (I.freeC x c e)
   exact ⟨_,q,hd⟩
  ·exact ⟨o,keep c o (I.cne x c e) hc nch ho (I.freeC x c e),hd⟩
 refine ⟨I.ok,I.os,hg,⟨fun b o e n hb hx=>?_,fun b o e n hb hx=>?_,fun b o e n hx=>?_,fun b o e hx=>?_,fun b xs e=>tups b xs (I.base.tups b xs e),fun b o xs e=>frzs b o xs (I.base.frzs b o xs e),fun b ps e=>?_⟩,?_,fun x c e=>?_,?_,fun x c e=>?_,fun p hp=>?_,hok,I.len⟩
 ·exact keep b o (neL b o e) hb (neC b o e hx) (I.base.keep b o e n hb hx) (I.base.free b o e n hx)
 ·obtain ⟨sl,e1⟩:=I.base.slot b o e n hb hx
  obtain ⟨sl',e2⟩:=slot b _ (neL b o e) hb (neC b o e hx) e1 (I.base.free b o e n hx)
  exact ⟨sl',e2⟩
 ·obtain ⟨o',e1⟩:=I.base.there b o e hx
  exact free b o' (neC b o e hx) e1 (I.base.free b o e n hx)
 ·obtain ⟨o',e1⟩:=I.base.there b o e hx
  exact there b o' (neC b o e hx) e1
 ·obtain ⟨m1,e1⟩:=I.base.tbls b ps e
  obtain ⟨m2,e2⟩:=tbls b _ e1
  exact ⟨m1++m2,by rw [e2,Array.append_assoc]⟩
 ·obtain ⟨m,hn,hl⟩:=I.loc
  refine ⟨m,ns m hn,fun i x v e1 e2 e3=>?_⟩
  obtain ⟨u,r,l⟩:=hl i x v e1 e2 e3
  refine ⟨u,r,?_⟩
  rcases l with l | ⟨k,c,e,z⟩
  ·exact .inl l
  ·exact .inr ⟨k,c,e,cellK x c e _ z⟩
 ·obtain ⟨v,z⟩:=I.cell x c e
  exact ⟨v,cellK x c e v z⟩
 ·obtain ⟨m,⟨o,_,_,ho,_⟩,_⟩:=I.loc
  exact free _ o (fun z=>(hch _ z).2.1 rfl) ho I.free
 ·obtain ⟨v,o,ho,hd⟩:=I.cell x c e
  exact free c o (fun z=>(hch c z).2.2.1 x c e rfl) ho (I.freeC x c e)
 ·obtain ⟨e,n,ne,nf,d⟩:=I.pin p hp
  have nch:p.1∉ch:=fun z=>(hch p.1 z).2.2.2 p hp rfl
  exact ⟨keep p.1 p.2 ne nf nch e n,free p.1 p.2 nch e n,ne,nf,d⟩
theorem Inv.un {t':Nat} (I:Inv X pins σ H s) (u:Un X.fs [] H H' s.heap h') (hok:HOk X.prog X.w H' h'):Inv X pins σ H' { s with heap:=h',toks:=t' }:=by
 obtain ⟨m,⟨o,es,ep,ho,r⟩,_⟩:=id I.loc
 obtain ⟨sl,hL⟩:=u.any ho I.free (by simp)
 exact I.step (g':=s.gens) (d':=s.drawn) (ch:=[]) (fun _ z=>nomatch z) (fun b o _ hb _ e n=>u.keep b o e n hb (by simp)) (fun b o _ hb _ e n=>u.slot b o e n hb (by simp)) (fun b o _ e n=>u.free b o e n (by simp)) (fun b o _ e=>u.there b o e (by simp)) u.tups u.frzs u.tbls (fun m' hm=>by
  obtain ⟨o',es',ep',ho',r'⟩:=hm
  rw [ho] at ho'; cases ho'
  exact ⟨_,es',ep',hL,r'⟩) hok I.bare
theorem Inv.call {g':Array GenState} {t':Nat} {d':Drawn} {ch:List Addr} (I:Inv X pins σ H s) (u:Un (frs X.stack) ch H H' s.heap h') (hok:HOk X.prog X.w H' h') (hg:AllBare g')
  (hch:∀ b∈ch,(b∈X.ex∨X.s₀.heap.objs.size≤b)∧b≠X.env.locals∧(∀ x c,X.env.cells.lookup x=some c→c≠b)∧∀ p∈X.pn++pins,p.1≠b):
  Inv X pins σ H' { s with heap:=h',gens:=g',drawn:=d',toks:=t' }:=by
 obtain ⟨m,⟨o,es,ep,ho,r⟩,_⟩:=id I.loc
 obtain ⟨sl,hL⟩:=u.any ho I.free fun z=>(hch _ z).2.1 rfl
 exact I.step (ch:=ch) hch (fun b o hL hb hc e n=>u.keep b o e n (fun z=>(List.mem_cons.mp (I.stkSub b z)).elim hL hb) hc) (fun b o _ _ hc e n=>u.any e n hc) (fun b o hc e n=>u.free b o e n hc) (fun b o hc e=>u.there b o e hc) u.tups u.frzs u.tbls (fun m' hm=>by
  obtain ⟨o',es',ep',ho',r'⟩:=hm
  rw [ho] at ho'; cases ho'
  exact ⟨_,es',ep',hL,r'⟩) hok hg
theorem Inv.turned {t':Nat} {it:Addr} (I:Inv X pins σ H s) (k:∀ b o,b≠it→s.heap.get? b=some o→h'.get? b=some o) (hn:H it=none) (hL:it≠X.env.locals)
  (h1:it∈X.ex∨X.s₀.heap.objs.size≤it) (h2:∀ x c,X.env.cells.lookup x=some c→c≠it) (h3:∀ p∈X.pn++pins,p.1≠it):Inv X pins σ H { s with heap:=h',toks:=t' }:=by
 have nit:∀ b u,H b=some u→b≠it:=fun b u e z=>by rw [z,hn] at e; cases e
 refine I.step (g':=s.gens) (d':=s.drawn) (ch:=[it]) (fun b hb=>?_) (fun b o _ _ hc e _=>k b o (fun z=>hc (by simp [z])) e) (fun b o _ _ hc e _=>⟨o.slots,k b o (fun z=>hc (by simp [z])) e⟩) (fun _ _ _ _ n=>n)
  (fun b o hc e=>⟨o,k b o (fun z=>hc (by simp [z])) e⟩) (fun _ _ e=>e) (fun _ _ _ e=>e) (fun b ps e=>⟨#[],by rw [e]; simp⟩) (fun m hm=>?_) (fun b u e=>?_) I.bare
 ·have e:b=it:=by simpa using hb
  subst e
  exact ⟨h1,hL,h2,h3⟩
 ·obtain ⟨o,es,ep,ho,r⟩:=hm
  exact ⟨o,es,ep,k _ o (Ne.symm hL) ho,r⟩
 ·refine (I.hok b u e).stay (fun c v hc q=>k c v ?_ q) (fun _ q=>q) fun _ _ q=>q
  rcases hc with z | z
  ·rw [z]; exact nit b u e
  ·exact nit c _ z
theorem Inv.tok (I:Inv X pins σ H s) (t:Nat):Inv X pins σ H { s with toks:=t }:=I.un (h':=s.heap) (t':=t) Un.refl I.hok
theorem Inv.kept {t':Nat} (I:Inv X pins σ H s) (k:∀ b u,s.heap.get? b=some u→h'.get? b=some u):Inv X pins σ H { s with heap:=h',toks:=t' }:=I.un (Un.kept k) (I.hok.kept k)
theorem Inv.laid {a:Addr} {o:HO} {t':Nat} (I:Inv X pins σ H s) (k:∀ b u,s.heap.get? b=some u→h'.get? b=some u) (hp:s.heap.objs.size≤a) (new:ObjOk X.prog X.w (upd H a o) h' a o):
  Inv X pins σ (upd H a o) { s with heap:=h',toks:=t' }:=I.un (Un.laid k hp (I.hok.fresh hp)) (I.hok.laid k hp new)
theorem Inv.write {x e:Addr} {o:HO} {t':Nat} (I:Inv X pins σ H s) (mu:Mut (H x)) (he:e=x∨H e=some (.own x)) (k:∀ b u,b≠e→s.heap.get? b=some u→h'.get? b=some u) (heo:∃ u,h'.get? e=some u)
  (new:ObjOk X.prog X.w (upd H x o) h' x o):Inv X pins σ (upd H x o) { s with heap:=h',toks:=t' }:=I.un (Un.write mu he k heo) (I.hok.write mu he k heo new)
theorem Inv.weak {σ':List (Option V)} (I:Inv X pins σ H s) (hl:σ'.length=σ.length) (w:∀ (i:Nat) v,σ'[i]? = some (some v)→σ[i]? = some (some v)):Inv X pins σ' H s:=
 ⟨I.ok,I.os,I.bare,I.base,let ⟨m,hn,hl'⟩:=I.loc; ⟨m,hn,fun i x v e1 e2 e3=>hl' i x v e1 (w i v e2) e3⟩,I.cell,I.free,I.freeC,I.pin,I.hok,hl.trans I.len⟩
theorem Inv.pins_of {pins':List (Addr × Obj)} (I:Inv X pins σ H s) (h:∀ p∈pins',s.heap.get? p.1=some p.2∧H p.1=none∧p.1≠X.env.locals∧p.1∉X.fs∧∀ v,p.2.data≠.cell v):Inv X pins' σ H s:=
 ⟨I.ok,I.os,I.bare,I.base,I.loc,I.cell,I.free,I.freeC,fun p hp=>(List.mem_append.mp hp).elim (fun z=>I.pin p (List.mem_append_left _ z)) (h p),I.hok,I.len⟩
theorem qQ {N:List Str} (hN:N.Nodup) {i j:Nat} {x:Str} (a:N[i]? = some x) (b:N[j]? = some x):i=j:=by
 obtain ⟨h1,e1⟩:=List.getElem?_eq_some_iff.mp a
 obtain ⟨h2,e2⟩:=List.getElem?_eq_some_iff.mp b
 exact (List.getElem_inj hN).mp (e1.trans e2.symm)
theorem n_ {M:Model} {A:Around} {E:Value→Shared→Prop} {i:Nat} {x:Str} {v:V} {u:Value} {Q:Unit→Shared→Prop} (I:Inv X pins σ H s) (hN:X.N.Nodup) (hi:X.N[i]? = some x) (hx:Loc X.env.scope x) (r:RelV v u)
  (h:∀ s',Inv X pins (σ.set i (some v)) H s'→(∃ a,Heap.SameBut a s.heap s'.heap∧(a=X.env.locals∨X.env.cells.lookup x=some a))→Q () s') (hf:X.fn x=true∨X.env.scope.names.lookup x=some .local:=by first | exact .inl rfl | exact .inr rfl | assumption):wpAny M A (storeName X.env x u) Q E s:=by
 obtain ⟨m,hn,hl⟩:=id I.loc
 have hcls:(X.env.scope.kind == .class || (X.env.scope.kind == .module && X.env.locals != X.env.globals))=false:=by rw [I.ok.kind]; rfl
 have hiσ:i<σ.length:=by rw [I.len]; exact (List.getElem?_eq_some_iff.mp hi).1
 have cne:=I.cne
 have tracked:∀ {a:Addr} {h':Heap},(∃ o,s.heap.get? a=some o∧H a=none)→Heap.SameBut a s.heap h'→HOk X.prog X.w H h':=fun {a h'} ha hs b ob e=>by
  obtain ⟨_,_,hfree⟩:=ha
  refine (I.hok b ob e).stay (fun c w' hc q=>(hs.2 c ?_).trans q) (fun _ q=>q) fun _ _ q=>q
  rintro rfl
  rcases hc with rfl | hc
  ·rw [hfree] at e; cases e
  ·rw [hfree] at hc; cases hc
 rcases hx with hk | hk
 ·refine wpAny_storeName_local hk hn (fun h' hn' hs=>?_) hcls
  obtain ⟨oL,_,_,hoL,_⟩:=id hn
  refine h _ ⟨I.ok,I.os,I.bare,⟨fun b o e n hb hx=>?_,fun b o e n hb hx=>?_,I.base.free,fun b o e hx=>?_,I.base.tups,I.base.frzs,I.base.tbls⟩,⟨_,hn',fun j y v' e1 e2 e3=>?_⟩,fun y c e=>?_,I.free,I.freeC,fun p hp=>?_,tracked ⟨oL,hoL,I.free⟩ hs,by simpa using I.len⟩ ⟨_,hs,.inl rfl⟩
  ·exact (hs.2 b (Nat.ne_of_lt (Nat.lt_of_lt_of_le (Heap.lt_size e) I.ok.above))).trans (I.base.keep b o e n hb hx)
  ·obtain ⟨sl,e1⟩:=I.base.slot b o e n hb hx
   exact ⟨sl,(hs.2 b (Nat.ne_of_lt (Nat.lt_of_lt_of_le (Heap.lt_size e) I.ok.above))).trans e1⟩
  ·obtain ⟨o',e1⟩:=I.base.there b o e hx
   exact ⟨o',(hs.2 b (Nat.ne_of_lt (Nat.lt_of_lt_of_le (Heap.lt_size e) I.ok.above))).trans e1⟩
  ·by_cases hj:j=i
   ·subst hj
    rw [hi] at e1; cases e1
    rw [List.getElem?_set_self hiσ] at e2
    cases e2
    exact ⟨u,r,.inl ⟨hk,by simp⟩⟩
   ·rw [List.getElem?_set_ne (Ne.symm hj)] at e2
    obtain ⟨u',r',q⟩:=hl j y v' e1 e2 e3
    refine ⟨u',r',?_⟩
    rcases q with ⟨k,e⟩ | ⟨k,c,e,z⟩
    ·refine .inl ⟨k,?_⟩
     have:y≠x:=fun e=>hj (qQ hN e1 (e ▸ hi))
     simp [this,e]
    ·exact .inr ⟨k,c,e,z.sameBut hs (cne y c e)⟩
  ·obtain ⟨w',z⟩:=I.cell y c e
   exact ⟨w',z.sameBut hs (cne y c e)⟩
  ·obtain ⟨e,n,ne,nf,d⟩:=I.pin p hp
   exact ⟨(hs.2 p.1 ne).trans e,n,ne,nf,d⟩
 ·have hfn:X.fn x=true:=by
   rcases hf with z | z
   ·exact z
   ·rw [z] at hk; cases hk
  obtain ⟨c,hc⟩:=I.ok.has x (.inl hk)
  obtain ⟨w',z⟩:=I.cell x c hc
  refine wpAny_storeName_cell I.ok.kind hk hc z (fun h' hc' hs=>?_)
  obtain ⟨oc,hoc,hocd⟩:=id z
  refine h { s with heap:=h' } ⟨I.ok,I.os,I.bare,⟨fun b o e n hb hx=>?_,fun b o e n hb hx=>?_,I.base.free,fun b o e hx=>?_,I.base.tups,I.base.frzs,I.base.tbls⟩,⟨m,hn.sameBut hs (Ne.symm (cne x c hc)),fun j y v' e1 e2 e3=>?_⟩,fun y c' e=>?_,I.free,I.freeC,fun p hp=>?_,tracked ⟨oc,hoc,I.freeC x c hc⟩ hs,by simpa using I.len⟩ ⟨c,hs,.inr hc⟩
  ·exact (hs.2 b (Nat.ne_of_lt (Nat.lt_of_lt_of_le (Heap.lt_size e) (I.ok.cab x c hfn hc)))).trans (I.base.keep b o e n hb hx)
  ·obtain ⟨sl,e1⟩:=I.base.slot b o e n hb hx
   exact ⟨sl,(hs.2 b (Nat.ne_of_lt (Nat.lt_of_lt_of_le (Heap.lt_size e) (I.ok.cab x c hfn hc)))).trans e1⟩
  ·obtain ⟨o',e1⟩:=I.base.there b o e hx
   exact ⟨o',(hs.2 b (Nat.ne_of_lt (Nat.lt_of_lt_of_le (Heap.lt_size e) (I.ok.cab x c hfn hc)))).trans e1⟩
  ·by_cases hj:j=i
   ·subst hj
    rw [hi] at e1; cases e1
    rw [List.getElem?_set_self hiσ] at e2
    cases e2
    exact ⟨u,r,.inr ⟨.inl hk,c,hc,hc'⟩⟩
   ·rw [List.getElem?_set_ne (Ne.symm hj)] at e2
    obtain ⟨u',r',q⟩:=hl j y v' e1 e2 e3
    refine ⟨u',r',?_⟩
    rcases q with q | ⟨k,c',e,z'⟩
    ·exact .inl q
    ·refine .inr ⟨k,c',e,z'.sameBut hs ?_⟩
     rintro rfl
     exact hj (qQ hN e1 (I.ok.inj _ _ _ e hc ▸ hi))
  ·by_cases hcc:c'=c
   ·subst hcc; exact ⟨_,hc'⟩
   ·obtain ⟨w2,z2⟩:=I.cell y c' e
    exact ⟨w2,z2.sameBut hs hcc⟩
  ·obtain ⟨e,n,ne,nf,d⟩:=I.pin p hp
   refine ⟨(hs.2 p.1 ?_).trans e,n,ne,nf,d⟩
   intro q
   rw [q,hoc] at e
   have q':oc=p.2:=Option.some.inj e
   exact d w' (by rw [← q']; exact hocd)
theorem uT {M:Model} {A:Around} {E:Value→Shared→Prop} {i:Nat} {x:Str} {v:V} {u:Value} {Q:Unit→Shared→Prop} (I:Inv X pins σ H s) (hN:X.N.Nodup) (hi:X.N[i]? = some x) (hx:Loc X.env.scope x) (r:RelV v u)
  (h:∀ s',Inv X pins (σ.set i (some v)) H s'→Q () s') (hf:X.fn x=true∨X.env.scope.names.lookup x=some .local:=by first | exact .inl rfl | exact .inr rfl | assumption):wpAny M A (storeName X.env x u) Q E s:=
 n_ I hN hi hx r (fun s' I' _=>h s' I') hf
end
abbrev XK:=Value→Option Addr→Hp→Prop
abbrev St:=List (Option V)
abbrev VK:=V→Hp→Prop
abbrev TE:=St→Hp→VK→Prop
abbrev TT:=St→Hp→(Bool→Hp→Prop)→Prop
abbrev TA:=St→Hp→(List V→Hp→Prop)→Prop
structure Ends where
 nx:St→Hp→Prop
 rt:VK
 bk:St→Hp→Prop:=fun _ _=>False
 ct:St→Hp→Prop:=fun _ _=>False
abbrev TS:=Ends→St→Hp→Prop
def EP (X:Cx) (pins:List (Addr × Obj)) (σ:St) (Q:VK) (u:Value) (s':Shared):Prop:=∃ v H',Inv X pins σ H' s'∧RelV v u∧Q v H'
def TP (X:Cx) (pins:List (Addr × Obj)) (σ:St) (Q:Bool→Hp→Prop) (b:Bool) (s':Shared):Prop:=∃ H',Inv X pins σ H' s'∧Q b H'
def AP (X:Cx) (pins:List (Addr × Obj)) (σ:St) (Q:List V→Hp→Prop) (us:List Value) (s':Shared):Prop:=∃ vs H',Inv X pins σ H' s'∧Vals vs us∧Q vs H'
def SP (X:Cx) (pins:List (Addr × Obj)) (D:Ends) (f:Flow) (s':Shared):Prop:=
 match f with
 | .next=>∃ σ' H',Inv X pins σ' H' s'∧D.nx σ' H'
 | .brk=>∃ σ' H',Inv X pins σ' H' s'∧D.bk σ' H'
 | .cont=>∃ σ' H',Inv X pins σ' H' s'∧D.ct σ' H'
 | .ret u=>∃ v σ' H',Inv X pins σ' H' s'∧RelV v u∧D.rt v H'
def PE (X:Cx) (e:Expr) (t:TE):Prop:=
 ∀ (pins:List (Addr × Obj)) (s:Shared) (σ:St) (H:Hp) (Q:VK),Inv X pins σ H s→t σ H Q→wpAny (model X.prog X.w) X.A (eval e X.env) (EP X pins σ Q) X.xe s
def PT (X:Cx) (e:Expr) (t:TT):Prop:=
 ∀ (pins:List (Addr × Obj)) (s:Shared) (σ:St) (H:Hp) (Q:Bool→Hp→Prop),Inv X pins σ H s→t σ H Q→wpAny (model X.prog X.w) X.A (isTrue e X.env (eval e X.env)) (TP X pins σ Q) X.xe s
def PW (X:Cx) (e:Expr) (t:TT):Prop:=
 ∀ (yA:Sem Value) (pins:List (Addr × Obj)) (s:Shared) (σ:St) (H:Hp) (Q:Bool→Hp→Prop),Inv X pins σ H s→t σ H Q→wpAny (model X.prog X.w) X.A (isTrue e X.env yA) (TP X pins σ Q) X.xe s
theorem PW.pt {X:Cx} {e:Expr} {t:TT} (h:PW X e t):PT X e t:=h _
def PA (X:Cx) (es:List Expr) (t:TA):Prop:=
 ∀ (pos:Pos) (pins:List (Addr × Obj)) (s:Shared) (σ:St) (H:Hp) (Q:List V→Hp→Prop),Inv X pins σ H s→t σ H Q→wpAny (model X.prog X.w) X.A (spliced (backTo pos (starEach es X.env))) (AP X pins σ Q) X.xe s
def PS (X:Cx) (st:Stmt) (t:TS):Prop:=
 ∀ (pins:List (Addr × Obj)) (s:Shared) (σ:St) (H:Hp) (D:Ends),Inv X pins σ H s→t D σ H→wpAny (model X.prog X.w) X.A (exec st X.env) (SP X pins D) X.xe s
def PSs (X:Cx) (st:List Stmt) (t:TS):Prop:=
 ∀ (pins:List (Addr × Obj)) (s:Shared) (σ:St) (H:Hp) (D:Ends),Inv X pins σ H s→t D σ H→wpAny (model X.prog X.w) X.A (execs st X.env) (SP X pins D) X.xe s
theorem thn {α:Type} {t:Sem α} {Q Q':α→Shared→Prop} {M:Model} {A:Around} {E:Value→Shared→Prop} {s:Shared} (h:wpAny M A t Q E s) (hQ:∀ a s,Q a s→Q' a s):wpAny M A t Q' E s:=wpAny_mono h hQ fun _ _ x=>x
end L2
namespace L2
open PySem PySem.Spec PyProof.Rows
section
variable {X:Cx}
theorem bin {a b:Expr} {ta tb:TE} (ha:PE X a ta) (hb:PE X b tb) {pins:List (Addr × Obj)} {s:Shared} {σ:St} {H:Hp} {R:V→V→Hp→Prop} (I:Inv X pins σ H s) (h:ta σ H fun x H1=>tb σ H1 fun y H2=>R x y H2)
  {α:Type} {Q:α→Shared→Prop} {f:Value→Value→Sem α}
  (hf:∀ v u s2 x y H2,Inv X pins σ H2 s2→RelV x v→RelV y u→R x y H2→wpAny (model X.prog X.w) X.A (f v u) Q X.xe s2):
  wpAny (model X.prog X.w) X.A (eval a X.env) (fun v s₁=>wpAny (model X.prog X.w) X.A (eval b X.env) (fun u s₂=>wpAny (model X.prog X.w) X.A (f v u) Q X.xe s₂) X.xe s₁) X.xe s:=by
 refine thn (ha pins s σ H _ I h) fun v s1 ⟨x,H1,I1,r1,q1⟩=>?_
 refine thn (hb pins s1 σ H1 _ I1 q1) fun u s2 ⟨y,H2,I2,r2,q2⟩=>?_
 exact hf v u s2 x y H2 I2 r1 r2 q2
def jO (i:Nat):TE:=fun σ H Q=>∃ v,σ[i]? = some (some v)∧Q v H
def tC (v:V):TE:=fun _ H Q=>Q v H
theorem z8 {i:Nat} {x:Str} {pos:Pos} (hN:X.N[i]? = some x) (hv:Vis X.env.scope x) (hd:(x == ("__debug__":Str))=false:=by decide) (hcd:(x == ("__classdict__":Str))=false:=by decide):PE X (.Name x pos) (jO i):=by
 intro pins s σ H Q I h
 obtain ⟨v,e,h⟩:=h
 obtain ⟨m,hn,hl⟩:=I.loc
 obtain ⟨u,r,l⟩:=hl i x v hN e hv
 have fin:EP X pins σ Q u s:=⟨v,H,I,r,h⟩
 rcases l with ⟨hk,hm⟩ | ⟨hk,c,hc,hcell⟩
 ·exact wpAny_Name (wpAny_loadName_local I.ok.kind hk hn hm fin) hd
 ·rcases hk with hk | hk
  ·exact wpAny_Name (wpAny_loadName_cell I.ok.kind hk hc hcell fin) hd
  ·exact wpAny_Name (wpAny_loadName_free I.ok.kind hk hc hcell fin hcd) hd
theorem og {i j pos}:PE X (.Constant (.int i) j pos) (tC (.int i)):=fun _ _ _ H _ I h=>wpAny_Constant_int ⟨.int i,H,I.tok _,⟨_,rfl⟩,h⟩
theorem Xk {b j pos}:PE X (.Constant (.bool b) j pos) (tC (.bl b)):=fun _ _ _ H _ I h=>Constant_bool ⟨.bl b,H,I,rfl,h⟩
theorem ce {j pos}:PE X (.Constant .none j pos) (tC .non):=fun _ _ _ H _ I h=>Constant_none ⟨.non,H,I,rfl,h⟩
theorem ca {x j pos}:PE X (.Constant (.str x) j pos) (tC (.str x)):=fun _ _ _ H _ I h=>Calls.Constant_str ⟨.str x,H,I.tok _,⟨_,rfl⟩,h⟩
def Gl (X:Cx) (x:Str):Prop:=X.env.kindOf x=some .globalImplicit
theorem uG {E:Value→Shared→Prop} {pins:List (Addr × Obj)} {s:Shared} {σ:St} {H:Hp} {x:Str} {u:Value} {pos:Pos} {Q:Value→Shared→Prop} (I:Inv X pins σ H s) (hg:Gl X x) (hm:X.mg x=some u) (h:Q u s)
  (hd:(x == ("__debug__":Str))=false:=by decide):wpAny (model X.prog X.w) X.A (eval (.Name x pos) X.env) Q E s:=
 Calls.Name_function_global I.ok.kind hg (Calls.loadGlobal_global (by rw [I.ok.glob]; exact I.mod.glob.keeps I.bk) hm h) hd
theorem wr {E:Value→Shared→Prop} {pins:List (Addr × Obj)} {s:Shared} {σ:St} {H:Hp} {x:Str} {u:Value} {pos:Pos} {Q:Value→Shared→Prop} (I:Inv X pins σ H s) (hg:Gl X x) (hm:X.mg x=none) (hv:bootBuiltins x=some u) (h:Q u s)
  (hn:x≠"__name__":=by decide) (hd:(x == ("__debug__":Str))=false:=by decide):wpAny (model X.prog X.w) X.A (eval (.Name x pos) X.env) Q E s:=by
 obtain ⟨mb,h1,h2⟩:=I.mod.blt
 exact Calls.Name_function_global I.ok.kind hg (Calls.loadGlobal_builtin (by rw [I.ok.glob]; exact I.mod.glob.keeps I.bk) hm (by rw [I.ok.blt]; exact h1.keeps I.bk) ((h2 x hn).trans hv) h) hd
theorem j9 {x:Str} {v:V} {u:Value} {pos:Pos} (hg:Gl X x) (hm:X.mg x=some u) (r:RelV v u) (hd:(x == ("__debug__":Str))=false:=by decide):PE X (.Name x pos) (tC v):=
 fun _ _ _ H _ I h=>uG I hg hm ⟨v,H,I,r,h⟩ hd
theorem ii {x:Str} {v:V} {u:Value} {pos:Pos} (hg:Gl X x) (hm:X.mg x=none) (hv:bootBuiltins x=some u) (r:RelV v u) (hn:x≠"__name__":=by decide) (hd:(x == ("__debug__":Str))=false:=by decide):PE X (.Name x pos) (tC v):=
 fun _ _ _ H _ I h=>wr I hg hm hv ⟨v,H,I,r,h⟩ hn hd
variable {a b:Expr} {ta tb:TE} {pos:Pos}
def PC (X:Cx) (op:CmpOp) (a b:Expr) (t:TE):Prop:=
 ∀ (pins:List (Addr × Obj)) (s:Shared) (σ:St) (H:Hp) (Q:VK),Inv X pins σ H s→t σ H Q→
  wpAny (model X.prog X.w) X.A (eval a X.env) (fun v s₁=>wpAny (model X.prog X.w) X.A (eval b X.env) (fun u s₂=>wpAny (model X.prog X.w) X.A (compareOp op v u) (EP X pins σ Q) X.xe s₂) X.xe s₁) X.xe s
theorem kr (b:Expr) {op:CmpOp} (h:op≠.In) (h2:op≠.NotIn):behindInMarks op b=false:=by
 have e1:(op == CmpOp.In)=false:=by cases op <;> first | rfl | exact absurd rfl h
 have e2:(op == CmpOp.NotIn)=false:=by cases op <;> first | rfl | exact absurd rfl h2
 cases b <;> simp [behindInMarks,e1,e2]
def Y5 (ta:TE):TE:=fun σ H Q=>ta σ H fun x H1=>Q (.bl (decide (x=.non))) H1
theorem RelV.none_iff {x:V} {v:Value} (r:RelV x v):(v == Value.none)=decide (x=.non):=by
 cases x with
 | non=>cases r; rfl
 | bl _=>cases r; rfl
 | int _=>obtain ⟨t,rfl⟩:=r; rfl
 | str _=>obtain ⟨t,rfl⟩:=r; rfl
 | byt _=>obtain ⟨t,rfl⟩:=r; rfl
 | flt _=>obtain ⟨t,rfl⟩:=r; rfl
 | ref _=>cases r; rfl
 | ty _=>cases r; rfl
theorem ci {j pos'} (ha:PE X a ta):PC X .Is a (.Constant .none j pos') (Y5 ta):=by
 intro pins s σ H Q I h
 refine thn (ha pins s σ H _ I h) fun v s1 ⟨x,H1,I1,r1,q1⟩=>?_
 exact Constant_none (is_none_gen ⟨.bl _,H1,I1,by rw [r1.none_iff]; rfl,q1⟩)
def tB (t:TE):TT:=fun σ H Q=>t σ H fun x H1=>∃ c,x=.bl c∧Q c H1
theorem dZ {op:CmpOp} {t:TE} (h:PC X op a b t) (h1:behindInMarks op b=false:=by first | exact kr _ (by decide) (by decide) | rfl):PT X (.Compare a [op] [b] pos) (tB t):=by
 intro pins s σ H Q I hw
 refine wpAny_isTrue_Compare1 (thn (h pins s σ H _ I hw) fun v s1 h1=>thn h1 fun u s2 h2=>thn h2 fun c s3 ⟨x,H1,I1,r1,q1⟩=>?_) h1
 obtain ⟨d,rfl,q⟩:=q1
 cases r1
 exact wpAny_truthy_bool ⟨H1,I1,q⟩
theorem dX {e:Expr} {t:TE} (h:PE X e t) (he:∀ yA,isTrue e X.env yA=(do let v ← yA; standAt e.pos; holding [v] (truthy v)):=by intro _; rfl):PT X e (tB t):=by
 intro pins s σ H Q I hw
 refine isTrue_plain (thn (h pins s σ H _ I hw) fun v s1 ⟨x,H1,I1,r1,q1⟩=>?_) (he _)
 obtain ⟨d,rfl,q⟩:=q1
 cases r1
 exact wpAny_truthy_bool ⟨H1,I1,q⟩
variable {tA tB':TT} {zX:List Expr}
def VJ (t u:TT):TT:=fun σ H Q=>t σ H fun c H1=>if c=true then u σ H1 Q else Q false H1
def tOr (t u:TT):TT:=fun σ H Q=>t σ H fun c H1=>if c=true then Q true H1 else u σ H1 Q
def VC (t:TT):TT:=fun σ H Q=>t σ H fun c H1=>Q (!c) H1
theorem jY (ha:PT X a tA):PW X (.BoolOp .And [a] pos) tA:=by
 intro wh pins s σ H Q I h
 refine isTrue_and (thn (ha pins s σ H Q I h) fun c s1 e=>?_)
 cases c with
 | true=>exact isTrue_and_nil e
 | false=>exact e
theorem dU (ha:PT X a tA):PW X (.BoolOp .Or [a] pos) tA:=by
 intro wh pins s σ H Q I h
 refine isTrue_or (thn (ha pins s σ H Q I h) fun c s1 e=>?_)
 cases c with
 | false=>exact isTrue_or_nil e
 | true=>exact e
theorem dW (ha:PT X a tA) (hb:PW X (.BoolOp .And (b::zX) pos) tB'):PW X (.BoolOp .And (a::b::zX) pos) (VJ tA tB'):=by
 intro wh pins s σ H Q I h
 refine isTrue_and (thn (ha pins s σ H _ I h) fun c s1 ⟨H1,I1,q1⟩=>?_)
 cases c with
 | true=>exact hb wh pins s1 σ H1 Q I1 q1
 | false=>exact ⟨H1,I1,q1⟩
theorem Xh (ha:PT X a tA) (hb:PW X (.BoolOp .Or (b::zX) pos) tB'):PW X (.BoolOp .Or (a::b::zX) pos) (tOr tA tB'):=by
 intro wh pins s σ H Q I h
 refine isTrue_or (thn (ha pins s σ H _ I h) fun c s1 ⟨H1,I1,q1⟩=>?_)
 cases c with
 | true=>exact ⟨H1,I1,q1⟩
 | false=>exact hb wh pins s1 σ H1 Q I1 q1
theorem dY (ha:PT X a tA):PT X (.UnaryOp .Not a pos) (VC tA):=by
 intro pins s σ H Q I h
 exact isTrue_not (ha pins s σ H (fun c H1=>Q (!c) H1) I h)
def Xb (ta tb:TE):TE:=fun σ H Q=>ta σ H fun x H1=>∃ c,x=.bl c∧if c=true then tb σ H1 Q else Q (.bl false) H1
def VB (ta tb:TE):TE:=fun σ H Q=>ta σ H fun x H1=>∃ c,x=.bl c∧if c=true then Q (.bl true) H1 else tb σ H1 Q
def YX (ta:TE):TE:=fun σ H Q=>ta σ H fun x H1=>∃ c,x=.bl c∧Q (.bl (!c)) H1
theorem cb {op} {t:TE} (h:PE X a t):PE X (.BoolOp op [a] pos) t:=fun pins s σ H Q I hw=>BoolOp_one (h pins s σ H Q I hw)
theorem cg (ha:PE X a ta) (hb:PE X (.BoolOp .And (b::zX) pos) tb):PE X (.BoolOp .And (a::b::zX) pos) (Xb ta tb):=by
 intro pins s σ H Q I h
 refine BoolOp_and (thn (ha pins s σ H _ I h) fun v s1 ⟨x,H1,I1,r1,q1⟩=>?_)
 obtain ⟨c,rfl,q1⟩:=q1
 cases r1
 refine wpAny_truthy_bool ?_
 cases c with
 | true=>exact hb pins s1 σ H1 Q I1 q1
 | false=>exact ⟨.bl false,H1,I1,rfl,q1⟩
theorem Xj (ha:PE X a ta) (hb:PE X (.BoolOp .Or (b::zX) pos) tb):PE X (.BoolOp .Or (a::b::zX) pos) (VB ta tb):=by
 intro pins s σ H Q I h
 refine BoolOp_or (thn (ha pins s σ H _ I h) fun v s1 ⟨x,H1,I1,r1,q1⟩=>?_)
 obtain ⟨c,rfl,q1⟩:=q1
 cases r1
 refine wpAny_truthy_bool ?_
 cases c with
 | false=>exact hb pins s1 σ H1 Q I1 q1
 | true=>exact ⟨.bl true,H1,I1,rfl,q1⟩
theorem cc (ha:PE X a ta):PE X (.UnaryOp .Not a pos) (YX ta):=by
 intro pins s σ H Q I h
 refine UnaryOp_ (thn (ha pins s σ H _ I h) fun v s1 ⟨x,H1,I1,r1,q1⟩=>?_)
 obtain ⟨c,rfl,q1⟩:=q1
 cases r1
 exact not_of (wpAny_truthy_bool ⟨.bl (!c),H1,I1,rfl,q1⟩)
end
end L2
namespace L2
open PySem PySem.Spec PyProof.Rows
def SqL (K:PySem.W.Frag) (H:Hp) (a:Addr) (xs:List V):Prop:=
 Rd H a (.lst xs)∨
  ∃ (o:Obj) (its:Array Value) (n:Nat),K.lookup a=some o∧o.cls=.type "list"∧o.dict=none∧o.data=.seq its n∧its.size≤sizeLine∧Vals xs its.toList
def SqT (K:PySem.W.Frag) (H:Hp) (a:Addr) (xs:List V):Prop:=
 Rd H a (.tup xs)∨
  ∃ (o:Obj) (its:Array Value) (n:Nat),K.lookup a=some o∧o.cls=.type "tuple"∧o.data=.seq its n∧its.size≤sizeLine∧Vals xs its.toList
def Uy:Value→Option V
 | .none=>some .non
 | .bool b=>some (.bl b)
 | .int i _=>some (.int i)
 | .str x _=>some (.str x)
 | .bytes b _=>some (.byt b)
 | .float b _=>some (.flt b)
 | .ref a=>some (.ref a)
 | .type n=>some (.ty n)
 | _=>none
theorem RelV.abs {x:V} {u:Value} (r:RelV x u):Uy u=some x:=by
 cases x with
 | non=>cases r; rfl
 | bl _=>cases r; rfl
 | int _=>obtain ⟨t,rfl⟩:=r; rfl
 | str _=>obtain ⟨t,rfl⟩:=r; rfl
 | byt _=>obtain ⟨t,rfl⟩:=r; rfl
 | flt _=>obtain ⟨t,rfl⟩:=r; rfl
 | ref _=>cases r; rfl
 | ty _=>cases r; rfl
theorem RelV.inj {x y:V} {u:Value} (r:RelV x u) (q:RelV y u):x=y:=Option.some.inj (r.abs.symm.trans q.abs)
theorem Vals.inj:∀ {xs ys:List V} {us:List Value},Vals xs us→Vals ys us→xs=ys
 | _,_,_,.nil,.nil=>rfl
 | _,_,_,.cons r t,.cons r' t'=>by rw [r.inj r',Vals.inj t t']
section
variable {X:Cx} {pins:List (Addr × Obj)} {σ:St} {H:Hp} {s:Shared} {a:Addr} {xs ys:List V}
theorem SqL.of {K:PySem.W.Frag} (h:H a=some (.lst xs)):SqL K H a xs:=.inl (.inl h)
theorem SqT.of {K:PySem.W.Frag} (h:H a=some (.tup xs)):SqT K H a xs:=.inl (.inl h)
theorem Inv.list (I:Inv X pins σ H s) (h:SqL X.K H a xs):∃ its:List Value,Vals xs its∧PlainL s.heap a its.toArray∧xs.length≤sizeLine:=by
 rcases h with h | ⟨o,its,n,hk,hc,hd,hs,hz,r⟩
 ·obtain ⟨z,its,n,r,e⟩:=h.ok I.hok
  exact ⟨its,r,⟨_,n,e,rfl,rfl,rfl⟩,z⟩
 ·refine ⟨its.toList,r,⟨o,n,I.kIn a o hk,hc,hd,by simpa using hs⟩,?_⟩
  have e:=r.length
  simp only [Array.length_toList] at e
  omega
theorem Inv.tuple (I:Inv X pins σ H s) (h:SqT X.K H a xs):∃ its:List Value,Vals xs its∧IsTup s.heap a its.toArray∧xs.length≤sizeLine:=by
 rcases h with h | ⟨o,its,n,hk,hc,hs,hz,r⟩
 ·obtain ⟨z,its,r,p⟩:=h.ok I.hok
  exact ⟨its,r,p,z⟩
 ·refine ⟨its.toList,r,⟨o,I.kIn a o hk,hc,n,by simpa using hs⟩,?_⟩
  have e:=r.length
  simp only [Array.length_toList] at e
  omega
theorem Inv.list_inj (I:Inv X pins σ H s) (h:SqL X.K H a xs) (h':SqL X.K H a ys):xs=ys:=by
 obtain ⟨its,r,⟨o,n,e,_,_,d⟩,_⟩:=I.list h
 obtain ⟨its',r',⟨o',n',e',_,_,d'⟩,_⟩:=I.list h'
 rw [e] at e'; cases e'
 rw [d] at d'
 injection d' with d1 _
 have:its=its':=by simpa using congrArg Array.toList d1
 subst this
 exact r.inj r'
end
abbrev Cx.wish (X:Cx) (E:Value→Shared→Prop):Cx:={ X with xe:=E }
abbrev Cx.nox (X:Cx):Cx:=X.wish fun _ _=>False
theorem Cx.Ok.wish {X:Cx} (ok:X.Ok) (E:Value→Shared→Prop):(X.wish E).Ok:=
 ⟨ok.mod,ok.kind,ok.glob,ok.blt,ok.above,ok.inj,ok.has,ok.cab,ok.hd,ok.frames,ok.stk,ok.exf,ok.bs,ok.bsz,ok.noex,ok.exfs,ok.funs,ok.frf⟩
theorem Cx.Ok.unwish {X:Cx} {E:Value→Shared→Prop} (ok:(X.wish E).Ok):X.Ok:=
 ⟨ok.mod,ok.kind,ok.glob,ok.blt,ok.above,ok.inj,ok.has,ok.cab,ok.hd,ok.frames,ok.stk,ok.exf,ok.bs,ok.bsz,ok.noex,ok.exfs,ok.funs,ok.frf⟩
section
variable {X:Cx} {pins:List (Addr × Obj)} {σ:St} {H:Hp} {s:Shared} {E:Value→Shared→Prop}
theorem Inv.wish (I:Inv X pins σ H s) (E:Value→Shared→Prop):Inv (X.wish E) pins σ H s:=⟨I.ok.wish E,I.os,I.bare,I.base,I.loc,I.cell,I.free,I.freeC,I.pin,I.hok,I.len⟩
theorem Inv.unwish (I:Inv (X.wish E) pins σ H s):Inv X pins σ H s:=⟨I.ok.unwish,I.os,I.bare,I.base,I.loc,I.cell,I.free,I.freeC,I.pin,I.hok,I.len⟩
theorem SP.unwish {D:Ends} {f:Flow} {s':Shared} (h:SP (X.wish E) pins D f s'):SP X pins D f s':=by
 cases f with
 | next=>obtain ⟨σ',H',I,q⟩:=h; exact ⟨σ',H',I.unwish,q⟩
 | brk=>obtain ⟨σ',H',I,q⟩:=h; exact ⟨σ',H',I.unwish,q⟩
 | cont=>obtain ⟨σ',H',I,q⟩:=h; exact ⟨σ',H',I.unwish,q⟩
 | ret u=>obtain ⟨v,σ',H',I,r,q⟩:=h; exact ⟨v,σ',H',I.unwish,r,q⟩
theorem PE.nox {e:Expr} {t:TE} (h:PE X.nox e t):PE X e t:=fun pins s σ H Q I hw=>
 wpAny_mono (h pins s σ H Q (I.wish _) hw) (fun _ _ ⟨v,H',I',r,q⟩=>⟨v,H',I'.unwish,r,q⟩) fun _ _ z=>False.elim z
theorem PT.nox {e:Expr} {t:TT} (h:PT X.nox e t):PT X e t:=fun pins s σ H Q I hw=>
 wpAny_mono (h pins s σ H Q (I.wish _) hw) (fun _ _ ⟨H',I',q⟩=>⟨H',I'.unwish,q⟩) fun _ _ z=>False.elim z
theorem PSs.nox {st:List Stmt} {t:TS} (h:PSs X.nox st t):PSs X st t:=fun pins s σ H D I hw=>
 wpAny_mono (h pins s σ H D (I.wish _) hw) (fun _ _ q=>q.unwish) fun _ _ z=>False.elim z
end
section
variable {X:Cx} {st:Stmt} {zX:List Stmt} {t u:TS} {e:Expr} {te:TE} {pos:Pos}
def YZ:TS:=fun D σ H=>D.nx σ H
def Vz (t u:TS):TS:=fun D σ H=>t { D with nx:=u D } σ H
theorem nk:PSs X [] YZ:=fun _ _ σ H _ I h=>wpAny_execs_nil ⟨σ,H,I,h⟩
theorem xt (h1:PS X st t) (h2:PSs X zX u):PSs X (st::zX) (Vz t u):=by
 intro pins s σ H D I h
 refine wpAny_execs_cons (thn (h1 pins s σ H { D with nx:=u D } I h) fun f s1 q=>?_)
 cases f with
 | next=>
  obtain ⟨σ',H',I',q⟩:=q
  exact h2 pins s1 σ' H' D I' q
 | ret v=>exact q
 | brk=>exact q
 | cont=>exact q
theorem xK (h1:PS X st t):PSs X [st] t:=by
 intro pins s σ H D I h
 refine wpAny_execs_cons (thn (h1 pins s σ H D I h) fun f s1 q=>?_)
 cases f with
 | next=>exact wpAny_execs_nil q
 | ret v=>exact q
 | brk=>exact q
 | cont=>exact q
theorem Inv.quiet {pins:List (Addr × Obj)} {σ:St} {H:Hp} {s:Shared} (I:Inv X pins σ H s):interactive X.env=false:=by simp [interactive,I.ok.kind]
def Y7 (te:TE):TS:=fun D σ H=>te σ H fun _ H1=>D.nx σ H1
theorem xf (he:PE X e te) (hs:swapsWith e none pos.line X.env=pure false:=by rfl):PS X (.Expr e pos) (Y7 te):=by
 intro pins s σ H D I h
 exact wpAny_Expr_any (thn (he pins s σ H _ I h) fun v s1 ⟨x,H1,I1,r1,q1⟩=>⟨σ,H1,I1,q1⟩) I.quiet hs
def VA (te:TE):TS:=fun D σ H=>te σ H D.rt
theorem tj (he:PE X e te):PS X (.Return (some e) pos) (VA te):=by
 intro pins s σ H D I h
 exact wpAny_Return_some (thn (he pins s σ H _ I h) fun v s1 ⟨x,H1,I1,r1,q1⟩=>⟨x,σ,H1,I1,r1,q1⟩)
def VE (c:TT) (t u:TS):TS:=fun D σ H=>c σ H fun b H1=>if b=true then t D σ H1 else u D σ H1
theorem eU {c:Expr} {a b:List Stmt} {tc:TT} (hc:PT X c tc) (ha:PSs X a t) (hb:PSs X b u):PS X (.If c a b pos) (VE tc t u):=by
 intro pins s σ H D I h
 refine wpAny_If (thn (hc pins s σ H _ I h) fun d s1 ⟨H1,I1,q1⟩=>?_)
 cases d with
 | true=>exact ha pins s1 σ H1 D I1 q1
 | false=>exact hb pins s1 σ H1 D I1 q1
def dN:TS:=fun _ _ _=>False
theorem lI:PS X st dN:=fun _ _ _ _ _ _ h=>h.elim
end
abbrev TG:=V→St→Hp→(St→Hp→Prop)→Prop
abbrev TGs:=List V→St→Hp→(St→Hp→Prop)→Prop
def PG (X:Cx) (target:Expr) (t:TG):Prop:=
 ∀ (pins:List (Addr × Obj)) (s:Shared) (σ:St) (H:Hp) (v:V) (u:Value) (Q:St→Hp→Prop),Inv X pins σ H s→RelV v u→t v σ H Q→
  wpAny (model X.prog X.w) X.A (assign target X.env u) (fun _ s'=>∃ σ' H',Inv X pins σ' H' s'∧Q σ' H') X.xe s
def PGs (X:Cx) (ts:List Expr) (t:TGs):Prop:=
 ∀ (pins:List (Addr × Obj)) (s:Shared) (σ:St) (H:Hp) (vs:List V) (us:List Value) (Q:St→Hp→Prop),Inv X pins σ H s→Vals vs us→t vs σ H Q→
  wpAny (model X.prog X.w) X.A (assignInOrder ((assignEach ts X.env).map (·.2)) us) (fun _ s'=>∃ σ' H',Inv X pins σ' H' s'∧Q σ' H') X.xe s
abbrev jw:=V→V→V→Hp→(Hp→Prop)→Prop
def YO (X:Cx) (t:jw):Prop:=
 ∀ (pins:List (Addr × Obj)) (s:Shared) (σ:St) (H:Hp) (o i v:V) (ov iv u:Value) (Q:Hp→Prop),Inv X pins σ H s→RelV o ov→RelV i iv→RelV v u→t o i v H Q→
  wpAny (model X.prog X.w) X.A (setItem ov iv u) (fun _ s'=>∃ H',Inv X pins σ H' s'∧Q H') X.xe s
abbrev TIp:=V→V→Hp→VK→Prop
def PIp (X:Cx) (op:Operator) (t:TIp):Prop:=
 ∀ (pins:List (Addr × Obj)) (s:Shared) (σ:St) (H:Hp) (x y:V) (v u:Value) (Q:VK),Inv X pins σ H s→RelV x v→RelV y u→t x y H Q→
  wpAny (model X.prog X.w) X.A (inplaceOp op v u) (EP X pins σ Q) X.xe s
section
variable {X:Cx} {pos:Pos}
def e9 (i:Nat):TG:=fun v σ H Q=>Q (σ.set i (some v)) H
theorem yG {i:Nat} {x:Str} (hN:X.N.Nodup) (hi:X.N[i]? = some x) (hx:Loc X.env.scope x) (hf:X.fn x=true∨X.env.scope.names.lookup x=some .local:=by first | exact .inl rfl | exact .inr rfl | assumption):PG X (.Name x pos) (e9 i):=by
 intro pins s σ H v u Q I r h
 exact wpAny_assign_Name (uT I hN hi hx r (fun s' I'=>⟨_,H,I',h⟩) hf)
def V6:TGs:=fun vs σ H Q=>vs=[]∧Q σ H
def WH (t:TG) (u:TGs):TGs:=fun vs σ H Q=>∃ v r,vs=v::r∧t v σ H fun σ' H'=>u r σ' H' Q
theorem rF:PGs X [] V6:=by
 intro pins s σ H vs us Q I r h
 obtain ⟨e,h⟩:=h
 subst e
 cases r
 exact assignInOrder_nil ⟨σ,H,I,h⟩
theorem xu {e:Expr} {es:List Expr} {t:TG} {u:TGs} (h1:PG X e t) (h2:PGs X es u)
  (hs:(assignEach (e::es) X.env).map (·.2)=assign e X.env::(assignEach es X.env).map (·.2):=by rfl):PGs X (e::es) (WH t u):=by
 intro pins s σ H vs us Q I r h
 obtain ⟨v,vr,e1,h⟩:=h
 subst e1
 cases r with
 | cons r rr=>
  rw [hs]
  refine assignInOrder_cons (thn (h1 pins s σ H _ _ _ I r h) fun _ s1 ⟨σ1,H1,I1,q1⟩=>?_)
  exact h2 pins s1 σ1 H1 _ _ Q I1 rr q1
def V3 (K:PySem.W.Frag) (n:Nat) (t:TGs):TG:=fun v σ H Q=>∃ a xs,v=.ref a∧SqT K H a xs∧xs.length=n∧t xs σ H Q
theorem p9 {es:List Expr} {k:Nat} {t:TGs} {n:Nat} (hc:X.calm=true) (h:PGs X es t)
  (hn:(assignEach es X.env).length=n:=by rfl) (hst:(assignEach es X.env).findIdx? (·.1)=none:=by rfl):PG X (.Tuple es k pos) (V3 X.K n t):=by
 intro pins s σ H v u Q I r hw
 obtain ⟨a,xs,e1,hq,hl,hw⟩:=hw
 subst e1
 cases r
 obtain ⟨its,rv,ht,hz⟩:=I.tuple hq
 refine assign_Tuple_tuple (I.ok.hd hc) ht (by simp [hn,← hl,rv.length]) hst fun h' hx=>?_
 have I1:Inv X pins σ H { s with heap:=h' }:=I.kept (t':=s.toks) fun b o e=>hx b o (Nat.ne_of_lt (Heap.lt_size e)) e
 exact h pins _ σ H xs _ Q I1 (by simpa using rv) hw
def V4 (to ti:TE) (t:jw):TG:=fun v σ H Q=>to σ H fun o H1=>ti σ H1 fun i H2=>t o i v H2 fun H3=>Q σ H3
theorem d9 {o i:Expr} {to ti:TE} {t:jw} (ho:PE X o to) (hi:PE X i ti) (hs:YO X t)
  (ha:∀ v,assign (.Subscript o i pos) X.env v=(do
   let ov ← holding [v] (eval o X.env)
   let iv ← holding [v,ov] (eval i X.env)
   standAt pos
   holding [v,ov,iv] (setItem ov iv v)
   release [v,ov,iv] []):=by intro _; rfl):PG X (.Subscript o i pos) (V4 to ti t):=by
 intro pins s σ H v u Q I r h
 rw [ha]
 refine wpAny_bind (wpAny_holding (thn (ho pins s σ H _ I h) fun ov s1 ⟨x,H1,I1,r1,q1⟩=>?_))
 refine wpAny_bind (wpAny_holding (thn (hi pins s1 σ H1 _ I1 q1) fun iv s2 ⟨y,H2,I2,r2,q2⟩=>?_))
 refine wpAny_bind (wpAny_standAt (wpAny_bind (wpAny_holding (thn (hs pins s2 σ H2 x y v ov iv u _ I2 r1 r2 r q2) fun _ s3 ⟨H3,I3,q3⟩=>?_))))
 exact wpAny_release ⟨σ,H3,I3,q3⟩
def Xa (te:TE) (g:TG):TS:=fun D σ H=>te σ H fun x H1=>g x σ H1 D.nx
theorem lJ {tg e:Expr} {te:TE} {g:TG} (he:PE X e te) (hg:PG X tg g) (hs:swapsWithSole [tg] e pos.line X.env=pure false:=by rfl) (hw:swappedStores [tg] e X.env=pure none:=by rfl)
  (h1:(assignEach [tg] X.env).map (·.2)=[assign tg X.env]:=by rfl):PS X (.Assign [tg] e pos) (Xa te g):=by
 intro pins s σ H D I h
 refine wpAny_Assign_stores (thn (he pins s σ H _ I h) fun v s1 ⟨x,H1,I1,r1,q1⟩=>?_) hs hw
 rw [h1]
 exact thn (hg pins s1 σ H1 x v _ I1 r1 q1) fun _ s2 q=>q
theorem rC {i:Nat} {x:Str} {e:Expr} {te:TE} {pos':Pos} (hN:X.N.Nodup) (hi:X.N[i]? = some x) (hx:Loc X.env.scope x) (he:PE X e te) (hs:swapsWith e (some (.Name x pos')) pos.line X.env=pure false:=by rfl) (hf:X.fn x=true∨X.env.scope.names.lookup x=some .local:=by first | exact .inl rfl | exact .inr rfl | assumption):
  PS X (.Assign [.Name x pos'] e pos) (Xa te (e9 i)):=by
 intro pins s σ H D I h
 refine wpAny_Assign_Name (thn (he pins s σ H _ I h) fun v s1 ⟨y,H1,I1,r1,q1⟩=>?_) hs
 exact uT I1 hN hi hx r1 (fun s2 I2=>⟨_,H1,I2,q1⟩) hf
def VI (i:Nat) (te:TE) (ti:TIp):TS:=fun D σ H=>∃ x,σ[i]? = some (some x)∧te σ H fun y H1=>ti x y H1 fun z H2=>D.nx (σ.set i (some z)) H2
theorem d6 {i:Nat} {x:Str} {e:Expr} {te:TE} {op:Operator} {ti:TIp} {pos':Pos} (hN:X.N.Nodup) (hi:X.N[i]? = some x) (hx:Loc X.env.scope x) (he:PE X e te) (ho:PIp X op ti) (hf:X.fn x=true∨X.env.scope.names.lookup x=some .local:=by first | exact .inl rfl | exact .inr rfl | assumption):
  PS X (.AugAssign (.Name x pos') op e pos) (VI i te ti):=by
 intro pins s σ H D I h
 obtain ⟨v,e1,h⟩:=h
 obtain ⟨m,hn,hl⟩:=I.loc
 have vis:Vis X.env.scope x:=by rcases hx with k | k; exact .inl k; exact .inr (.inl k)
 obtain ⟨u,r,l⟩:=hl i x v hi e1 vis
 refine wpAny_AugAssign_Name ?_
 have go:wpAny (model X.prog X.w) X.A (eval e X.env) (fun w s₂=>wpAny (model X.prog X.w) X.A (inplaceOp op u w) (fun r s₃=>wpAny (model X.prog X.w) X.A (storeName X.env x r) (fun _=>SP X pins D .next) X.xe s₃) X.xe s₂) X.xe s:=by
  refine thn (he pins s σ H _ I h) fun w s1 ⟨y,H1,I1,r1,q1⟩=>?_
  refine thn (ho pins s1 σ H1 v y u w _ I1 r r1 q1) fun z s2 ⟨zv,H2,I2,r2,q2⟩=>?_
  exact uT I2 hN hi hx r2 (fun s3 I3=>⟨_,H2,I3,q2⟩) hf
 rcases l with ⟨hk,hm⟩ | ⟨hk,c,hc,hcell⟩
 ·exact wpAny_loadName_local I.ok.kind hk hn hm go
 ·rcases hk with hk | hk
  ·exact wpAny_loadName_cell I.ok.kind hk hc hcell go
  ·rcases hx with k | k
   ·have:X.env.scope.names.lookup x=some .free:=hk
    rw [k] at this; cases this
   ·have:X.env.scope.names.lookup x=some .free:=hk
    rw [k] at this; cases this
def Y_ (to ti te:TE) (tget:V→V→Hp→VK→Prop) (tip:TIp) (tset:jw):TS:=fun D σ H=>to σ H fun o H1=>ti σ H1 fun i H2=>tget o i H2 fun x H3=>te σ H3 fun y H4=>tip x y H4 fun z H5=>tset o i z H5 fun H6=>D.nx σ H6
def Vv (X:Cx) (t:V→V→Hp→VK→Prop):Prop:=
 ∀ (pins:List (Addr × Obj)) (s:Shared) (σ:St) (H:Hp) (o i:V) (ov iv:Value) (Q:VK),Inv X pins σ H s→RelV o ov→RelV i iv→t o i H Q→
  wpAny (model X.prog X.w) X.A (getItem ov iv) (EP X pins σ Q) X.xe s
theorem j0 {o i e:Expr} {to ti te:TE} {tget:V→V→Hp→VK→Prop} {tip:TIp} {tset:jw} {op:Operator} {tpos:Pos} (ho:PE X o to) (hi:PE X i ti) (hg:Vv X tget) (he:PE X e te) (hp:PIp X op tip) (hs:YO X tset)
  (ha:∀ ov iv new,augStore i ov iv new=(do holding [new,ov,iv] (setItem ov iv new); release [new,ov,iv] []; pure .next):=by intros; rfl):PS X (.AugAssign (.Subscript o i tpos) op e pos) (Y_ to ti te tget tip tset):=by
 intro pins s σ H D I h
 refine wpAny_AugAssign_SubscriptAny (thn (ho pins s σ H _ I h) fun ov s1 ⟨x1,H1,I1,r1,q1⟩=>?_) ha
 refine thn (hi pins s1 σ H1 _ I1 q1) fun iv s2 ⟨x2,H2,I2,r2,q2⟩=>?_
 refine thn (hg pins s2 σ H2 x1 x2 ov iv _ I2 r1 r2 q2) fun old s3 ⟨x3,H3,I3,r3,q3⟩=>?_
 refine thn (he pins s3 σ H3 _ I3 q3) fun v s4 ⟨x4,H4,I4,r4,q4⟩=>?_
 refine thn (hp pins s4 σ H4 x3 x4 old v _ I4 r3 r4 q4) fun new s5 ⟨x5,H5,I5,r5,q5⟩=>?_
 exact thn (hs pins s5 σ H5 x1 x2 x5 ov iv new _ I5 r1 r2 r5 q5) fun _ s6 ⟨H6,I6,q6⟩=>⟨σ,H6,I6,q6⟩
def ipI (f:Int→Int→Int):TIp:=fun x y H Q=>∃ i j,x=.int i∧y=.int j∧Q (.int (f i j)) H
theorem kB:PIp X .Add (ipI fun i j=>i+j):=by
 intro pins s σ H x y v u Q I r1 r2 h
 obtain ⟨i,j,e1,e2,q⟩:=h
 subst e1; subst e2
 obtain ⟨t,rfl⟩:=r1
 obtain ⟨t',rfl⟩:=r2
 exact iadd_int ⟨.int _,H,I.tok _,⟨_,rfl⟩,q⟩
theorem Yl:PIp X .Sub (ipI fun i j=>i - j):=by
 intro pins s σ H x y v u Q I r1 r2 h
 obtain ⟨i,j,e1,e2,q⟩:=h
 subst e1; subst e2
 obtain ⟨t,rfl⟩:=r1
 obtain ⟨t',rfl⟩:=r2
 exact isub_int ⟨.int _,H,I.tok _,⟨_,rfl⟩,q⟩
end
section
variable {X:Cx} {pos:Pos}
def dM (c:TT) (tb:TS):TS:=fun D σ H=>∃ W:Nat→St→Hp→Prop,(∃ m,W m σ H)∧∀ m σ H,W m σ H→
 c σ H fun b H1=>if b=true then ∃ N:St→Hp→Prop,(∀ σ' H',N σ' H'→∃ m',m'<m∧W m' σ' H')∧tb { D with nx:=N,ct:=N,bk:=D.nx } σ H1 else D.nx σ H1
theorem lG {c:Expr} {body:List Stmt} {tc:TT} {tb:TS} (hp:PassesOwn (model X.prog X.w) X.A X.env X.xe) (hc:PT X c tc) (hb:PSs X body tb):PS X (.While c body [] pos) (dM tc tb):=by
 intro pins s σ H D I h
 obtain ⟨W,⟨m0,w0⟩,turn⟩:=h
 refine wpAny_While (codeAny_whileLoop (fun n s'=>∃ σ' H',Inv X pins σ' H' s'∧W n σ' H') ?_ m0 ⟨σ,H,I,w0⟩)
 rintro n s1 ⟨σ1,H1,I1,w1⟩
 refine wpAny_passesOwn hp (thn (hc pins s1 σ1 H1 _ I1 (turn n σ1 H1 w1)) fun b s2 ⟨H2,I2,q2⟩=>?_)
 cases b with
 | true=>
  obtain ⟨N,hN,q2⟩:=q2
  rw [if_pos rfl]
  refine wpAny_passesOwn hp (thn (hb pins s2 σ1 H2 _ I2 q2) fun f s3 q3=>?_)
  cases f with
  | next=>
   obtain ⟨σ3,H3,I3,n3⟩:=q3
   obtain ⟨m',hm,w3⟩:=hN σ3 H3 n3
   exact ⟨m',hm,σ3,H3,I3,w3⟩
  | cont=>
   obtain ⟨σ3,H3,I3,n3⟩:=q3
   obtain ⟨m',hm,w3⟩:=hN σ3 H3 n3
   exact ⟨m',hm,σ3,H3,I3,w3⟩
  | brk=>exact q3
  | ret v=>exact q3
 | false=>
  rw [if_neg Bool.false_ne_true]
  exact wpAny_execs_nil ⟨σ1,H2,I2,q2⟩
end
structure It where
 go:Nat→Hp→Prop
 yld:Nat→Hp→V→Hp→Prop
 stop:Nat→Hp→Prop
def qh (X:Cx) (pins:List (Addr × Obj)) (H:Hp) (b:Addr):Prop:=
 H b=none∧b≠X.env.locals∧b∉X.fs∧(b∈X.ex∨X.s₀.heap.objs.size≤b)∧(∀ x c,X.env.cells.lookup x=some c→c≠b)∧∀ p∈X.pn++pins,p.1≠b
theorem Inv.fpOk {X:Cx} {pins:List (Addr × Obj)} {σ:St} {H H':Hp} {s:Shared} {b:Addr} (I:Inv X pins σ H s) (hb:s.heap.objs.size≤b) (hn:H' b=none):qh X pins H' b:=by
 refine ⟨hn,Nat.ne_of_gt (Nat.lt_of_lt_of_le I.lt hb),I.nofs hb,.inr (Nat.le_trans I.sz hb),fun x c e z=>?_,fun p hp z=>?_⟩
 ·obtain ⟨v,q⟩:=I.cell x c e
  exact absurd (Nat.lt_of_lt_of_le q.lt (by rw [z]; exact hb)) (Nat.lt_irrefl _)
 ·exact absurd (Nat.lt_of_lt_of_le (Heap.lt_size (I.pin p hp).1) (by rw [z]; exact hb)) (Nat.lt_irrefl _)
structure jv (P:Program) (w:World) (K:PySem.W.Frag) (tg:Expr) (J:It) (fp:List Addr) (it:Addr) (tn:Nat→Heap→Prop):Prop where
 mem:it∈fp
 obj:∀ i h,tn i h→∀ b∈fp,∃ o,h.get? b=some o∧∀ v,o.data≠.cell v
 keep:∀ i h h',tn i h→(∀ b∈fp,∀ o,h.get? b=some o→h'.get? b=some o)→tn i h'
 item:∀ (X:Cx),X.prog=P→X.w=w→X.K=K→X.calm=true→∀ (i:Nat) (pins:List (Addr × Obj)) (s:Shared) (σ:St) (H:Hp) (E:Value→Shared→Prop),Inv X pins σ H s→(∀ b∈fp,qh X pins H b)→tn i s.heap→J.go i H→
  wpAny (model P w) X.A (pyNext (.ref it)) (fun r s1=>∃ u,r=some u∧
   wpAny (model P w) X.A (letOwnedTupleGo tg (.ref it) u) (fun _ s2=>∃ x H',Inv X pins σ H' s2∧RelV x u∧J.yld i H x H'∧tn (i+1) s2.heap∧∀ b∈fp,H' b=none) E s1) E s
 done:∀ (X:Cx),X.prog=P→X.w=w→X.K=K→X.calm=true→∀ (i:Nat) (pins:List (Addr × Obj)) (s:Shared) (σ:St) (H:Hp) (E:Value→Shared→Prop),Inv X pins σ H s→(∀ b∈fp,qh X pins H b)→tn i s.heap→J.stop i H→
  wpAny (model P w) X.A (pyNext (.ref it)) (fun r s1=>r=none∧Inv X pins σ H s1) E s
 self:∀ (A:Around) (i:Nat) (s:Shared) (Q:Value→Shared→Prop) (E:Value→Shared→Prop),tn i s.heap→Q (.ref it) s→wpAny (model P w) A (pyIter (.ref it)) Q E s
abbrev TI:=St→Hp→(It→Hp→Prop)→Prop
def PIE (X:Cx) (pins:List (Addr × Obj)) (σ:St) (tg:Expr) (R:It→Hp→Prop) (itv:Value) (s2:Shared):Prop:=
 ∃ (it:Addr) (fp:List Addr) (tn:Nat→Heap→Prop) (J:It) (H':Hp),itv=.ref it∧Inv X pins σ H' s2∧jv X.prog X.w X.K tg J fp it tn∧tn 0 s2.heap∧(∀ b∈fp,qh X pins H' b)∧R J H'
def PI (X:Cx) (tg iter:Expr) (wi:TI):Prop:=
 ∀ (pins:List (Addr × Obj)) (s:Shared) (σ:St) (H:Hp) (R:It→Hp→Prop),Inv X pins σ H s→wi σ H R→
  wpAny (model X.prog X.w) X.A (eval iter X.env) (fun v s1=>wpAny (model X.prog X.w) X.A (pyIter v) (PIE X pins σ tg R) X.xe s1) X.xe s
theorem kF {M:Model} {A:Around} {E:Value→Shared→Prop} {s:Shared} {tg:Expr} {it:Addr} {u:Value} {o:Obj} {n:String} {vs:Array Value} {Q:Unit→Shared→Prop} (ho:s.heap.get? it=some o) (hc:o.cls=.type n) (hd:o.data=.fields vs)
  (hn:["enumerate","zip","dict_itemiterator","dict_reverseitemiterator","odict_iterator","itertools.zip_longest","itertools.pairwise"].contains n=false) (hQ:Q () s):wpAny M A (letOwnedTupleGo tg (.ref it) u) Q E s:=by
 unfold letOwnedTupleGo
 cases tg <;> first
  | exact wpAny_pure hQ
  | (cases u <;> first
    | exact wpAny_pure hQ
    | (refine wpAny_bind (wpAny_load ho ?_)
       rw [hc,hd]
       show wpAny M A (if (["enumerate","zip","dict_itemiterator","dict_reverseitemiterator","odict_iterator","itertools.zip_longest","itertools.pairwise"].contains n && vs[0]? == some (rawInt _))=true then _ else _) Q E s
       rw [if_neg (by intro h; rw [hn,Bool.false_and] at h; cases h)]
       exact wpAny_pure hQ))
def Itl (K:PySem.W.Frag) (a:Addr):It:=
 ⟨fun i H=>∃ xs x,SqL K H a xs∧xs[i]? = some x,fun i H x H'=>H'=H∧∀ xs,SqL K H a xs→xs[i]? = some x,fun i H=>∃ xs,SqL K H a xs∧xs.length≤i⟩
def Itr (lo:Int) (n:Nat):It:=⟨fun i _=>i<n,fun i H x H'=>H'=H∧x=.int (lo+i),fun i _=>n≤i⟩
theorem n4 {P:Program} {w:World} {K:PySem.W.Frag} {tg:Expr} (a it:Addr):jv P w K tg (Itl K a) [it] it (fun i h=>h.IsListIter it a i) where
 mem:=by simp
 obj:=fun i h st b hb=>by
  have e:b=it:=by simpa using hb
  subst e
  obtain ⟨o,e,c,d⟩:=st
  exact ⟨o,e,fun v z=>by rw [d] at z; cases z⟩
 keep:=fun i h h' st k=>st.at fun o e=>k it (by simp) o e
 item:=by
  intro X hP hw hK hc i pins s σ H E I hf st hg
  subst hP hw hK
  obtain ⟨xs,x,hq,hx⟩:=hg
  obtain ⟨its,rv,p,hz⟩:=I.list hq
  obtain ⟨u,hu,ru⟩:=rv.get hx
  obtain ⟨f0,f1,f2,f3,f4,f5⟩:=hf it (by simp)
  refine wpAny_pyNext_list_item st p.isList (x:=u) (by simpa using hu) fun h' st' sb=>?_
  have I1:Inv X pins σ H { s with heap:=h' }:=I.turned (t':=s.toks) (fun b o hb e=>(sb.2 b hb).trans e) f0 f1 f3 f4 f5
  obtain ⟨o,e,c,d⟩:=id st'
  exact ⟨u,rfl,kF (s:={ s with heap:=h' }) e c d (by decide) ⟨x,H,I1,ru,⟨rfl,fun ys hy=>by rw [I.list_inj hy hq]; exact hx⟩,st',fun b hb=>(hf b hb).1⟩⟩
 done:=by
  intro X hP hw hK hc i pins s σ H E I hf st hg
  subst hP hw hK
  obtain ⟨xs,hq,hx⟩:=hg
  obtain ⟨its,rv,p,hz⟩:=I.list hq
  obtain ⟨f0,f1,f2,f3,f4,f5⟩:=hf it (by simp)
  have hl:=rv.length
  exact wpAny_pyNext_list_end (I.ok.hd hc) st p.isList (by simp; omega) fun h' eb=>⟨rfl,I.turned (t':=s.toks) (fun b o hb e=>eb b o hb e) f0 f1 f3 f4 f5⟩
 self:=fun _ _ _ _ _ st h=>wpAny_pyIter_listiter st h
theorem pN {P:Program} {w:World} {K:PySem.W.Frag} {tg:Expr} (it:Addr) (lo:Int) (n:Nat):jv P w K tg (Itr lo n) [it] it (fun i h=>IsRangeIter h it (lo+(i:Nat)*1) ((n:Int) - (i:Nat)) 1) where
 mem:=by simp
 obj:=fun i h st b hb=>by
  have e:b=it:=by simpa using hb
  subst e
  exact ⟨_,st,fun v z=>by
   have z':Data.fields _=Data.cell v:=z
   cases z'⟩
 keep:=fun i h h' st k=>k it (by simp) _ st
 item:=by
  intro X hP hw hK hc i pins s σ H E I hf st hg
  subst hP hw hK
  obtain ⟨f0,f1,f2,f3,f4,f5⟩:=hf it (by simp)
  have W:=Walks.range (prog:=X.prog) (w:=X.w) (I.ok.hd hc) it lo 1 n
  refine W.item i s _ _ hg st fun v h' tk hv st' kk=>?_
  obtain ⟨t,rfl⟩:=hv
  have I1:Inv X pins σ H { s with heap:=h',toks:=tk }:=I.turned (fun b o hb e=>kk b o (by simpa using hb) e) f0 f1 f3 f4 f5
  refine ⟨_,rfl,kF (s:={ s with heap:=h',toks:=tk }) (n:="range_iterator") st' rfl rfl (by decide) ⟨.int (lo+i),H,I1,⟨t,?_⟩,⟨rfl,rfl⟩,st',fun b hb=>(hf b hb).1⟩⟩
  rw [Int.mul_one]
 done:=by
  intro X hP hw hK hc i pins s σ H E I hf st hg
  subst hP hw hK
  obtain ⟨f0,f1,f2,f3,f4,f5⟩:=hf it (by simp)
  exact wpAny_pyNext_range_end (I.ok.hd hc) st (by have:n≤i:=hg; omega) fun h' eb=>⟨rfl,I.turned (t':=s.toks) (fun b o hb e=>eb b o hb e) f0 f1 f3 f4 f5⟩
 self:=fun _ _ _ _ _ st h=>wpAny_pyIter_rangeiter st h
end L2
namespace L2
open PySem PySem.Spec PyProof.Rows
section
variable {X:Cx} {tg:Expr}
def WD (K:PySem.W.Frag) (tl:TE):TI:=fun σ H R=>tl σ H fun x H1=>∃ a,x=.ref a∧(∃ xs,SqL K H1 a xs)∧R (Itl K a) H1
theorem nl {l:Expr} {tl:TE} (hl:PE X l tl):PI X tg l (WD X.K tl):=by
 intro pins s σ H R I h
 refine thn (hl pins s σ H _ I h) fun v s1 ⟨x,H1,I1,r1,q1⟩=>?_
 obtain ⟨a,e,⟨xs,hq⟩,q⟩:=q1
 subst e
 cases r1
 obtain ⟨its,rv,p,hz⟩:=I1.list hq
 refine wpAny_pyIter_list p.isList ?_
 refine ⟨s1.heap.objs.size,[s1.heap.objs.size],_,_,H1,rfl,I1.kept (t':=s1.toks) fun b o e=>Heap.get?_push_of_some _ e,n4 a _,⟨_,Heap.get?_push_size _ rfl,rfl,rfl⟩,fun b hb=>?_,q⟩
 have e:b=s1.heap.objs.size:=by simpa using hb
 subst e
 exact I1.fpOk (Nat.le_refl _) (I1.hok.fresh (Nat.le_refl _))
theorem qE {pins:List (Addr × Obj)} {σ:St} {H:Hp} {s:Shared} {R:It→Hp→Prop} {E:Value→Shared→Prop} {lo hi:Int} {t u v:Tok} {tk:Nat} (I:Inv X pins σ H s) (h1:-(2 ^ 62)≤lo) (h2:lo<2 ^ 62) (h3:-(2 ^ 62)≤hi) (h4:hi<2 ^ 62)
  (q:R (Itr lo (hi - lo).toNat) H):wpAny (model X.prog X.w) X.A (pyIter (.ref s.heap.objs.size)) (PIE X pins σ tg R) E { s with heap:=s.heap.push { cls:=.type "range",data:=.fields #[.int lo t,.int hi u,.int 1 v] },toks:=tk }:=by
 refine wpAny_pyIter_range (IsRange.new ..) (small_one h1 h2 h3 h4) ?_
 have I1:Inv X pins σ H { s with heap:=s.heap.push { cls:=.type "range",data:=.fields #[.int lo t,.int hi u,.int 1 v] },toks:=tk }:=I.kept fun b o e=>Heap.get?_push_of_some _ e
 refine ⟨(s.heap.push { cls:=.type "range",data:=.fields #[.int lo t,.int hi u,.int 1 v] }).objs.size,[(s.heap.push { cls:=.type "range",data:=.fields #[.int lo t,.int hi u,.int 1 v] }).objs.size],_,_,H,rfl,
  I1.kept (t':=tk) fun b o e=>Heap.get?_push_of_some _ e,pN _ lo (hi - lo).toNat,?_,fun b hb=>?_,q⟩
 ·have e1:lo+((0:Nat):Int)*1=lo:=by simp
  have e2:(((hi - lo).toNat:Nat):Int) - ((0:Nat):Int)=Builtin.Range.rangeSize lo hi 1:=by rw [rangeSize_one]; split <;> omega
  show IsRangeIter _ _ (lo+((0:Nat):Int)*1) ((((hi - lo).toNat:Nat):Int) - ((0:Nat):Int)) 1
  rw [e1,e2]
  exact Heap.get?_push_size _ rfl
 ·have e:b=(s.heap.push { cls:=.type "range",data:=.fields #[.int lo t,.int hi u,.int 1 v] }).objs.size:=by simpa using hb
  subst e
  exact I1.fpOk (Nat.le_refl _) (I1.hok.fresh (Nat.le_refl _))
def WC (ta:TA):TI:=fun σ H R=>ta σ H fun vs H1=>∃ j:Int,vs=[.int j]∧-(2 ^ 62)≤j∧j<2 ^ 62∧R (Itr 0 j.toNat) H1
def WB (ta:TA):TI:=fun σ H R=>ta σ H fun vs H1=>∃ i j:Int,vs=[.int i,.int j]∧(-(2 ^ 62)≤i∧i<2 ^ 62∧-(2 ^ 62)≤j∧j<2 ^ 62)∧R (Itr i (j - i).toNat) H1
theorem mt {a:Expr} {ta:TA} {p pos:Pos} (hg:Gl X "range") (hm:X.mg "range"=none) (ha:PA X [a] ta) (hs:starEach [a] X.env=[(false,eval a X.env)]:=by rfl):PI X tg (.Call (.Name "range" p) [a] [] pos) (WC ta):=by
 intro pins s σ H R I h
 refine Call_ (wr I hg hm boot_range (PyProof.Rows.callWith_type1 (thn (ha pos pins s σ H _ I h) fun us s1 ⟨vs,H1,I1,r1,q1⟩=>?_) hs rfl))
 obtain ⟨j,e,q1,q2,q⟩:=q1
 subst e
 cases r1 with
 | cons r rr=>
  cases rr
  obtain ⟨t,rfl⟩:=r
  exact call_range_1 (qE I1 (by omega) (by omega) q1 q2 (by simpa using q))
theorem mr {a b:Expr} {ta:TA} {p pos:Pos} (hg:Gl X "range") (hm:X.mg "range"=none) (ha:PA X [a,b] ta) (hs:starEach [a,b] X.env=[(false,eval a X.env),(false,eval b X.env)]:=by rfl) (hs2:starEach [b] X.env=[(false,eval b X.env)]:=by rfl):
  PI X tg (.Call (.Name "range" p) [a,b] [] pos) (WB ta):=by
 intro pins s σ H R I h
 refine Call_ (wr I hg hm boot_range (PyProof.Rows.callWith_type1 (thn (ha pos pins s σ H _ I h) fun us s1 ⟨vs,H1,I1,r1,q1⟩=>?_) (by rw [hs,hs2]) (by rw [hs2]; rfl)))
 obtain ⟨i,j,e,⟨q1,q2,q3,q4⟩,q⟩:=q1
 subst e
 cases r1 with
 | cons r rr=>
  cases rr with
  | cons r' rr=>
   cases rr
   obtain ⟨t,rfl⟩:=r
   obtain ⟨t',rfl⟩:=r'
   exact call_range_2 (qE I1 q1 q2 q3 q4 q)
def VF (wi:TI) (g:TG) (tb:TS):TS:=fun D σ H=>wi σ H fun J H1=>∃ W:Nat→Nat→St→Hp→Prop,(∃ m,W 0 m σ H1)∧∀ i m σ H,W i m σ H→
 (J.stop i H∧D.nx σ H)∨(J.go i H∧∃ N:St→Hp→Prop,(∀ σ' H',N σ' H'→∃ m',m'<m∧W (i+1) m' σ' H')∧∀ x H',J.yld i H x H'→g x σ H' fun σ2 H2=>tb { D with nx:=N,ct:=N,bk:=D.nx } σ2 H2)
def rE (fp:List Addr) (h:Heap):List (Addr × Obj):=fp.filterMap fun b=>(h.get? b).map fun o=>(b,o)
theorem tJ {fp:List Addr} {h:Heap} {b:Addr} {o:Obj} (hb:b∈fp) (e:h.get? b=some o):(b,o)∈rE fp h:=List.mem_filterMap.mpr ⟨b,hb,by rw [e]; rfl⟩
theorem mC {fp:List Addr} {h:Heap} {p:Addr × Obj} (hp:p∈rE fp h):p.1∈fp∧h.get? p.1=some p.2:=by
 obtain ⟨b,hb,e⟩:=List.mem_filterMap.mp hp
 cases q:h.get? b with
 | none=>rw [q] at e; cases e
 | some o=>
  rw [q] at e
  have e':(b,o)=p:=Option.some.inj e
  subst e'
  exact ⟨hb,q⟩
theorem Inv.pinned {pins:List (Addr × Obj)} {σ:St} {H:Hp} {s:Shared} {fp:List Addr} (I:Inv X pins σ H s) (hf:∀ b∈fp,qh X pins H b) (ho:∀ b∈fp,∃ o,s.heap.get? b=some o∧∀ v,o.data≠.cell v):Inv X (pins++rE fp s.heap) σ H s:=
 I.pins_of fun p hp=>(List.mem_append.mp hp).elim (fun z=>I.pin p (List.mem_append_right _ z)) fun z=>by
  obtain ⟨hb,e⟩:=mC z
  obtain ⟨f0,f1,f2,_⟩:=hf p.1 hb
  obtain ⟨o,e',d⟩:=ho p.1 hb
  rw [e] at e'; cases e'
  exact ⟨e,f0,f1,f2,d⟩
theorem Inv.unpinned {pins pl:List (Addr × Obj)} {σ:St} {H:Hp} {s:Shared} (I:Inv X (pins++pl) σ H s):Inv X pins σ H s:=I.pins_of fun p hp=>I.pin p (List.mem_append_right _ (List.mem_append_left _ hp))
theorem vN {iter:Expr} {body:List Stmt} {wi:TI} {g:TG} {tb:TS} {pos:Pos} (hp:PassesOwn (model X.prog X.w) X.A X.env X.xe) (hc:X.calm=true) (hi:PI X tg iter wi) (hg:PG X tg g) (hb:PSs X body tb)
  (hs:∀ x,foldedSetIterable iter X.env x=pure x:=by intro _; rfl):PS X (.For tg iter body [] pos) (VF wi g tb):=by
 intro pins s σ H D I h
 refine wpAny_For (thn (hi pins s σ H _ I h) fun v s1 h1=>thn h1 fun itv s2 h2=>?_) hs
 obtain ⟨it,fp,tn,J,H2,e,I2,T,st2,f2,W,⟨m0,w0⟩,turn⟩:=h2
 subst e
 have stat:∀ {H':Hp},(∀ b∈fp,H' b=none)→∀ b∈fp,qh X pins H' b:=fun hn b hb=>⟨hn b hb,(f2 b hb).2⟩
 refine codeAny_forLoop_any (fun n s'=>∃ i σ' H',Inv X pins σ' H' s'∧tn i s'.heap∧(∀ b∈fp,H' b=none)∧W i n σ' H') ?_ m0 ⟨0,σ,H2,I2,st2,fun b hb=>(f2 b hb).1,w0⟩
 rintro n s3 ⟨i,σ3,H3,I3,st3,fr3,w3⟩
 rcases turn i n σ3 H3 w3 with ⟨stop,qn⟩ | ⟨go,N,hN,step⟩
 ·refine wpAny_passesOwn hp (thn (T.done X rfl rfl rfl hc i pins s3 σ3 H3 X.xe I3 (stat fr3) st3 stop) fun r s4 ⟨hr,I4⟩=>?_)
  subst hr
  exact wpAny_execs_nil ⟨σ3,H3,I4,qn⟩
 ·refine wpAny_passesOwn hp (thn (T.item X rfl rfl rfl hc i pins s3 σ3 H3 X.xe I3 (stat fr3) st3 go) fun r s4 ⟨u,hr,h4⟩=>?_)
  subst hr
  refine wpAny_passesOwn hp (thn h4 fun _ s5 ⟨x,H5,I5,r5,y5,st5,fr5⟩=>?_)
  have I5':=I5.pinned (stat fr5) (T.obj _ _ st5)
  refine wpAny_passesOwn hp (thn (hg _ s5 σ3 H5 x u _ I5' r5 (step x H5 y5)) fun _ s6 ⟨σ6,H6,I6,q6⟩=>?_)
  refine wpAny_passesOwn hp (thn (hb _ s6 σ6 H6 _ I6 q6) fun f s7 q7=>?_)
  have again:∀ {σ7:St} {H7:Hp},Inv X (pins++rE fp s5.heap) σ7 H7 s7→N σ7 H7→∃ m,m<n∧∃ i σ' H',Inv X pins σ' H' s7∧tn i s7.heap∧(∀ b∈fp,H' b=none)∧W i m σ' H':=fun {σ7 H7} I7 n7=>by
   obtain ⟨m',hm,w7⟩:=hN σ7 H7 n7
   refine ⟨m',hm,i+1,σ7,H7,I7.unpinned,T.keep _ _ _ st5 fun b hb o e=>(I7.pin (b,o) (List.mem_append_right _ (List.mem_append_right _ (tJ hb e)))).1,fun b hb=>?_,w7⟩
   obtain ⟨o,e,d⟩:=T.obj _ _ st5 b hb
   exact (I7.pin (b,o) (List.mem_append_right _ (List.mem_append_right _ (tJ hb e)))).2.1
  cases f with
  | next=>obtain ⟨σ7,H7,I7,n7⟩:=q7; exact again I7 n7
  | cont=>obtain ⟨σ7,H7,I7,n7⟩:=q7; exact again I7 n7
  | brk=>obtain ⟨σ7,H7,I7,q7⟩:=q7; exact ⟨σ7,H7,I7.unpinned,q7⟩
  | ret v=>obtain ⟨x7,σ7,H7,I7,r7,q7⟩:=q7; exact ⟨x7,σ7,H7,I7.unpinned,r7,q7⟩
end
theorem qZ {K:PySem.W.Frag} {a:Addr} {xs:List V} {g:TG} {tb:TS} {D:Ends} {σ:St} {H:Hp} (Pv:Nat→St→Hp→Prop) (h0:Pv 0 σ H) (hl:∀ i σ H,i≤xs.length→Pv i σ H→SqL K H a xs)
  (hs:∀ i x σ H,xs[i]? = some x→Pv i σ H→g x σ H fun σ2 H2=>tb { D with nx:=Pv (i+1),ct:=Pv (i+1),bk:=D.nx } σ2 H2) (hd:∀ σ H,Pv xs.length σ H→D.nx σ H):
  ∃ W:Nat→Nat→St→Hp→Prop,(∃ m,W 0 m σ H)∧∀ i m σ H,W i m σ H→
   ((Itl K a).stop i H∧D.nx σ H)∨((Itl K a).go i H∧∃ N:St→Hp→Prop,(∀ σ' H',N σ' H'→∃ m',m'<m∧W (i+1) m' σ' H')∧∀ x H',(Itl K a).yld i H x H'→g x σ H' fun σ2 H2=>tb { D with nx:=N,ct:=N,bk:=D.nx } σ2 H2):=by
 refine ⟨fun i m σ H=>m=xs.length - i∧i≤xs.length∧Pv i σ H,⟨xs.length,by simp,Nat.zero_le _,h0⟩,?_⟩
 rintro i m σ H ⟨rfl,hi,p⟩
 have q:=hl i σ H hi p
 by_cases hlt:i<xs.length
 ·refine .inr ⟨⟨xs,xs[i],q,by simp [hlt]⟩,Pv (i+1),fun σ' H' p'=>⟨xs.length - (i+1),by omega,rfl,hlt,p'⟩,fun x H' y=>?_⟩
  obtain ⟨e,y⟩:=y
  subst e
  exact hs i x σ _ (y xs q) p
 ·have e:i=xs.length:=by omega
  subst e
  exact .inl ⟨⟨xs,q,Nat.le_refl _⟩,hd σ H p⟩
theorem sT {lo:Int} {n:Nat} {g:TG} {tb:TS} {D:Ends} {σ:St} {H:Hp} (Pv:Nat→St→Hp→Prop) (h0:Pv 0 σ H)
  (hs:∀ i σ H,i<n→Pv i σ H→g (.int (lo+i)) σ H fun σ2 H2=>tb { D with nx:=Pv (i+1),ct:=Pv (i+1),bk:=D.nx } σ2 H2) (hd:∀ σ H,Pv n σ H→D.nx σ H):
  ∃ W:Nat→Nat→St→Hp→Prop,(∃ m,W 0 m σ H)∧∀ i m σ H,W i m σ H→
   ((Itr lo n).stop i H∧D.nx σ H)∨((Itr lo n).go i H∧∃ N:St→Hp→Prop,(∀ σ' H',N σ' H'→∃ m',m'<m∧W (i+1) m' σ' H')∧∀ x H',(Itr lo n).yld i H x H'→g x σ H' fun σ2 H2=>tb { D with nx:=N,ct:=N,bk:=D.nx } σ2 H2):=by
 refine ⟨fun i m σ H=>m=n - i∧i≤n∧Pv i σ H,⟨n,by simp,Nat.zero_le _,h0⟩,?_⟩
 rintro i m σ H ⟨rfl,hi,p⟩
 by_cases hlt:i<n
 ·refine .inr ⟨hlt,Pv (i+1),fun σ' H' p'=>⟨n - (i+1),by omega,rfl,hlt,p'⟩,fun x H' y=>?_⟩
  obtain ⟨e,y⟩:=y
  subst e y
  exact hs i σ _ hlt p
 ·have e:i=n:=by omega
  subst e
  exact .inl ⟨Nat.le_refl _,hd σ H p⟩
end L2
namespace L2
open PySem PySem.Spec PyProof.Rows
abbrev R2:=V→V→Hp→VK→Prop
def OpR (X:Cx) (f:Value→Value→Sem Value) (r:R2):Prop:=
 ∀ (pins:List (Addr × Obj)) (s:Shared) (σ:St) (H:Hp) (x y:V) (v u:Value) (Q:VK),Inv X pins σ H s→RelV x v→RelV y u→r x y H Q→
  wpAny (model X.prog X.w) X.A (f v u) (EP X pins σ Q) X.xe s
def UnR (X:Cx) (f:Value→Sem Value) (r:V→Hp→VK→Prop):Prop:=
 ∀ (pins:List (Addr × Obj)) (s:Shared) (σ:St) (H:Hp) (x:V) (v:Value) (Q:VK),Inv X pins σ H s→RelV x v→r x H Q→
  wpAny (model X.prog X.w) X.A (f v) (EP X pins σ Q) X.xe s
def CallR (X:Cx) (f:Value) (r:List V→Hp→VK→Prop):Prop:=
 ∀ (pins:List (Addr × Obj)) (s:Shared) (σ:St) (H:Hp) (xs:List V) (us:List Value) (Q:VK),Inv X pins σ H s→Vals xs us→r xs H Q→
  wpAny (model X.prog X.w) X.A (call f us) (EP X pins σ Q) X.xe s
def Uz (X:Cx) (r:V→Hp→(Bool→Hp→Prop)→Prop):Prop:=
 ∀ (pins:List (Addr × Obj)) (s:Shared) (σ:St) (H:Hp) (x:V) (v:Value) (Q:Bool→Hp→Prop),Inv X pins σ H s→RelV x v→r x H Q→
  wpAny (model X.prog X.w) X.A (truthy v) (TP X pins σ Q) X.xe s
def tOp (r:R2) (ta tb:TE):TE:=fun σ H Q=>ta σ H fun x H1=>tb σ H1 fun y H2=>r x y H2 Q
def tUn (r:V→Hp→VK→Prop) (ta:TE):TE:=fun σ H Q=>ta σ H fun x H1=>r x H1 Q
def rI (C:Int→Int→Prop) (g:Int→Int→V):R2:=fun x y H Q=>∃ i j,x=.int i∧y=.int j∧C i j∧Q (g i j) H
def rI0 (g:Int→Int→V):R2:=fun x y H Q=>∃ i j,x=.int i∧y=.int j∧Q (g i j) H
def rU (g:Int→V):V→Hp→VK→Prop:=fun x H Q=>∃ i,x=.int i∧Q (g i) H
section
variable {X:Cx} {a b c:Expr} {ta tb tc:TE} {pos:Pos}
theorem YK (ha:PE X a ta) (hb:PE X b tb) {pins:List (Addr × Obj)} {s:Shared} {σ:St} {H:Hp} {R:V→V→Hp→Prop} (I:Inv X pins σ H s)
  (h:ta σ H fun x H1=>tb σ H1 fun y H2=>R x y H2) {Q:Value→Shared→Prop} {f:Value→Value→Sem Value}
  (hf:∀ v u s2 x y H2,Inv X pins σ H2 s2→RelV x v→RelV y u→R x y H2→wpAny (model X.prog X.w) X.A (f v u) Q X.xe s2):
  wpAny (model X.prog X.w) X.A (eval a X.env) (fun v s₁=>wpAny (model X.prog X.w) X.A (eval b X.env) (fun u s₂=>wpAny (model X.prog X.w) X.A (f v u) Q X.xe s₂) X.xe s₁) X.xe s:=by
 refine thn (ha pins s σ H _ I h) fun v s1 ⟨x,H1,I1,r1,q1⟩=>?_
 refine thn (hb pins s1 σ H1 _ I1 q1) fun u s2 ⟨y,H2,I2,r2,q2⟩=>?_
 exact hf v u s2 x y H2 I2 r1 r2 q2
theorem eV {op:Operator} {r:R2} (ho:OpR X (binaryOp op) r) (ha:PE X a ta) (hb:PE X b tb):PE X (.BinOp a op b pos) (tOp r ta tb):=by
 intro pins s σ H Q I h
 exact wpAny_BinOp (YK ha hb I h fun v u s2 x y H2 I2 rx ry q=>ho pins s2 σ H2 x y v u Q I2 rx ry q)
theorem Xi {op:UnaryOp} {r:V→Hp→VK→Prop} (ho:UnR X (unaryOp op) r) (ha:PE X a ta):PE X (.UnaryOp op a pos) (tUn r ta):=by
 intro pins s σ H Q I h
 exact UnaryOp_ (thn (ha pins s σ H _ I h) fun v s1 ⟨x,H1,I1,r1,q1⟩=>ho pins s1 σ H1 x v Q I1 r1 q1)
theorem opI {f:Value→Value→Sem Value} {C:Int→Int→Prop} {g:Int→Int→Int}
  (rule:∀ (i j:Int) (t u:Tok) (s:Shared) (Q:Value→Shared→Prop) (E:Value→Shared→Prop),C i j→Q (.int (g i j) s.toks) { s with toks:=s.toks+1 }→wpAny (model X.prog X.w) X.A (f (.int i t) (.int j u)) Q E s):
  OpR X f (rI C fun i j=>.int (g i j)):=by
 intro pins s σ H x y v u Q I rx ry h
 obtain ⟨i,j,rfl,rfl,hc,q⟩:=h
 obtain ⟨t,rfl⟩:=rx
 obtain ⟨t',rfl⟩:=ry
 exact rule i j t t' s _ _ hc ⟨.int (g i j),H,I.tok _,⟨_,rfl⟩,q⟩
theorem Xs {f:Value→Value→Sem Value} {g:Int→Int→Int}
  (rule:∀ (i j:Int) (t u:Tok) (s:Shared) (Q:Value→Shared→Prop) (E:Value→Shared→Prop),Q (.int (g i j) s.toks) { s with toks:=s.toks+1 }→wpAny (model X.prog X.w) X.A (f (.int i t) (.int j u)) Q E s):
  OpR X f (rI0 fun i j=>.int (g i j)):=by
 intro pins s σ H x y v u Q I rx ry h
 obtain ⟨i,j,rfl,rfl,q⟩:=h
 obtain ⟨t,rfl⟩:=rx
 obtain ⟨t',rfl⟩:=ry
 exact rule i j t t' s _ _ ⟨.int (g i j),H,I.tok _,⟨_,rfl⟩,q⟩
theorem io {f:Value→Value→Sem Value} {g:Int→Int→Bool}
  (rule:∀ (i j:Int) (t u:Tok) (s:Shared) (Q:Value→Shared→Prop) (E:Value→Shared→Prop),Q (.bool (g i j)) s→wpAny (model X.prog X.w) X.A (f (.int i t) (.int j u)) Q E s):
  OpR X f (rI0 fun i j=>.bl (g i j)):=by
 intro pins s σ H x y v u Q I rx ry h
 obtain ⟨i,j,rfl,rfl,q⟩:=h
 obtain ⟨t,rfl⟩:=rx
 obtain ⟨t',rfl⟩:=ry
 exact rule i j t t' s _ _ ⟨.bl (g i j),H,I,rfl,q⟩
def n0 (i j:Int):Prop:=j≠0∧j.natAbs<1073741824
def YR (i j:Int):Prop:=0≤j∧j≤1000000∧i.natAbs<2 ^ 64
def CMul (i j:Int):Prop:=(-(2 ^ 64)<i∧i<2 ^ 64)∨(-(2 ^ 64)<j∧j<2 ^ 64)
theorem CMul.ok {i j:Int} (h:CMul i j):IntMulOk i j:=by
 rcases h with ⟨h1,h2⟩ | ⟨h1,h2⟩
 ·exact .of_left (intBits_le_64 h1 h2)
 ·exact .of_right (intBits_le_64 h1 h2)
theorem cn:OpR X (binaryOp .Add) (rI0 fun i j=>.int (i+j)):=Xs fun _ _ _ _ _ _ _ q=>add_int q
theorem cj:OpR X (binaryOp .Sub) (rI0 fun i j=>.int (i - j)):=Xs fun _ _ _ _ _ _ _ q=>sub_int q
theorem lP:OpR X (binaryOp .FloorDiv) (rI n0 fun i j=>.int (i.fdiv j)):=opI fun _ _ _ _ _ _ _ hc q=>floordiv_int hc.1 q (.inl (PyProof.noPylong_small hc.2))
theorem ik:OpR X (binaryOp .Mod) (rI (fun _ j=>j≠0) fun i j=>.int (i.fmod j)):=opI fun _ _ _ _ _ _ _ hc q=>mod_int' hc q
theorem cm:OpR X (binaryOp .Pow) (rI YR fun i j=>.int (i ^ j.toNat)):=opI fun _ _ _ _ _ _ _ hc q=>pow_int_small hc.1 hc.2.1 hc.2.2 q
theorem unI {f:Value→Sem Value} {g:Int→Int}
  (rule:∀ (i:Int) (t:Tok) (s:Shared) (Q:Value→Shared→Prop) (E:Value→Shared→Prop),Q (.int (g i) s.toks) { s with toks:=s.toks+1 }→wpAny (model X.prog X.w) X.A (f (.int i t)) Q E s):
  UnR X f (rU fun i=>.int (g i)):=by
 intro pins s σ H x v Q I rx h
 obtain ⟨i,rfl,q⟩:=h
 obtain ⟨t,rfl⟩:=rx
 exact rule i t s _ _ ⟨.int (g i),H,I.tok _,⟨_,rfl⟩,q⟩
theorem dH:UnR X (unaryOp .USub) (rU fun i=>.int (-i)):=unI fun _ _ _ _ _ q=>neg_int q
end
def VL:V→V→Bool
 | .non,.non=>true | .non,.int _=>true | .int _,.non=>true | .non,.bl _=>true | .bl _,.non=>true | .non,.str _=>true | .str _,.non=>true
 | .int _,.int _=>true | .bl _,.bl _=>true | .str _,.str _=>true | .byt _,.byt _=>true
 | .int _,.str _=>true | .str _,.int _=>true | .bl _,.str _=>true | .str _,.bl _=>true
 | _,_=>false
def rEq:R2:=fun x y H Q=>VL x y=true∧Q (.bl (decide (x=y))) H
theorem eo {i j:Int}:decide (V.int i=V.int j)=(i == j):=by
 rw [Bool.eq_iff_iff]
 simp
theorem Yw {i j:Bool}:decide (V.bl i=V.bl j)=(i == j):=by
 rw [Bool.eq_iff_iff]
 simp
theorem eh {i j:Str}:decide (V.str i=V.str j)=(i == j):=by
 rw [Bool.eq_iff_iff]
 simp
theorem eA {i j:Array UInt8}:decide (V.byt i=V.byt j)=(i.toList == j.toList):=by
 rw [Bool.eq_iff_iff]
 cases i
 cases j
 simp
section
variable {X:Cx} {a b c:Expr} {ta tb tc:TE} {pos:Pos}
theorem ym {pins:List (Addr × Obj)} {σ:St} {H:Hp} {s:Shared} {Q:VK} {k k':Bool} (I:Inv X pins σ H s) (q:Q (.bl k) H) (e:k=k'):EP X pins σ Q (.bool k') s:=by
 subst e
 exact ⟨.bl k,H,I,rfl,q⟩
theorem Xr:OpR X (compareOp .Eq) rEq:=by
 intro pins s σ H x y v u Q I rx ry h
 obtain ⟨hs,q⟩:=h
 cases x with
 | non=>
  cases rx
  cases y with
  | non=>cases ry; exact PySem.EqNone.eq_none_none (ym I q (by simp))
  | bl j=>cases ry; exact PySem.EqNone.eq_none_bool (ym I q (by simp))
  | int j=>obtain ⟨t',rfl⟩:=ry; exact PySem.EqNone.eq_none_int (ym I q (by simp))
  | str j=>obtain ⟨t',rfl⟩:=ry; exact PySem.EqNone.eq_none_str (ym I q (by simp))
  | _=>exact absurd (show false=true from hs) Bool.false_ne_true
 | bl i=>
  cases rx
  cases y with
  | non=>cases ry; exact PySem.EqNone.eq_bool_none (ym I q (by simp))
  | bl j=>cases ry; exact eq_bool (ym I q Yw)
  | str j=>obtain ⟨t',rfl⟩:=ry; exact PySem.EqMixed.eq_bool_str (ym I q (by simp))
  | _=>exact absurd (show false=true from hs) Bool.false_ne_true
 | int i=>
  obtain ⟨t,rfl⟩:=rx
  cases y with
  | non=>cases ry; exact PySem.EqNone.eq_int_none (ym I q (by simp))
  | int j=>obtain ⟨t',rfl⟩:=ry; exact eq_int (ym I q eo)
  | str j=>obtain ⟨t',rfl⟩:=ry; exact PySem.EqMixed.eq_int_str (ym I q (by simp))
  | _=>exact absurd (show false=true from hs) Bool.false_ne_true
 | str i=>
  obtain ⟨t,rfl⟩:=rx
  cases y with
  | non=>cases ry; exact PySem.EqNone.eq_str_none (ym I q (by simp))
  | bl j=>cases ry; exact PySem.EqMixed.eq_str_bool (ym I q (by simp))
  | int j=>obtain ⟨t',rfl⟩:=ry; exact PySem.EqMixed.eq_str_int (ym I q (by simp))
  | str j=>obtain ⟨t',rfl⟩:=ry; exact eq_str (ym I q eh)
  | _=>exact absurd (show false=true from hs) Bool.false_ne_true
 | byt i=>
  obtain ⟨t,rfl⟩:=rx
  cases y with
  | byt j=>obtain ⟨t',rfl⟩:=ry; exact PySem.W.eq_bytes (ym I q eA)
  | _=>exact absurd (show false=true from hs) Bool.false_ne_true
 | _=>cases y <;> exact absurd (show false=true from hs) Bool.false_ne_true
theorem Xn:OpR X (compareOp .Lt) (rI0 fun i j=>.bl (decide (i<j))):=io fun _ _ _ _ _ _ _ q=>lt_int q
theorem Xo:OpR X (compareOp .LtE) (rI0 fun i j=>.bl (decide (i≤j))):=io fun _ _ _ _ _ _ _ q=>le_int q
theorem Xp:OpR X (compareOp .Gt) (rI0 fun i j=>.bl (decide (j<i))):=io fun _ _ _ _ _ _ _ q=>gt_int q
theorem Xq:OpR X (compareOp .GtE) (rI0 fun i j=>.bl (decide (j≤i))):=io fun _ _ _ _ _ _ _ q=>ge_int q
theorem OpR.or {f:Value→Value→Sem Value} {r r':R2} (h:OpR X f r) (h':OpR X f r'):OpR X f (fun x y H Q=>r x y H Q∨r' x y H Q):=by
 intro pins s σ H x y v u Q I rx ry q
 rcases q with q | q
 ·exact h pins s σ H x y v u Q I rx ry q
 ·exact h' pins s σ H x y v u Q I rx ry q
theorem zm (b:Expr) {op:CmpOp} (h:op≠.In:=by decide) (h2:op≠.NotIn:=by decide):behindInMarks op b=false:=by
 have e1:(op == CmpOp.In)=false:=by cases op <;> first | rfl | exact absurd rfl h
 have e2:(op == CmpOp.NotIn)=false:=by cases op <;> first | rfl | exact absurd rfl h2
 cases b <;> simp [behindInMarks,e1,e2]
theorem ig {op:CmpOp} {r:R2} (ho:OpR X (compareOp op) r) (ha:PE X a ta) (hb:PE X b tb) (hm:behindInMarks op b=false):PE X (.Compare a [op] [b] pos) (tOp r ta tb):=by
 intro pins s σ H Q I h
 exact wpAny_Compare1 (YK ha hb I h fun v u s2 x y H2 I2 rx ry q=>ho pins s2 σ H2 x y v u Q I2 rx ry q) hm
def lj (t:TE):TT:=fun σ H Q=>t σ H fun x H'=>∃ k,x=.bl k∧Q k H'
theorem jZ {op:CmpOp} {r:R2} (ho:OpR X (compareOp op) r) (ha:PE X a ta) (hb:PE X b tb) (hm:behindInMarks op b=false):PT X (.Compare a [op] [b] pos) (lj (tOp r ta tb)):=by
 intro pins s σ H Q I h
 refine wpAny_isTrue_Compare1 (thn (ha pins s σ H _ I h) fun v s1 ⟨x,H1,I1,r1,q1⟩=>thn (hb pins s1 σ H1 _ I1 q1) fun u s2 ⟨y,H2,I2,r2,q2⟩=>
  thn (ho pins s2 σ H2 x y v u _ I2 r1 r2 q2) fun c s3 ⟨z,H3,I3,r3,k,e,q3⟩=>?_) hm
 subst e
 cases r3
 exact wpAny_truthy_bool ⟨H3,I3,q3⟩
def ln (r r':R2) (ta tb tc:TE):TE:=fun σ H Q=>ta σ H fun x H1=>tb σ H1 fun y H2=>r x y H2 fun z H3=>∃ k,z=.bl k∧
 (if k=true then tc σ H3 fun w' H4=>r' y w' H4 Q else Q (.bl false) H3)
theorem lF {op op':CmpOp} {r r':R2} (ho:OpR X (compareOp op) r) (ho':OpR X (compareOp op') r') (ha:PE X a ta) (hb:PE X b tb) (hc:PE X c tc)
  (hm:lastMarks [op,op'] [b,c]=false:=by with_unfolding_all rfl):PT X (.Compare a [op,op'] [b,c] pos) (lj (ln r r' ta tb tc)):=by
 intro pins s σ H Q I h
 refine isTrue_chain (thn (ha pins s σ H _ I h) fun v s1 ⟨x,H1,I1,r1,q1⟩=>test_link (thn (hb pins s1 σ H1 _ I1 q1) fun u s2 ⟨y,H2,I2,r2,q2⟩=>
  thn (ho pins s2 σ H2 x y v u _ I2 r1 r2 q2) fun d s3 ⟨z,H3,I3,r3,k,e,q3⟩=>?_)) hm
 subst e
 cases r3
 refine wpAny_truthy_bool ?_
 cases k with
 | false=>
  obtain ⟨k',e',q'⟩:=q3
  cases e'
  exact ite_ff ⟨H3,I3,q'⟩
 | true=>
  refine ite_tt (test_last (thn (hc pins s3 σ H3 _ I3 q3) fun w' s4 ⟨z',H4,I4,r4,q4⟩=>thn (ho' pins s4 σ H4 y z' u w' _ I4 r2 r4 q4) fun d' s5 ⟨z2,H5,I5,r5,k2,e2,q5⟩=>?_))
  subst e2
  cases r5
  exact wpAny_truthy_bool ⟨H5,I5,q5⟩
def Vo (K:PySem.W.Frag) (x:V) (H:Hp) (k:Bool):Prop:=
 match x with
 | .non=>k=false
 | .bl b=>k=b
 | .int i=>k=(i != 0)
 | .str y=>y.length≤sizeLine∧k=((y.length:Int) != 0)
 | .byt y=>y.size≤sizeLine∧k=((y.size:Int) != 0)
 | .ref p=>(∃ xs,SqL K H p xs∧k=!xs.isEmpty)∨(∃ xs,SqT K H p xs∧k=!xs.isEmpty)∨∃ kvs,H p=some (.dK kvs)∧k=!kvs.isEmpty
 | _=>False
theorem oC {κ:Type} {kvs:List (κ × V)} {vs:List (κ × Value)} (r:KV kvs vs):(!vs.isEmpty)=!kvs.isEmpty:=by
 cases r <;> rfl
theorem tL {xs:List V} {its:List Value} (r:Vals xs its):(!its.toArray.isEmpty)=!xs.isEmpty:=by
 cases r <;> simp
theorem w6:(sizeLine:Nat)<2 ^ 63:=by rw [sizeLine_eq]; decide
theorem dI:Uz X (fun x H Q=>∃ k,Vo X.K x H k∧Q k H):=by
 intro pins s σ H x v Q I rx h
 obtain ⟨k,e,q⟩:=h
 have hl:=w6
 have hs:sizeLine=16777216:=sizeLine_eq
 cases x with
 | non=>
  cases rx
  have e':k=false:=e
  subst e'
  exact truthy_none ⟨H,I,q⟩
 | bl b=>
  cases rx
  have e':k=b:=e
  subst e'
  exact wpAny_truthy_bool ⟨H,I,q⟩
 | int i=>
  obtain ⟨t,rfl⟩:=rx
  have e':k=(i != 0):=e
  subst e'
  exact PySem.P.truthy_int ⟨H,I,q⟩
 | str y=>
  obtain ⟨t,rfl⟩:=rx
  obtain ⟨hy,e'⟩:y.length≤sizeLine∧k=((y.length:Int) != 0):=e
  subst e'
  exact PySem.P.truthy_str (by omega) ⟨H,I.tok _,q⟩
 | byt y=>
  obtain ⟨t,rfl⟩:=rx
  obtain ⟨hy,e'⟩:y.size≤sizeLine∧k=((y.size:Int) != 0):=e
  subst e'
  exact PySem.W.truthy_bytes (by omega) ⟨H,I.tok _,q⟩
 | ref p=>
  cases rx
  have e':(∃ xs,SqL X.K H p xs∧k=!xs.isEmpty)∨(∃ xs,SqT X.K H p xs∧k=!xs.isEmpty)∨∃ kvs,H p=some (.dK kvs)∧k=!kvs.isEmpty:=e
  rcases e' with ⟨xs,hx,e'⟩ | ⟨xs,hx,e'⟩ | ⟨kvs,hx,e'⟩
  ·subst e'
   obtain ⟨its,r,pl,hz⟩:=I.list hx
   have hlen:=r.length
   exact wpAny_truthy_list pl.isList (by simp only [List.size_toArray]; omega) ⟨H,I.tok _,by rw [tL r]; exact q⟩
  ·subst e'
   obtain ⟨its,r,pl,hz⟩:=I.tuple hx
   have hlen:=r.length
   exact truthy_tuple pl (by simp only [List.size_toArray]; omega) ⟨H,I.tok _,by rw [tL r]; exact q⟩
  ·subst e'
   obtain ⟨hz,hS,vs,r,m⟩:kvs.length≤sizeLine∧(p == sysModules)=false∧∃ vs,KV kvs vs∧s.heap.DictOf (rS X.prog X.w) p vs:=I.hok p _ hx
   have hlen:kvs.length=vs.length:=Paired.length r
   exact wpAny_truthy_dict hS m (by omega) ⟨H,I.tok _,by rw [oC r]; exact q⟩
 | _=>exact (show False from e).elim
theorem qF (ha:PE X a ta) (he:∀ yA,isTrue a X.env yA=(do let v ← yA; standAt a.pos; holding [v] (truthy v))):
  PT X a (fun σ H Q=>ta σ H fun x H'=>∃ k,Vo X.K x H' k∧Q k H'):=by
 intro pins s σ H Q I h
 exact isTrue_plain (thn (ha pins s σ H _ I h) fun v s1 ⟨x,H1,I1,r1,q1⟩=>dI pins s1 σ H1 x v Q I1 r1 q1) (he _)
theorem m_ {x:V} {us:List Value} (r:Vals [x] us):∃ u,us=[u]∧RelV x u:=by
 cases r with
 | cons r1 r2=>cases r2; exact ⟨_,rfl,r1⟩
theorem eM {x y:V} {us:List Value} (r:Vals [x,y] us):∃ u w',us=[u,w']∧RelV x u∧RelV y w':=by
 cases r with
 | cons r1 r2=>
  cases r2 with
  | cons r3 r4=>cases r4; exact ⟨_,_,rfl,r1,r3⟩
theorem jt:CallR X (.builtin "abs") (fun xs H Q=>∃ i,xs=[.int i]∧Q (.int (if i<0 then -i else i)) H):=by
 intro pins s σ H xs us Q I r h
 obtain ⟨i,rfl,q⟩:=h
 obtain ⟨u,rfl,t,rfl⟩:=m_ r
 exact call_abs_int fun u tk=>⟨.int (if i<0 then -i else i),H,I.tok _,⟨_,rfl⟩,q⟩
theorem mT (hc:X.calm=true):CallR X (.builtin "max") (fun xs H Q=>∃ i j,xs=[.int i,.int j]∧Q (.int (if j>i then j else i)) H):=by
 intro pins s σ H xs us Q I r h
 obtain ⟨i,j,rfl,q⟩:=h
 obtain ⟨u,w',rfl,⟨t,rfl⟩,⟨t',rfl⟩⟩:=eM r
 refine max_two_ints (I.ok.hd hc) fun h' tk k=>⟨_,H,I.kept k,?_,q⟩
 by_cases hj:j>i
 ·rw [if_pos hj,if_pos hj]; exact ⟨_,rfl⟩
 ·rw [if_neg hj,if_neg hj]; exact ⟨_,rfl⟩
theorem mS (hc:X.calm=true):CallR X (.builtin "min") (fun xs H Q=>∃ i j,xs=[.int i,.int j]∧Q (.int (if j<i then j else i)) H):=by
 intro pins s σ H xs us Q I r h
 obtain ⟨i,j,rfl,q⟩:=h
 obtain ⟨u,w',rfl,⟨t,rfl⟩,⟨t',rfl⟩⟩:=eM r
 refine min_two_ints (I.ok.hd hc) fun h' tk k=>⟨_,H,I.kept k,?_,q⟩
 by_cases hj:j<i
 ·rw [if_pos hj,if_pos hj]; exact ⟨_,rfl⟩
 ·rw [if_neg hj,if_neg hj]; exact ⟨_,rfl⟩
end
end L2
namespace L2
open PySem PySem.Spec PyProof.Rows
structure ObjM (h:Heap) (x dx C:Addr) (mA:Str→Option Value):Prop where
 obj:h.get? x=some (PySem.W.instObj C dx)
 ns:h.Ns1 dx mA
 ne:dx≠x
theorem mF {h:Heap} {dx:Addr} {mA:Str→Option Value} (n:h.Ns1 dx mA):∃ od,h.get? dx=some od∧∀ name,PySem.W.lookIn name od=some (mA name):=by
 obtain ⟨o,es,ep,ho,hd,hk,_,hm⟩:=n
 refine ⟨o,ho,fun name=>?_⟩
 have e:=hm name
 unfold nsFind findBy at e
 rw [← Array.find?_toList] at e
 unfold PySem.W.lookIn
 rw [hd]
 dsimp only
 split
 ·rename_i y q
  rw [q] at e
  exact congrArg some e
 ·rename_i q
  rw [q] at e
  have a:es.toList.any (·.refKey)=false:=by
   rw [List.any_eq_false]
   intro y hy
   obtain ⟨z,t,hkey⟩:=hk y (Array.mem_toList_iff.mp hy)
   simp [DictEntry.refKey,hkey]
  have a':¬ es.toList.any (·.refKey)=true:=by rw [a]; exact Bool.false_ne_true
  rw [if_neg a']
  exact congrArg some e
theorem ObjM.look {h:Heap} {x dx C:Addr} {mA:Str→Option Value} (I:ObjM h x dx C mA):∃ od,PySem.W.InstAt h x (PySem.W.instObj C dx) C (some od)∧∀ name,PySem.W.lookIn name od=some (mA name):=
 let ⟨od,ho,hl⟩:=mF I.ns
 ⟨od,⟨I.obj,rfl,rfl,ho⟩,hl⟩
section
variable {prog:Program} {w:World} {A:Around} {E:Value→Shared→Prop} {s:Shared} {K:PySem.W.Frag} {x dx C f:Addr} {mA:Str→Option Value} {name:Str} {v:Value}
theorem fK {expr:Bool} {Q:Value→Shared→Prop} (X:K.In s.heap) (I:ObjM s.heap x dx C mA) (hg:PySem.W.plainGet K C name=true) (hh:PySem.W.hasDictIn K C=true)
  (ha:PySem.W.findIn K (.ref C) name=some none) (hv:mA name=some v) (hv':PySem.W.handedIn v=true) (h:Q v { s with toks:=s.toks+1 }):
  wpAny (model prog w) A (getAttr (.ref x) name expr) Q E s:=by
 obtain ⟨od,J,hl⟩:=I.look
 exact PySem.W.get_value X J (PySem.W.plainGet_of hg).1 (PySem.W.findObj_own hh ha rfl (by rw [hl,hv])) hv' h
theorem kG {pl:Sem Bool} {Q:Value × List Value→Shared→Prop} (X:K.In s.heap) (I:ObjM s.heap x dx C mA) (hg:PySem.W.plainGet K C name=true)
  (hf:PySem.W.findIn K (.ref C) name=some (some (.ref f))) (ht:PySem.W.isFn K (.ref f)=true) (hv:mA name=none) (h:Q (.ref f,[.ref x]) s):
  wpAny (model prog w) A (getMethod (.ref x) name pl) Q E s:=by
 obtain ⟨od,J,hl⟩:=I.look
 exact PySem.W.method_fn X J (PySem.W.plainGet_of hg).1 (PySem.W.plainGet_of hg).2 hf (beq_iff_eq.mp ht) (by show (PySem.W.lookIn name od).map (·.isSome)=some false; rw [hl,hv]; rfl) h
theorem jQ {ns:List Str} {Q:Unit→Shared→Prop} (X:K.In s.heap) (I:ObjM s.heap x dx C mA)
  (hs:PySem.W.findIn K (.ref C) "__setattr__"=some (some (.builtin "object.__setattr__"))) (hp:PySem.W.plainOver K C=true) (ht:PySem.W.takerIn K C name=some none) (hh:PySem.W.hasDictIn K C=true)
  (hw:PySem.Within mA ns) (hsz:ns.length≤sizeLine)
  (h:∀ h',ObjM h' x dx C (fun y=>if y=name then some v else mA y)→Heap.SameBut dx s.heap h'→Q () { s with heap:=h',toks:=s.toks+2 }):
  wpAny (model prog w) A (setAttr (.ref x) name v) Q E s:=by
 obtain ⟨od,J,hl⟩:=I.look
 refine PySem.W.set_plain X J hs (PySem.W.osa_open (s:={ s with toks:=s.toks+1 }) (r:=none) X J hp ht fun b=>?_)
 obtain ⟨cd,hc,hd'⟩:=PySem.W.any_some hh
 have hx:s.heap.get? x=some ⟨.ref C,some dx,.plain,#[]⟩:=I.obj
 refine wpAny_bind (wpAny_pure (wpAny_bind (wpAny_bind (wpAny_loadPart hx (wpAny_bind (PySem.W.Looks.here (s:={ s with toks:=s.toks+1 }) (PySem.W.looks_clsIn X hc) ?_))))))
 rw [hd']
 refine wpAny_pure (a:=some dx) (wpAny_bind (wpAny_pure (wpAny_bind ?_)))
 refine wpAny_nsSet1 (s:={ s with toks:=s.toks+1 }) I.ns fun h' hn2 hs2=>?_
 obtain ⟨oD,esD,epD,hoD,hdD,hcD⟩:=hn2.count (PySem.Within.cons name v hw)
 refine wpAny_bind (wpAny_lookBehind hoD (by rw [hdD]; exact pastItsLine_dict (Nat.le_trans hcD (by rw [List.length_cons]; omega))) ?_)
 exact wpAny_pure (h _ ⟨(hs2.2 _ (Ne.symm I.ne)).trans I.obj,hn2,I.ne⟩ hs2)
theorem kv {R:Result→Shared→Prop} {vs:List Value} {kw:List (Str × Value)} (X:K.In s.heap) (hm:PySem.W.makesIn K C=true)
  (hi:PySem.W.findIn K (.ref C) "__init__"=some (some (.ref f))) (hf:PySem.W.typeIn K (.ref f)=some (.type "function"))
  (h:codeAny (model prog w) (A.under (.builtin "type.__call__" ⟨.ref C::vs,kw⟩)) (.call (.ref f) ⟨.ref (s.heap.objs.size+1)::vs,kw⟩) (PySem.W.InitBack (s.heap.objs.size+1) R)
   { s with heap:=(s.heap.push PySem.W.emptyDict).push (PySem.W.instObj C s.heap.objs.size) }):
  codeAny (model prog w) A (.call (.ref C) ⟨vs,kw⟩) R s:=by
 obtain ⟨hh,g,d,t,os⟩:=s
 exact PySem.W.make_core (PySem.W.makes_of X hm) (PySem.W.looks_findIn X hi) (fun self=>PySem.W.bind_fn X self hf) (.inl rfl) h
end
def wR (f:Str) (v:V):List (Str × V)→List (Str × V)
 | []=>[(f,v)]
 | (g,x)::r=>if g=f then (g,v)::r else (g,x)::wR f v r
theorem uf (f g:Str) (v:V):∀ fs:List (Str × V),(wR f v fs).lookup g=if g=f then some v else fs.lookup g
 | []=>by
  show List.lookup g [(f,v)]=_
  by_cases h:g=f
  ·have hb:(g == f)=true:=beq_iff_eq.mpr h
   simp only [List.lookup,hb,if_pos h]
  ·have hb:(g == f)=false:=beq_eq_false_iff_ne.mpr h
   simp only [List.lookup,hb,if_neg h]
 | (k,x)::r=>by
  have ih:=uf f g v r
  rw [show wR f v ((k,x)::r)=(if k=f then (k,v)::r else (k,x)::wR f v r) from rfl]
  by_cases hk:k=f
  ·rw [if_pos hk]
   by_cases h:g=k
   ·have hb:(g == k)=true:=beq_iff_eq.mpr h
    simp only [List.lookup,hb,if_pos (h.trans hk)]
   ·have hb:(g == k)=false:=beq_eq_false_iff_ne.mpr h
    simp only [List.lookup,hb,if_neg (fun e:g=f=>h (e.trans hk.symm))]
  ·rw [if_neg hk]
   by_cases h:g=k
   ·have hb:(g == k)=true:=beq_iff_eq.mpr h
    simp only [List.lookup,hb,if_neg (fun e:g=f=>hk (h.symm.trans e))]
   ·have hb:(g == k)=false:=beq_eq_false_iff_ne.mpr h
    simp only [List.lookup,hb]
    exact ih
theorem vW (f:Str) (v:V):∀ fs:List (Str × V),f∈(wR f v fs).map (·.1)∧∀ g,g∈fs.map (·.1)→g∈(wR f v fs).map (·.1)
 | []=>⟨by simp [wR],fun g h=>by simp at h⟩
 | (k,x)::r=>by
  obtain ⟨i1,i2⟩:=vW f v r
  rw [show wR f v ((k,x)::r)=(if k=f then (k,v)::r else (k,x)::wR f v r) from rfl]
  by_cases hk:k=f
  ·rw [if_pos hk]
   subst hk
   exact ⟨by simp,fun g h=>by simpa using h⟩
  ·rw [if_neg hk]
   refine ⟨?_,fun g h=>?_⟩
   ·rw [List.map_cons]
    exact List.mem_cons_of_mem _ i1
   ·rw [List.map_cons] at h ⊢
    rcases List.mem_cons.mp h with e | e
    ·exact List.mem_cons.mpr (.inl e)
    ·exact List.mem_cons_of_mem _ (i2 g e)
theorem uh (f:Str) (v:V):∀ fs:List (Str × V),(wR f v fs).length≤fs.length+1
 | []=>by simp [wR]
 | (k,x)::r=>by
  have ih:=uh f v r
  rw [show wR f v ((k,x)::r)=(if k=f then (k,v)::r else (k,x)::wR f v r) from rfl]
  by_cases hk:k=f
  ·rw [if_pos hk,List.length_cons,List.length_cons]; omega
  ·rw [if_neg hk,List.length_cons,List.length_cons]; omega
theorem RelO.some_of {v:V} {o:Option Value} (r:RelO (some v) o):∃ u,o=some u∧RelV v u:=by
 cases o with
 | none=>exact (show False from r).elim
 | some u=>exact ⟨u,rfl,r⟩
theorem RelO.none_of {o:Option Value} (r:RelO none o):o=none:=by
 cases o with
 | none=>rfl
 | some u=>exact (show False from r).elim
theorem mM {v:V} {u:Value} (r:RelV v u):PySem.W.handedIn u=true:=by
 cases v with
 | non=>cases (show u=Value.none from r); rfl
 | bl b=>cases (show u=Value.bool b from r); rfl
 | int i=>obtain ⟨t,e⟩:=(show ∃ t,u=Value.int i t from r); cases e; rfl
 | str x=>obtain ⟨t,e⟩:=(show ∃ t,u=Value.str x t from r); cases e; rfl
 | byt b=>obtain ⟨t,e⟩:=(show ∃ t,u=Value.bytes b t from r); cases e; rfl
 | flt b=>obtain ⟨t,e⟩:=(show ∃ t,u=Value.float b t from r); cases e; rfl
 | ref a=>cases (show u=Value.ref a from r); rfl
 | ty n=>cases (show u=Value.type n from r); rfl
section
variable {P:Program} {w:World} {H H':Hp} {h h':Heap} {a C dx:Addr} {fs fs':List (Str × V)}
theorem uH (hok:HOk P w H h) (e:H a=some (.ins C dx fs)):∃ mA,ObjM h a dx C mA∧(∀ f,RelO (fs.lookup f) (mA f))∧PySem.Within mA (fs.map (·.1))∧fs.length≤1000∧H dx=some (.own a):=by
 obtain ⟨d,z,ne,ob,mA,n,r,q⟩:=(show ObjOk P w H h a (.ins C dx fs) from hok a _ e)
 exact ⟨mA,⟨ob,n,ne⟩,r,q,z,d⟩
end
structure Cls (K:PySem.W.Frag) (C:Addr):Prop where
 pg:PySem.W.plainGet K C Str.empty=true
 hd:PySem.W.hasDictIn K C=true
 po:PySem.W.plainOver K C=true
 sa:PySem.W.findIn K (.ref C) "__setattr__"=some (some (.builtin "object.__setattr__"))
theorem Cls.get {K:PySem.W.Frag} {C:Addr} (c:Cls K C) (f:Str):PySem.W.plainGet K C f=true:=c.pg
def NoAttr (K:PySem.W.Frag) (C:Addr) (f:Str):Prop:=PySem.W.findIn K (.ref C) f=some none
theorem NoAttr.taker {K:PySem.W.Frag} {C:Addr} {f:Str} (n:NoAttr K C f):PySem.W.takerIn K C f=some none:=by
 unfold PySem.W.takerIn
 rw [show PySem.W.findIn K (.ref C) f=some none from n]
 rfl
structure eJ (K:PySem.W.Frag) (C:Addr) (m:Str) (f:Addr):Prop where
 at_:PySem.W.findIn K (.ref C) m=some (some (.ref f))
 fn:PySem.W.isFn K (.ref f)=true
 kp:PySem.W.keepIn K (.ref f)=true
section
variable {X:Cx} {pins:List (Addr × Obj)} {σ:St} {H:Hp} {s:Shared} {a C dx:Addr} {fs:List (Str × V)} {f:Str} {v:V} {A:Around} {E:Value→Shared→Prop}
theorem oJ {b:Bool} {Q:Value→Shared→Prop} (I:Inv X pins σ H s) (e:H a=some (.ins C dx fs)) (c:Cls X.K C) (n:NoAttr X.K C f) (l:fs.lookup f=some v)
  (h:∀ u s',Inv X pins σ H s'→RelV v u→Q u s'):wpAny (model X.prog X.w) A (getAttr (.ref a) f b) Q E s:=by
 obtain ⟨mA,O,r,_,_,_⟩:=uH I.hok e
 obtain ⟨u,hu,ru⟩:=RelO.some_of (v:=v) (o:=mA f) (by rw [← l]; exact r f)
 exact fK I.kIn O (c.get f) c.hd n hu (mM ru) (h u _ (I.tok _) ru)
theorem tM {m:Str} {g:Addr} {pl:Sem Bool} {Q:Value × List Value→Shared→Prop} (I:Inv X pins σ H s) (e:H a=some (.ins C dx fs)) (c:Cls X.K C) (k:eJ X.K C m g) (l:fs.lookup m=none)
  (h:Q (.ref g,[.ref a]) s):wpAny (model X.prog X.w) A (getMethod (.ref a) m pl) Q E s:=by
 obtain ⟨mA,O,r,_,_,_⟩:=uH I.hok e
 have hn:mA m=none:=RelO.none_of (by rw [← l]; exact r m)
 exact kG I.kIn O (c.get m) k.at_ k.fn hn h
theorem pS {y:V} {u:Value} {Q:Unit→Shared→Prop} (I:Inv X pins σ H s) (e:H a=some (.ins C dx fs)) (c:Cls X.K C) (n:NoAttr X.K C f) (hl:fs.length<1000) (ry:RelV y u)
  (h:∀ s',Inv X pins σ (upd H a (.ins C dx (wR f y fs))) s'→Q () s'):wpAny (model X.prog X.w) A (setAttr (.ref a) f u) Q E s:=by
 obtain ⟨mA,O,r,wi,_,ho⟩:=uH I.hok e
 have hz:(fs.map (·.1)).length≤sizeLine:=by rw [List.length_map,sizeLine_eq]; omega
 refine jQ I.kIn O c.sa c.po n.taker c.hd wi hz fun h' O' sb=>h _ ?_
 have hd:∃ o,h'.get? dx=some o:=let ⟨o,_,_,e',_⟩:=O'.ns; ⟨o,e'⟩
 refine I.write (x:=a) (e:=dx) (by rw [e]; exact True.intro) (.inr ho) (fun b q hb z=>(sb.2 b hb).trans z) hd ?_
 refine ⟨by rw [zw O.ne]; exact ho,?_,O.ne,O'.obj,_,O'.ns,fun g=>?_,fun g hg=>?_⟩
 ·have:=uh f y fs; omega
 ·show RelO ((wR f y fs).lookup g) (if g=f then some u else mA g)
  rw [uf]
  by_cases q:g=f
  ·rw [if_pos q,if_pos q]; exact ry
  ·rw [if_neg q,if_neg q]; exact r g
 ·by_cases q:g=f
  ·rw [q]; exact (vW f y fs).1
  ·refine (vW f y fs).2 g (wi g fun z=>hg ?_)
   show (if g=f then some u else mA g)=none
   rw [if_neg q]; exact z
theorem Inv.made (I:Inv X pins σ H s):Inv X pins σ (upd (upd H s.heap.objs.size (.own (s.heap.objs.size+1))) (s.heap.objs.size+1) (.ins C s.heap.objs.size []))
  { s with heap:=(s.heap.push PySem.W.emptyDict).push (PySem.W.instObj C s.heap.objs.size) }:=by
 have e1:(s.heap.push PySem.W.emptyDict).get? s.heap.objs.size=some PySem.W.emptyDict:=Heap.get?_push_size s.heap rfl
 have e2:((s.heap.push PySem.W.emptyDict).push (PySem.W.instObj C s.heap.objs.size)).get? (s.heap.objs.size+1)=some (PySem.W.instObj C s.heap.objs.size):=by
  have:=Heap.get?_push_size (s.heap.push PySem.W.emptyDict) (o:=PySem.W.instObj C s.heap.objs.size) rfl
  rwa [Heap.size_push] at this
 have e3:(s.heap.push PySem.W.emptyDict).Ns s.heap.objs.size (fun _=>none):=⟨PySem.W.emptyDict,#[],_,e1,rfl,(fun e he=>absurd he (by simp)),fun _=>rfl⟩
 have I1:=I.laid (a:=s.heap.objs.size) (o:=.own (s.heap.objs.size+1)) (h':=s.heap.push PySem.W.emptyDict) (t':=s.toks) (fun b u q=>Heap.get?_push_of_some _ q) (Nat.le_refl _) ⟨_,e1⟩
 refine I1.laid (a:=s.heap.objs.size+1) (o:=.ins C s.heap.objs.size []) (t':=s.toks) (fun b u q=>Heap.get?_push_of_some _ q) (Nat.le_of_eq (Heap.size_push _ _)) ?_
 have ne:s.heap.objs.size≠s.heap.objs.size+1:=Nat.ne_of_lt (Nat.lt_succ_self _)
 refine ⟨by rw [zw ne,zu],Nat.zero_le _,ne,e2,fun _=>none,(Heap.Ns1.of_empty e3).at fun o q=>Heap.get?_push_of_some _ q,fun _=>True.intro,fun y hy=>absurd rfl hy⟩
theorem eH {prog:Program} {w:World} {env:Env} {e:Expr} {f:Str} {pos:Pos} {s:Shared} {Q:Value→Shared→Prop} (hb:attributeBase e f env (eval e env)=eval e env)
  (h:wpAny (model prog w) A (eval e env) (fun o s₁=>wpAny (model prog w) A (getAttr o f true) Q E s₁) E s):wpAny (model prog w) A (eval (.Attribute e f pos) env) Q E s:=
 Attribute_any_ h (by rw [arm_eval_Attribute,hb])
end
def VG (K:PySem.W.Frag) (ta:TE) (f:Str):TE:=fun σ H Q=>ta σ H fun x H1=>∃ a C dx fs v,x=.ref a∧H1 a=some (.ins C dx fs)∧Cls K C∧NoAttr K C f∧fs.lookup f=some v∧Q v H1
def Xc (K:PySem.W.Frag) (ta tv:TE) (f:Str):TS:=fun D σ H=>tv σ H fun y H1=>ta σ H1 fun x H2=>∃ a C dx fs,x=.ref a∧H2 a=some (.ins C dx fs)∧Cls K C∧NoAttr K C f∧fs.length<1000∧
 D.nx σ (upd H2 a (.ins C dx (wR f y fs)))
section
variable {X:Cx} {o e value:Expr} {f:Str} {pos pos' tpos:Pos} {ta tv:TE}
theorem cf (he:PE X e ta) (hb:attributeBase e f X.env (eval e X.env)=eval e X.env):PE X (.Attribute e f pos) (VG X.K ta f):=by
 intro pins s σ H Q I h
 refine eH hb (thn (he pins s σ H _ I h) fun u s1 ⟨x,H1,I1,rx,a,C,dx,fs,v,ex,ea,c,n,l,q⟩=>?_)
 subst ex
 obtain rfl:u=Value.ref a:=rx
 exact oJ I1 ea c n l fun u' s2 I2 ru=>⟨v,H1,I2,ru,q⟩
theorem vO (ha:PE X o ta) (hv:PE X value tv) (hs:swapsWith value (some (.Attribute o f pos')) pos.line X.env=pure false):PS X (.Assign [.Attribute o f pos'] value pos) (Xc X.K ta tv f):=by
 intro pins s σ H D I h
 refine plainObj_wpAny_Assign_Attribute (thn (hv pins s σ H _ I h) fun u s1 ⟨y,H1,I1,ry,q⟩=>thn (ha pins s1 σ H1 _ I1 q) fun ov s2 ⟨x,H2,I2,rx,a,C,dx,fs,ex,ea,c,n,l,q2⟩=>?_) hs
 subst ex
 obtain rfl:ov=Value.ref a:=rx
 exact pS I2 ea c n l ry fun s3 I3=>⟨σ,_,I3,q2⟩
end
section
variable {X:Cx} {pins:List (Addr × Obj)} {σ:St} {H:Hp} {s:Shared} {A:Around} {E:Value→Shared→Prop} {Q:Value→Shared→Prop} {c:Value} {b:Bool}
inductive vb (K:PySem.W.Frag) (H:Hp):V→Value→Prop where
 | non:vb K H .non (.type "NoneType")
 | bl (x:Bool):vb K H (.bl x) (.type "bool")
 | int (i:Int):vb K H (.int i) (.type "int")
 | str (x:Str):vb K H (.str x) (.type "str")
 | flt (x:UInt64):vb K H (.flt x) (.type "float")
 | lst {a:Addr} {xs:List V} (e:H a=some (.lst xs)):vb K H (.ref a) (.type "list")
 | frz {a:Addr} {o:Obj} {xs:List V} (e:H a=some (.frz o (.lst xs))):vb K H (.ref a) (.type "list")
 | tup {a:Addr} {xs:List V} (e:H a=some (.tup xs)):vb K H (.ref a) (.type "tuple")
 | dK {a:Addr} {kvs:List (Key × V)} (e:H a=some (.dK kvs)):vb K H (.ref a) (.type "dict")
 | dT {a:Addr} {kvs:List (List Key × V)} (e:H a=some (.dT kvs)):vb K H (.ref a) (.type "dict")
 | ins {a C dx:Addr} {fs:List (Str × V)} (e:H a=some (.ins C dx fs)) (cl:Cls K C) (ha:PySem.W.findIn K (.ref C) "__class__"=some (some (.builtin "object.__class__")))
   (hn:PySem.W.specialIn K (.builtin "object.__class__") "__get__"=some (some (.builtin "getset_descriptor.__get__"))) (htk:PySem.W.takesIn K (.builtin "object.__class__")=some true)
   (hm:PySem.W.mroIn K C (.type "object")=some true):vb K H (.ref a) (.ref C)
theorem sR {x:V} {u t:Value} (I:Inv X pins σ H s) (rx:RelV x u) (ty:vb X.K H x t) (e:PySem.W.kitOne X.K t c=some b) (h:∀ tk,Q (.bool b) { s with toks:=tk }):
  wpAny (model X.prog X.w) A (call (.builtin "isinstance") [u,c]) Q E s:=by
 cases ty with
 | non=>cases (show u=Value.none from rx); exact PySem.W.kia_one PySem.W.kitx_none I.kIn True.intro e (fun z=>nomatch z) h
 | bl y=>cases (show u=Value.bool y from rx); exact PySem.W.kia_one PySem.W.kitx_bool I.kIn True.intro e (fun z=>nomatch z) h
 | int i=>obtain ⟨t,q⟩:=(show ∃ t,u=Value.int i t from rx); cases q; exact PySem.W.kia_one PySem.W.kitx_int I.kIn True.intro e (fun z=>nomatch z) h
 | str y=>obtain ⟨t,q⟩:=(show ∃ t,u=Value.str y t from rx); cases q; exact PySem.W.kia_one PySem.W.kitx_str I.kIn True.intro e (fun z=>nomatch z) h
 | flt y=>obtain ⟨t,q⟩:=(show ∃ t,u=Value.float y t from rx); cases q; exact PySem.W.kia_one PySem.W.kitx_float I.kIn True.intro e (fun z=>nomatch z) h
 | @lst a xs ea=>
  cases (show u=Value.ref a from rx)
  obtain ⟨_,_,n,_,h1⟩:=(show ObjOk X.prog X.w H s.heap a (.lst xs) from I.hok a _ ea)
  exact PySem.W.kia_one PySem.W.kitx_list I.kIn ⟨_,h1,rfl⟩ e (fun z=>nomatch z) h
 | @frz a ob xs ea=>
  cases (show u=Value.ref a from rx)
  obtain ⟨_,_,_,n,_,h1⟩:=(show ObjOk X.prog X.w H s.heap a (.frz ob (.lst xs)) from I.hok a _ ea)
  exact PySem.W.kia_one PySem.W.kitx_list I.kIn ⟨_,h1,rfl⟩ e (fun z=>nomatch z) h
 | @tup a xs ea=>
  cases (show u=Value.ref a from rx)
  obtain ⟨_,_,_,p⟩:=(show ObjOk X.prog X.w H s.heap a (.tup xs) from I.hok a _ ea)
  obtain ⟨o,h1,h2,_⟩:=p
  exact PySem.W.kia_one PySem.W.kitx_tuple I.kIn ⟨o,h1,h2⟩ e (fun z=>nomatch z) h
 | @dK a kvs ea=>
  cases (show u=Value.ref a from rx)
  obtain ⟨_,_,vs,_,p⟩:=(show ObjOk X.prog X.w H s.heap a (.dK kvs) from I.hok a _ ea)
  obtain ⟨o,es,ep,h1,h2,_⟩:=p
  exact PySem.W.kia_one PySem.W.kitx_dict I.kIn ⟨o,h1,h2.1⟩ e (fun z=>nomatch z) h
 | @dT a kvs ea=>
  cases (show u=Value.ref a from rx)
  obtain ⟨_,_,xs,_,o,es,ep,h1,h2,_⟩:=(show ObjOk X.prog X.w H s.heap a (.dT kvs) from I.hok a _ ea)
  exact PySem.W.kia_one PySem.W.kitx_dict I.kIn ⟨o,h1,h2.1⟩ e (fun z=>nomatch z) h
 | @ins a C dx fs ea cl ha hn htk hm=>
  cases (show u=Value.ref a from rx)
  obtain ⟨mA,O,_⟩:=uH I.hok ea
  obtain ⟨od,J,_⟩:=O.look
  exact PySem.W.kia_one (PySem.W.kitx_own (cl.get _) cl.hd ha hn htk hm) I.kIn J e (fun z=>nomatch z) h
end
end L2
namespace L2
open PySem PySem.Spec PyProof.Rows
structure Room (k:Nat) (A:Around):Prop where
 hd:A.handled=none
 dp:A.depth+3*k+5<recursionLimit
 un:A.units+16*k+200<cLine
theorem Room.mono {j k:Nat} {A:Around} (r:Room k A) (h:j≤k):Room j A:=⟨r.hd,by have:=r.dp; omega,by have:=r.un; omega⟩
theorem Room.deeper {k:Nat} {A:Around} (r:Room (k+1) A) (env:Env):Room k (A.deeper env):=
 ⟨r.hd,by have:=r.dp; show A.depth+1+3*k+5<_; omega,by have:=r.un; show A.units+3+16*k+200<_; omega⟩
theorem Room.in1 {k:Nat} {A:Around} (r:Room (k+1) A):Room k A.in1:=
 ⟨r.hd,by have:=r.dp; show A.depth+3*k+5<_; omega,by have:=r.un; show A.units+1+16*k+200<_; omega⟩
theorem oA {A:Around} {C:Addr} {us:List Value} {kw:List (Str × Value)}:(A.under (.builtin "type.__call__" ⟨.ref C::us,kw⟩)).depth=A.depth+1:=by
 first | rfl | simp [Around.under,Code.weight,Code.isCreation,Code.isGuard,Code.isCaller,Code.frames,Code.isFrame,guardIds]
theorem oz {A:Around} {C:Addr} {us:List Value} {kw:List (Str × Value)}:(A.under (.builtin "type.__call__" ⟨.ref C::us,kw⟩)).units=A.units+1:=by
 first | rfl | simp [Around.under,Code.cUnits,Code.frames,Code.isFrame]
theorem Room.make {k:Nat} {A:Around} (r:Room (k+1) A) (C:Addr) (us:List Value) (kw:List (Str × Value)):Room k (A.under (.builtin "type.__call__" ⟨.ref C::us,kw⟩)):=
 ⟨r.hd,by have:=r.dp; rw [oA]; omega,by have:=r.un; rw [oz]; omega⟩
theorem Room.depth {k:Nat} {A:Around} (r:Room k A):A.depth<recursionLimit:=by have:=r.dp; omega
theorem Room.units {k:Nat} {A:Around} (r:Room k A):A.units+64<cLine:=by have:=r.un; omega
def YY:TA:=fun _ H Q=>Q [] H
def Y8 (ta:TE) (tr:TA):TA:=fun σ H Q=>ta σ H fun x H1=>tr σ H1 fun xs H2=>Q (x::xs) H2
section
variable {X:Cx} {e:Expr} {es:List Expr} {te:TE} {t:TA} {pos:Pos}
theorem yf:PA X [] YY:=fun _ _ _ _ H Q I h=>Calls.spliced_nil ⟨[],H,I,.nil,h⟩
theorem zE (ha:PE X e te) (hr:PA X es t) (hs:starEach (e::es) X.env=(false,eval e X.env)::starEach es X.env:=by rfl):PA X (e::es) (Y8 te t):=by
 intro pos pins s σ H Q I h
 rw [hs]
 show wpAny _ _ (spliced ((false,eval e X.env)::backTo pos (starEach es X.env))) _ _ s
 refine Calls.spliced_cons (thn (ha pins s σ H _ I h) fun u s1 ⟨x,H1,I1,r1,q1⟩=>?_)
 exact thn (hr pos pins s1 σ H1 _ I1 q1) fun us s2 ⟨xs,H2,I2,r2,q2⟩=>⟨x::xs,H2,I2,.cons r1 r2,q2⟩
def Vy (t:TA):TE:=fun σ H Q=>t σ H fun xs H1=>xs.length≤sizeLine∧∀ p,H1 p=none→Q (.ref p) (upd H1 p (.tup xs))
def VD (t:TA):TE:=fun σ H Q=>t σ H fun xs H1=>xs.length≤sizeLine∧∀ p,H1 p=none→Q (.ref p) (upd H1 p (.lst xs))
theorem oe {x1} (h:PA X es t):PE X (.Tuple es x1 pos) (Vy t):=by
 intro pins s σ H Q I hq
 refine wpAny_Tuple_spliced (thn (h pos pins s σ H _ I hq) fun us s1 ⟨xs,H1,I1,r,z,q⟩=>⟨by rw [← r.length]; exact z,?_⟩)
 have hf:H1 s1.heap.objs.size=none:=I1.hok.fresh (Nat.le_refl _)
 refine ⟨.ref s1.heap.objs.size,upd H1 s1.heap.objs.size (.tup xs),I1.laid (t':=s1.toks) (fun b u e=>Heap.get?_push_of_some _ e) (Nat.le_refl _) ?_,rfl,q _ hf⟩
 exact ⟨z,us,r,⟨_,Heap.get?_push_size _ rfl,rfl,_,rfl⟩⟩
theorem lN (h:PA X es t):PE X (.List es pos) (VD t):=by
 intro pins s σ H Q I hq
 refine wpAny_List_spliced (thn (h pos pins s σ H _ I hq) fun us s1 ⟨xs,H1,I1,r,z,q⟩=>⟨by rw [← r.length]; exact z,?_⟩)
 have hf:H1 s1.heap.objs.size=none:=I1.hok.fresh (Nat.le_refl _)
 refine ⟨.ref s1.heap.objs.size,upd H1 s1.heap.objs.size (.lst xs),I1.laid (t':=s1.toks) (fun b u e=>Heap.get?_push_of_some _ e) (Nat.le_refl _) ?_,rfl,q _ hf⟩
 exact ⟨z,us,0,r,Heap.get?_push_size _ rfl⟩
end
abbrev Sp:=List V→Hp→VK→XK→Prop
abbrev CXT:=List Env→Hp→Shared→XK→Value→Shared→Prop
structure Env0 (P:Program) (w:World) (K:PySem.W.Frag) (mg:Str→Option Value) (base:Heap) (A:Around) (outer:List Env) (s:Shared) (H:Hp):Prop where
 frames:A.frames=some outer
 mod:Mod K mg base
 bs:∀ b o,base.get? b=some o→s.heap.get? b=some o∧H b=none
 bsz:base.objs.size≤s.heap.objs.size
 funs:s.heap.FunFrames base outer
 frf:∀ b∈frs outer,H b=none
 hok:HOk P w H s.heap
 bare:AllBare s.gens
def CE (outer:List Env) (P:Program) (w:World) (H:Hp) (s:Shared) (Q:VK) (u:Value) (s':Shared):Prop:=
 ∃ v H',s'.os=s.os∧AllBare s'.gens∧Un (frs outer) [] H H' s.heap s'.heap∧HOk P w H' s'.heap∧RelV v u∧Q v H'
def CR (CX:CXT) (outer:List Env) (P:Program) (w:World) (H:Hp) (s:Shared) (Q:VK) (E:XK) (r:Result) (s':Shared):Prop:=
 match r with
 | .ok (.ret u)=>CE outer P w H s Q u s'
 | .ok _=>False
 | .error e=>CX outer H s E e s'
structure FnOk (P:Program) (w:World) (K:PySem.W.Frag) (mg:Str→Option Value) (base:Heap) (CX:CXT) (k:Nat) (f:Addr) (fd:FuncData) (ps:List Str) (sp:Sp):Prop where
 len:∀ vs H Q E,sp vs H Q E→vs.length=ps.length
 run:∀ (A:Around) (outer:List Env) (s:Shared) (H:Hp) (args:Args) (us:List Value) (vs:List V) (Q:VK) (E:XK),Room k A→Env0 P w K mg base A outer s H→BindsTo s fd args (ps.zip us)→Vals vs us→sp vs H Q E→
  codeAny (model P w) A (.call (.ref f) args) (CR CX outer P w H s Q E) s
theorem FnOk.mono {P:Program} {w:World} {K:PySem.W.Frag} {mg:Str→Option Value} {base:Heap} {CX:CXT} {j k:Nat} {f:Addr} {fd:FuncData} {ps:List Str} {sp:Sp} (F:FnOk P w K mg base CX j f fd ps sp) (h:j≤k):
  FnOk P w K mg base CX k f fd ps sp:=⟨F.len,fun A outer s H args us vs Q E hr=>F.run A outer s H args us vs Q E (hr.mono h)⟩
theorem FnOk.imp {P:Program} {w:World} {K:PySem.W.Frag} {mg:Str→Option Value} {base:Heap} {CX:CXT} {k:Nat} {f:Addr} {fd:FuncData} {ps:List Str} {sp sp':Sp} (F:FnOk P w K mg base CX k f fd ps sp)
  (h:∀ vs H Q E,sp' vs H Q E→sp vs H Q E):FnOk P w K mg base CX k f fd ps sp':=
 ⟨fun vs H Q E q=>F.len vs H Q E (h _ _ _ _ q),fun A outer s H args us vs Q E hr he hb hv hs=>F.run A outer s H args us vs Q E hr he hb hv (h _ _ _ _ hs)⟩
theorem Env0.make {P:Program} {w:World} {K:PySem.W.Frag} {mg:Str→Option Value} {base:Heap} {A:Around} {outer:List Env} {s:Shared} {H:Hp} (e:Env0 P w K mg base A outer s H) (C:Addr) (us:List Value) (kw:List (Str × Value)):
  Env0 P w K mg base (A.under (.builtin "type.__call__" ⟨.ref C::us,kw⟩)) outer s H:=⟨by first | exact e.frames | (simpa [Around.under,Code.envs,Code.isFrame,pushEnvs] using e.frames),e.mod,e.bs,e.bsz,e.funs,e.frf,e.hok,e.bare⟩
theorem Env0.in1 {P:Program} {w:World} {K:PySem.W.Frag} {mg:Str→Option Value} {base:Heap} {A:Around} {outer:List Env} {s:Shared} {H:Hp} (e:Env0 P w K mg base A outer s H):
  Env0 P w K mg base A.in1 outer s H:=⟨e.frames,e.mod,e.bs,e.bsz,e.funs,e.frf,e.hok,e.bare⟩
section
variable {X:Cx} {pins:List (Addr × Obj)} {σ:St} {H:Hp} {s s':Shared}
theorem Inv.env0 (I:Inv X pins σ H s):Env0 X.prog X.w X.K X.mg X.base X.A X.stack s H:=
 ⟨I.ok.frames,I.ok.mod,I.bs,Nat.le_trans I.ok.bsz I.sz,I.stack,I.stkFree,I.hok,I.bare⟩
theorem Inv.after {Q:VK} {u:Value} (I:Inv X pins σ H s) (h:CE X.stack X.prog X.w H s Q u s'):EP X pins σ Q u s':=by
 obtain ⟨v,H',os,bare,un,hok,r,q⟩:=h
 obtain ⟨hh,g,d,t,os'⟩:=s'
 obtain rfl:os'=s.os:=os
 exact ⟨v,H',I.call (h':=hh) (g':=g) (d':=d) (t':=t) (ch:=[]) un hok bare (fun b z=>absurd z (by simp)),r,q⟩
end
def Y9 (sp:Sp) (dvs:List V) (E:XK) (t:TA):TE:=fun σ H Q=>t σ H fun vs H1=>sp (vs++dvs) H1 Q E
def Y4 (C:Addr) (sp:Sp) (dvs:List V) (E:XK) (t:TA):TE:=fun σ H Q=>t σ H fun vs H1=>∀ x dx,H1 x=none→H1 dx=none→dx≠x→
 sp (.ref x::(vs++dvs)) (upd (upd H1 dx (.own x)) x (.ins C dx [])) (fun v H2=>v=.non∧Q (.ref x) H2) E
def Binds (K:PySem.W.Frag) (fd:FuncData) (ps:List Str) (ds:List Value):Prop:=
 ∀ (s:Shared) (us:List Value),K.In s.heap→(us++ds).length=ps.length→BindsTo s fd ⟨us,[]⟩ (ps.zip (us++ds))
theorem Binds.all {K:PySem.W.Frag} {fd:FuncData} {ps:List Str} (h:∀ us:List Value,us.length=ps.length→bindArgs fd ⟨us,[]⟩=pure (ps.zip us)):Binds K fd ps []:=fun s us _ hl=>by
 rw [List.append_nil] at hl ⊢
 exact .of_eq (h us hl)
def ud (CX:CXT) (X:Cx) (E:XK):Prop:=∀ (pins:List (Addr × Obj)) (σ:St) (H:Hp) (s:Shared) (e:Value) (s':Shared),Inv X pins σ H s→CX X.stack H s E e s'→X.xe e s'
section
variable {X:Cx} {CX:CXT} {k:Nat} {f C:Addr} {fd:FuncData} {ps:List Str} {sp:Sp} {dvs:List V} {ds:List Value} {E:XK} {x m:Str} {p pos apos:Pos} {e o:Expr} {es:List Expr} {ta:TE} {t:TA}
theorem p7 {pins:List (Addr × Obj)} {σ:St} {H:Hp} {s:Shared} {Q:VK} {us:List Value} {vs:List V} (F:FnOk X.prog X.w X.K X.mg X.base CX k f fd ps sp) (hr:Room k X.A) (hb:Binds X.K fd ps ds) (hd:Vals dvs ds) (hx:ud CX X E)
  (I:Inv X pins σ H s) (r:Vals vs us) (h:sp (vs++dvs) H Q E):wpAny (model X.prog X.w) X.A (call (.ref f) us) (EP X pins σ Q) X.xe s:=by
 have r2:Vals (vs++dvs) (us++ds):=r.append hd
 have hl:(us++ds).length=ps.length:=by rw [← r2.length]; exact F.len _ _ _ _ h
 refine wpAny_call (codeAny_mono (F.run X.A X.stack s H ⟨us,[]⟩ (us++ds) (vs++dvs) Q E hr I.env0 (hb s us I.kIn hl) r2 h) fun r s' hq=>?_)
 cases r with
 | error e=>exact hx pins σ H s e s' I hq
 | ok fl=>
  cases fl with
  | ret u=>exact I.after hq
  | next=>exact False.elim hq
  | brk=>exact False.elim hq
  | cont=>exact False.elim hq
theorem xL (F:FnOk X.prog X.w X.K X.mg X.base CX k f fd ps sp) (hr:Room k X.A) (hg:Gl X x) (hm:X.mg x=some (.ref f)) (hk:PySem.W.keepIn X.K (.ref f)=true) (hb:Binds X.K fd ps ds) (hd:Vals dvs ds) (hx:ud CX X E)
  (ha:PA X (e::es) t) (hdb:(x == ("__debug__":Str))=false:=by decide) (he:starEach (e::es) X.env=(false,eval e X.env)::starEach es X.env:=by rfl) (hpl:(backTo pos (starEach es X.env)).any (·.1)=false:=by rfl):
  PE X (.Call (.Name x p) (e::es) [] pos) (Y9 sp dvs E t):=by
 intro pins s σ H Q I h
 refine wpAny_Call_Name_kw (uG I hg hm ?_ hdb)
 refine PySem.W.callWith_K (h₀:=X.base) I.ok.mod.kin hk (thn (ha pos pins s σ H _ I h) fun us s1 ⟨vs,H1,I1,r,q⟩=>⟨I1.kIn,?_⟩) he hpl
 exact p7 F hr hb hd hx I1 r q
structure Mk (K:PySem.W.Frag) (C f:Addr):Prop where
 makes:PySem.W.makesIn K C=true
 init:PySem.W.findIn K (.ref C) "__init__"=some (some (.ref f))
 fn:PySem.W.isFn K (.ref f)=true
 kp:PySem.W.keepIn K (.ref C)=true
theorem ly {pins:List (Addr × Obj)} {σ:St} {H:Hp} {s:Shared} {Q:VK} {us:List Value} {vs:List V} (M:Mk X.K C f) (F:FnOk X.prog X.w X.K X.mg X.base CX k f fd ps sp) (hr:Room (k+1) X.A) (hb:Binds X.K fd ps ds) (hd:Vals dvs ds)
  (hx:ud CX X E) (I:Inv X pins σ H s) (r:Vals vs us)
  (h:∀ x dx,H x=none→H dx=none→dx≠x→sp (.ref x::(vs++dvs)) (upd (upd H dx (.own x)) x (.ins C dx [])) (fun v H2=>v=.non∧Q (.ref x) H2) E):
  wpAny (model X.prog X.w) X.A (call (.ref C) us) (EP X pins σ Q) X.xe s:=by
 have hq:=h (s.heap.objs.size+1) s.heap.objs.size (I.hok.fresh (Nat.le_succ _)) (I.hok.fresh (Nat.le_refl _)) (Nat.ne_of_lt (Nat.lt_succ_self _))
 have I2:=Inv.made (C:=C) I
 have r2:Vals (V.ref (s.heap.objs.size+1)::(vs++dvs)) (Value.ref (s.heap.objs.size+1)::(us++ds)):=.cons rfl (r.append hd)
 have hl:(Value.ref (s.heap.objs.size+1)::us++ds).length=ps.length:=by
  have e:=r2.length
  rw [F.len _ _ _ _ hq] at e
  exact e.symm
 refine wpAny_call (kv (f:=f) I.kIn M.makes M.init (beq_iff_eq.mp M.fn) (codeAny_mono (F.run _ X.stack _ _ ⟨Value.ref (s.heap.objs.size+1)::us,[]⟩ (Value.ref (s.heap.objs.size+1)::(us++ds)) _ _ E (hr.make C us [])
  (I2.env0.make C us []) (hb _ (Value.ref (s.heap.objs.size+1)::us) I2.kIn hl) r2 hq) fun r s' hq'=>?_))
 cases r with
 | error e=>exact hx pins σ _ _ e s' I2 hq'
 | ok fl=>
  cases fl with
  | ret u=>
   obtain ⟨v,H',I3,rv,ev,q3⟩:=I2.after hq'
   subst ev
   exact ⟨rv,⟨V.ref (s.heap.objs.size+1),H',I3,rfl,q3⟩⟩
  | next=>exact False.elim hq'
  | brk=>exact False.elim hq'
  | cont=>exact False.elim hq'
theorem j7 (M:Mk X.K C f) (F:FnOk X.prog X.w X.K X.mg X.base CX k f fd ps sp) (hr:Room (k+1) X.A) (hg:Gl X x) (hm:X.mg x=some (.ref C)) (hb:Binds X.K fd ps ds) (hd:Vals dvs ds) (hx:ud CX X E)
  (ha:PA X (e::es) t) (hdb:(x == ("__debug__":Str))=false:=by decide) (he:starEach (e::es) X.env=(false,eval e X.env)::starEach es X.env:=by rfl) (hpl:(backTo pos (starEach es X.env)).any (·.1)=false:=by rfl):
  PE X (.Call (.Name x p) (e::es) [] pos) (Y4 C sp dvs E t):=by
 intro pins s σ H Q I h
 refine wpAny_Call_Name_kw (uG I hg hm ?_ hdb)
 refine PySem.W.callWith_K (h₀:=X.base) I.ok.mod.kin M.kp (thn (ha pos pins s σ H _ I h) fun us s1 ⟨vs,H1,I1,r,q⟩=>⟨I1.kIn,?_⟩) he hpl
 exact ly M F hr hb hd hx I1 r q
end
section
variable {X:Cx} {CX:CXT} {k:Nat} {f C:Addr} {fd:FuncData} {ps ks:List Str} {sp:Sp} {E:XK} {x m:Str} {p pos apos kpos:Pos} {e o:Expr} {es:List Expr} {kws:List Keyword} {te ta:TE} {t tk:TA} {nm:Option Str}
variable {g:List Value→List Value→List Value} {gV:List V→List V→List V}
end
structure zg (N P:List Str) (sc:Scope):Prop where
 kind:sc.kind=.function
 co:sc.isCoroutine=false
 gen:sc.isGenerator=false
 nd:N.Nodup
 pre:N.take P.length=P
 par:∀ x∈P,sc.names.lookup x=some .local∨sc.names.lookup x=some .cell
 nofree:∀ y∈sc.names,y.2≠.free
theorem sZ {kindOf:Str→Option NameKind} {x:Str}:∀ {binds:List (Str × Value)} {m:Str→Option Value},(∀ v,(x,v)∉binds)→bindL kindOf binds m x=m x
 | [],_,_=>rfl
 | (n,v)::r,m,h=>by
  unfold bindL
  rw [sZ fun w hw=>h w (List.mem_cons_of_mem _ hw)]
  split
  ·have:x≠n:=by rintro rfl; exact h v List.mem_cons_self
   simp [this]
  ·rfl
theorem s9 {kindOf:Str→Option NameKind} {x:Str}:∀ {binds:List (Str × Value)} {m:Str→Option Value},(∀ v,(x,v)∉binds)→bindC kindOf binds m x=m x
 | [],_,_=>rfl
 | (n,v)::r,m,h=>by
  unfold bindC
  rw [s9 fun w hw=>h w (List.mem_cons_of_mem _ hw)]
  split
  ·rfl
  ·have:x≠n:=by rintro rfl; exact h v List.mem_cons_self
   simp [this]
theorem s8 {kindOf:Str→Option NameKind} {x:Str} {v:Value}:∀ {P:List Str} {vs:List Value} {i:Nat} {m:Str→Option Value},P.Nodup→P[i]? = some x→vs[i]? = some v→kindOf x=some .local→
  bindL kindOf (P.zip vs) m x=some v
 | [],_,_,_,_,h,_,_=>by simp at h
 | _::_,[],_,_,_,_,h,_=>by simp at h
 | p::P,w::vs,0,m,nd,h1,h2,hk=>by
  simp at h1 h2; subst h1; subst h2
  show bindL kindOf ((p,w)::P.zip vs) m p=_
  unfold bindL
  rw [sZ fun v hv=>(List.nodup_cons.mp nd).1 (List.of_mem_zip hv).1,if_pos hk]
  simp
 | p::P,w::vs,i+1,m,nd,h1,h2,hk=>by
  show bindL kindOf ((p,w)::P.zip vs) m x=_
  unfold bindL
  exact s8 (i:=i) (List.nodup_cons.mp nd).2 (by simpa using h1) (by simpa using h2) hk
theorem s_ {kindOf:Str→Option NameKind} {x:Str} {v:Value}:∀ {P:List Str} {vs:List Value} {i:Nat} {m:Str→Option Value},P.Nodup→P[i]? = some x→vs[i]? = some v→kindOf x≠some .local→
  bindC kindOf (P.zip vs) m x=some v
 | [],_,_,_,_,h,_,_=>by simp at h
 | _::_,[],_,_,_,_,h,_=>by simp at h
 | p::P,w::vs,0,m,nd,h1,h2,hk=>by
  simp at h1 h2; subst h1; subst h2
  show bindC kindOf ((p,w)::P.zip vs) m p=_
  unfold bindC
  rw [s9 fun v hv=>(List.nodup_cons.mp nd).1 (List.of_mem_zip hv).1,if_neg hk]
  simp
 | p::P,w::vs,i+1,m,nd,h1,h2,hk=>by
  show bindC kindOf ((p,w)::P.zip vs) m x=_
  unfold bindC
  exact s_ (i:=i) (List.nodup_cons.mp nd).2 (by simpa using h1) (by simpa using h2) hk
def start (N:List Str) (vs:List V):St:=vs.map some++List.replicate (N.length - vs.length) none
def yn (CX:CXT) (P:Program) (w:World) (K:PySem.W.Frag) (mg:Str→Option Value) (base:Heap) (N:List Str) (qual:Str) (scope:Scope) (f:Addr) (cd:Value) (A:Around) (outer:List Env) (s:Shared) (H:Hp) (E:XK):Cx where
 prog:=P
 w:=w
 K:=K
 mg:=mg
 base:=base
 A:=A.deeper (envOfC qual scope s.heap.objs.size f cd)
 N:=N
 s₀:=s
 H₀:=H
 env:=envOfC qual scope s.heap.objs.size f cd
 outer:=outer
 stack:=envOfC qual scope s.heap.objs.size f cd::outer
 ex:=[]
 calm:=true
 fn:=fun _=>true
 pn:=[]
 xe:=fun e s'=>wpAny (model P w) (A.deeper (envOfC qual scope s.heap.objs.size f cd)) (leaving (envOfC qual scope s.heap.objs.size f cd) e) (fun _ s''=>CX outer H s E e s'') (fun e' s''=>CX outer H s E e' s'') s'
theorem pD {sc:Scope} {n:Nat} {x:Str} (h:sc.names.lookup x=some .cell):∃ c,(cellsFrom n sc.names []).lookup x=some c:=by
 have q:=PySem.W.cellsFrom_some sc.names n [] (.inl h)
 exact Option.isSome_iff_exists.mp q
theorem mJ {CX:CXT} {P:Program} {w:World} {K:PySem.W.Frag} {mg:Str→Option Value} {base:Heap} {N ps:List Str} {qual:Str} {scope:Scope} {f:Addr} {cd:Value} {A:Around} {outer:List Env} {s s1:Shared} {H:Hp} {E:XK} {us:List Value} {vs:List V}
  (S:zg N ps scope) (hd:A.handled=none) (e0:Env0 P w K mg base A outer s H) (hl:vs.length=ps.length) (r:Vals vs us)
  (x:InCallC s s.heap.objs.size (bindL (envOfC qual scope s.heap.objs.size f cd).kindOf (ps.zip us) fun _=>none) (cellsFrom (s.heap.objs.size+1) scope.names []) (bindC (envOfC qual scope s.heap.objs.size f cd).kindOf (ps.zip us) fun _=>none) s1):
  Inv (yn CX P w K mg base N qual scope f cd A outer s H E) [] (start N vs) H s1:=by
 have hpl:ps.length≤N.length:=by have:=congrArg List.length S.pre; rw [List.length_take] at this; omega
 obtain ⟨h1,tk,rfl,hk⟩:=x.done
 have noA:∀ b:Addr,b∉(yn CX P w K mg base N qual scope f cd A outer s H E).ex:=fun b z=>absurd (show b∈([]:List Addr) from z) (by simp)
 refine ⟨⟨e0.mod,S.kind,rfl,rfl,Nat.le_refl _,fun y z c h1 h2=>?_,fun y hy=>?_,fun y c _ h=>?_,fun _=>hd,Around.frames_deeper e0.frames,.inr ⟨rfl,rfl⟩,fun b z=>absurd z (noA b),e0.bs,e0.bsz,fun b _ _=>noA b,fun b z=>absurd z (noA b),e0.funs,e0.frf⟩,
  rfl,e0.bare,Un.kept hk,⟨_,x.toInCall.ns,fun i y v h1 h2 h3=>?_⟩,fun y c h=>⟨_,x.cell y c h⟩,e0.hok.fresh (Nat.le_refl _),fun y c h=>?_,fun p hp=>absurd (show p∈([]:List (Addr × Obj)) from hp) (by simp),e0.hok.kept hk,?_⟩
 ·exact name_of_addr x.apart (PySem.mem_of_lookup h1) (PySem.mem_of_lookup h2)
 ·have hy:scope.names.lookup y=some .cell∨scope.names.lookup y=some .free:=hy
  rcases hy with hy | hy
  ·exact pD hy
  ·exact absurd rfl (S.nofree _ (PySem.mem_of_lookup hy))
 ·exact Nat.le_of_lt (x.above y c (PySem.mem_of_lookup h))
 ·have hi:i<vs.length:=by
   unfold start at h2
   by_cases hi:i<vs.length
   ·exact hi
   ·rw [List.getElem?_append_right (by simpa using hi)] at h2
    rw [List.getElem?_replicate] at h2
    split at h2 <;> cases h2
  have ha:vs[i]? = some v:=by
   unfold start at h2
   rw [List.getElem?_append_left (by simpa using hi),List.getElem?_map] at h2
   cases e:vs[i]? with
   | none=>rw [e] at h2; cases h2
   | some a=>rw [e] at h2; cases h2; rfl
  obtain ⟨u,hu,rv⟩:=r.get ha
  have hp:ps[i]? = some y:=by
   rw [← S.pre,List.getElem?_take_of_lt (by omega)]; exact h1
  have ndP:ps.Nodup:=by rw [← S.pre]; exact S.nd.sublist (List.take_sublist _ _)
  refine ⟨u,rv,?_⟩
  rcases S.par y (List.mem_of_getElem? hp) with k | k
  ·exact .inl ⟨k,s8 ndP hp hu k⟩
  ·obtain ⟨c,e⟩:=pD (n:=s.heap.objs.size+1) k
   refine .inr ⟨.inl k,c,e,?_⟩
   have q:=x.cell y c e
   rw [s_ ndP hp hu (by show scope.names.lookup y≠_; rw [k]; decide)] at q
   exact q
 ·exact e0.hok.fresh (Nat.le_of_lt (x.above y c (PySem.mem_of_lookup h)))
 ·unfold start
  show _=N.length
  rw [List.length_append,List.length_map,List.length_replicate]
  omega
theorem db {CX:CXT} {P:Program} {w:World} {K:PySem.W.Frag} {mg:Str→Option Value} {base:Heap} {k:Nat} {f:Addr} {name qual:Str} {params:Arguments} {body:List Stmt} {scope:Scope} {dV kV doc pm cdv ct oc:Value} {an od:Option Addr}
  {osl:Array (Option Value)} {N ps:List Str} {sp:Sp} (lk:K.lookup f=some ⟨oc,od,.func (PySem.W.fnOf name qual params body scope dV kV doc pm an cdv ct),osl⟩) (hcd:PySem.W.codeIn K cdv qual=true) (S:zg N ps scope)
  (len:∀ vs H Q E,sp vs H Q E→vs.length=ps.length)
  (hbody:∀ (A:Around) (outer:List Env) (s:Shared) (H:Hp) (vs:List V) (Q:VK) (E:XK),Room k (A.deeper (envOfC qual scope s.heap.objs.size f cdv))→sp vs H Q E→
   ∃ t,PSs (yn CX P w K mg base N qual scope f cdv A outer s H E) body t∧t { nx:=fun _ H'=>Q .non H',rt:=Q } (start N vs) H):
  FnOk P w K mg base CX (k+1) f (PySem.W.fnOf name qual params body scope dV kV doc pm an cdv ct) ps sp:=by
 refine ⟨len,fun A outer s H args us vs Q E hr e0 hb r hsp=>?_⟩
 have hl:=len _ _ _ _ hsp
 have KX:K.In s.heap:=e0.mod.kin.keeps fun b o e=>(e0.bs b o e).1
 have lim:s.heap.NoLimit:=e0.mod.nolimit.keeps fun b o e=>(e0.bs b o e).1
 have hkind:∀ y∈ps.zip us,scope.names.lookup y.1=some .local∨(scope.names.lookup y.1=some .cell∧((cellsFrom (s.heap.objs.size+1) scope.names []).lookup y.1).isSome=true):=fun ⟨n,v⟩ hy=>by
  rcases S.par n (List.of_mem_zip hy).1 with q | q
  ·exact .inl q
  ·exact .inr ⟨q,PySem.W.cellsFrom_some _ _ _ (.inl q)⟩
 refine codeAny_call_function hr.depth (KX _ _ lk) rfl S.co S.gen rfl (PySem.W.codeRec_of KX hcd) (hb _ _ _ _ ?_)
 refine wpAny_newFunctionEnv_cells S.kind hkind fun env he s1 x=>?_
 subst he
 refine ⟨lim.keeps x.toInCall.keep,codeAny_func ?_⟩
 obtain ⟨t,ht,hq⟩:=hbody A outer s H vs Q E (hr.deeper _) hsp
 have I:Inv (yn CX P w K mg base N qual scope f cdv A outer s H E) [] (start N vs) H s1:=mJ S hr.hd e0 hl r x
 refine wpAny_mono (ht [] s1 (start N vs) H _ I hq) (fun fl s' hs=>?_) fun e s' hs=>hs
 have fin:∀ {σ':St} {H':Hp} {v:V} {u:Value},Inv (yn CX P w K mg base N qual scope f cdv A outer s H E) [] σ' H' s'→RelV v u→Q v H'→CE outer P w H s Q u s':=
  fun {σ' H' v u} J rv q=>⟨v,H',J.os,J.bare,J.base,J.hok,rv,q⟩
 cases fl with
 | ret u=>
  obtain ⟨v,σ',H',J,rv,q⟩:=hs
  exact fin J rv q
 | next=>
  obtain ⟨σ',H',J,q⟩:=hs
  exact fin (v:=V.non) (u:=Value.none) J rfl q
 | brk=>
  obtain ⟨_,_,_,q⟩:=hs
  exact False.elim q
 | cont=>
  obtain ⟨_,_,_,q⟩:=hs
  exact False.elim q
end L2
namespace L2
open PySem PySem.Spec PyProof.Rows
section
variable {X:Cx} {x:Str} {p pos:Pos} {e:Expr} {es:List Expr} {t:TA} {id T:String} {r:List V→Hp→VK→Prop}
def tCB (r:List V→Hp→VK→Prop) (t:TA):TE:=fun σ H Q=>t σ H fun vs H1=>r vs H1 Q
theorem yK (hc:CallR X (.builtin id) r) (hg:Gl X x) (hm:X.mg x=none) (hv:bootBuiltins x=some (.builtin id)) (ha:PA X (e::es) t) (hn:x≠"__name__":=by decide) (hdb:(x == ("__debug__":Str))=false:=by decide)
  (he:starEach (e::es) X.env=(false,eval e X.env)::starEach es X.env:=by rfl) (hpl:(backTo pos (starEach es X.env)).any (·.1)=false:=by rfl):PE X (.Call (.Name x p) (e::es) [] pos) (tCB r t):=by
 intro pins s σ H Q I h
 refine wpAny_Call_Name_kw (wr I hg hm hv ?_ hn hdb)
 exact PyProof.Rows.callWith_builtin1 (thn (ha pos pins s σ H _ I h) fun us s1 ⟨vs,H1,I1,r1,q1⟩=>hc pins s1 σ H1 vs us Q I1 r1 q1) he hpl
theorem mw (hc:CallR X (.type T) r) (hg:Gl X x) (hm:X.mg x=none) (hv:bootBuiltins x=some (.type T)) (ha:PA X (e::es) t) (hn:x≠"__name__":=by decide) (hdb:(x == ("__debug__":Str))=false:=by decide)
  (he:starEach (e::es) X.env=(false,eval e X.env)::starEach es X.env:=by rfl) (hpl:(backTo pos (starEach es X.env)).any (·.1)=false:=by rfl):PE X (.Call (.Name x p) (e::es) [] pos) (tCB r t):=by
 intro pins s σ H Q I h
 refine wpAny_Call_Name_kw (wr I hg hm hv ?_ hn hdb)
 exact PyProof.Rows.callWith_type1 (thn (ha pos pins s σ H _ I h) fun us s1 ⟨vs,H1,I1,r1,q1⟩=>hc pins s1 σ H1 vs us Q I1 r1 q1) he hpl
end
end L2
namespace HT
open PySem PyProof.Rows
section
open PySem.SeqAt
open PySem.AutoSeq1 (wpAny_loadPart')
open PySem.MeetsSeq PySem.MeetsSeq2 PySem.MeetsSeq3
end
section
variable {prog:Program} {w:World} {A:Around} {E:Value→Shared→Prop} {s:Shared}
def sIx (n d:Nat):Option Int→Nat
 | none=>d
 | some v=>if v<0 then (v+(n:Int)).toNat else min v.toNat n
end
end HT
namespace L2
open PySem PySem.Spec PyProof.Rows
abbrev TO:=St→Hp→(Option Int→Hp→Prop)→Prop
def PO (X:Cx) (e:Option Expr) (t:TO):Prop:=
 ∀ (pins:List (Addr × Obj)) (s:Shared) (σ:St) (H:Hp) (Q:Option Int→Hp→Prop),Inv X pins σ H s→t σ H Q→
  wpAny (model X.prog X.w) X.A (evalPart e X.env) (fun u s'=>∃ o H',Inv X pins σ H' s'∧IsPart u o∧Q o H') X.xe s
def YW (t:TE):TO:=fun σ H Q=>t σ H fun x H1=>∃ i,x=.int i∧Q (some i) H1
section
variable {X:Cx} {e:Expr} {te:TE} {lo hi:Option Expr} {tl th:TO} {pos p2:Pos}
theorem j4 (h:PE X e te):PO X (some e) (YW te):=by
 intro pins s σ H Q I hw
 rw [evalPart_some]
 refine thn (h pins s σ H _ I hw) fun u s1 ⟨x,H1,I1,r1,q1⟩=>?_
 obtain ⟨i,rfl,q⟩:=q1
 obtain ⟨t,rfl⟩:=r1
 exact ⟨some i,H1,I1,.int i t,q⟩
def SlR (X:Cx) (r:V→Option Int→Option Int→Hp→VK→Prop):Prop:=
 ∀ (pins:List (Addr × Obj)) (s:Shared) (σ:St) (H:Hp) (x:V) (v vl vu:Value) (lo hi:Option Int) (sl:Addr) (Q:VK),Inv X pins σ H s→RelV x v→s.heap.IsSliceOf sl vl vu .none→IsPart vl lo→IsPart vu hi→r x lo hi H Q→
  ∃ T id,typeLookup (.type T) "__getitem__"=pure (some (.builtin id))∧s.TypeIs v T∧wpAny (model X.prog X.w) X.A (getItem v (.ref sl)) (EP X pins σ Q) X.xe s
theorem SlR.or {r r':V→Option Int→Option Int→Hp→VK→Prop} (h:SlR X r) (h':SlR X r'):SlR X (fun x lo hi H Q=>r x lo hi H Q∨r' x lo hi H Q):=by
 intro pins s σ H x v vl vu lo hi sl Q I rx hs pl pu q
 rcases q with q | q
 ·exact h pins s σ H x v vl vu lo hi sl Q I rx hs pl pu q
 ·exact h' pins s σ H x v vl vu lo hi sl Q I rx hs pl pu q
def tSl (r:V→Option Int→Option Int→Hp→VK→Prop) (te:TE) (tl th:TO):TE:=fun σ H Q=>te σ H fun x H1=>tl σ H1 fun l H2=>th σ H2 fun u H3=>r x l u H3 Q
theorem lL {r:V→Option Int→Option Int→Hp→VK→Prop} (hr:SlR X r) (he:PE X e te) (hl:PO X lo tl) (hu:PO X hi th):PE X (.Subscript e (.Slice lo hi none p2) pos) (tSl r te tl th):=by
 intro pins s σ H Q I h
 refine Subscript_ (thn (he pins s σ H _ I h) fun v s1 ⟨x,H1,I1,r1,q1⟩=>?_)
 refine wpAny_Slice (thn (hl pins s1 σ H1 _ I1 q1) fun vl s2 ⟨l,H2,I2,pl,q2⟩=>thn (hu pins s2 σ H2 _ I2 q2) fun vu s3 ⟨u,H3,I3,pu,q3⟩=>?_)
 rw [evalPart_none]
 refine wpAny_pure ?_
 have I4:Inv X pins σ H3 { s3 with heap:=s3.heap.push { cls:=.type "slice",data:=.fields #[vl,vu,.none] } }:=I3.kept (t':=s3.toks) fun b ob q=>Heap.get?_push_of_some _ q
 obtain ⟨T,id,hT,ht,hg⟩:=hr pins { s3 with heap:=s3.heap.push { cls:=.type "slice",data:=.fields #[vl,vu,.none] } } σ H3 x v vl vu l u s3.heap.objs.size Q I4 r1 (Heap.IsSliceOf.new ..) pl pu q3
 show wpAny (model X.prog X.w) X.A (subscriptTail e (.Slice lo hi none p2) v (.ref s3.heap.objs.size)) (EP X pins σ Q) X.xe { s3 with heap:=s3.heap.push { cls:=.type "slice",data:=.fields #[vl,vu,.none] } }
 exact tail_any (ops:=[.ref s3.heap.objs.size,v]) ht hT hg (by with_unfolding_all rfl)
def oV (xs:List V) (lo hi:Option Int):List V:=(xs.drop (HT.sIx xs.length 0 lo)).take (HT.sIx xs.length xs.length hi - HT.sIx xs.length 0 lo)
theorem pq (xs:List V) (lo hi:Option Int):(oV xs lo hi).length≤xs.length:=by
 unfold oV
 rw [List.length_take,List.length_drop]
 omega
end
end L2
namespace L2
open PySem PySem.Spec PyProof.Rows
def ixN (n:Nat) (i:Int):Option Nat:=if 0≤i then (if i<n then some i.toNat else none) else if -(n:Int)≤i then some (i+n).toNat else none
def atI {α:Type} (xs:List α) (i:Int):Option α:=(ixN xs.length i).bind fun j=>xs[j]?
theorem nw {n:Nat} {i:Int} {j:Nat} (h:ixN n i=some j):seqIndex? i n=some j∧j<n∧-(n:Int)≤i∧i<n:=by
 unfold ixN at h
 by_cases h0:0≤i
 ·rw [if_pos h0] at h
  by_cases h1:i<n
  ·rw [if_pos h1] at h
   have e:i.toNat=j:=Option.some.inj h
   exact ⟨by rw [seqIndex_of h0 h1,e],by omega,by omega,h1⟩
  ·rw [if_neg h1] at h; cases h
 ·rw [if_neg h0] at h
  by_cases h1:-(n:Int)≤i
  ·rw [if_pos h1] at h
   have e:(i+n).toNat=j:=Option.some.inj h
   exact ⟨by rw [seqIndex_neg (by omega) h1,e],by omega,h1,by omega⟩
  ·rw [if_neg h1] at h; cases h
theorem qf {α:Type} {xs:List α} {i:Int} {v:α} (h:atI xs i=some v):∃ j,seqIndex? i xs.length=some j∧xs[j]? = some v∧j<xs.length∧-(xs.length:Int)≤i∧i<xs.length:=by
 unfold atI at h
 cases e:ixN xs.length i with
 | none=>rw [e] at h; cases h
 | some j=>
  rw [e] at h
  obtain ⟨h1,h2,h3,h4⟩:=nw e
  exact ⟨j,h1,h,h2,h3,h4⟩
theorem xU {α:Type} {xs:List α} {j:Nat} {v:α} (h:xs[j]? = some v):atI xs (j:Int)=some v:=by
 have hj:j<xs.length:=(List.getElem?_eq_some_iff.mp h).1
 have e:ixN xs.length (j:Int)=some j:=by
  unfold ixN
  rw [if_pos (by omega),if_pos (by omega)]; simp
 unfold atI; rw [e]; exact h
theorem wB {α:Type} (xs:List α) (v:α):atI (xs++[v]) (-1)=some v:=by
 have hl:(xs++[v]).length=xs.length+1:=by simp
 have e:ixN (xs++[v]).length (-1)=some xs.length:=by
  unfold ixN
  rw [hl,if_neg (by decide),if_pos (by omega)]
  congr 1
  omega
 unfold atI
 rw [e]
 show (xs++[v])[xs.length]? = some v
 simp
def vw (b:Expr):Prop:=∀ o i,subscripted b false o i=operate [o,i] (getItem o i)
def IxR (X:Cx) (r:R2):Prop:=
 ∀ (value slice:Expr) (pins:List (Addr × Obj)) (s:Shared) (σ:St) (H:Hp) (x y:V) (v u:Value) (Q:VK),Inv X pins σ H s→RelV x v→RelV y u→r x y H Q→
  subscripted slice false v u=operate [v,u] (getItem v u)→wpAny (model X.prog X.w) X.A (subscriptTail value slice v u) (EP X pins σ Q) X.xe s
def MtR (X:Cx) (id:String) (r:V→List V→Hp→VK→Prop):Prop:=
 ∀ (pins:List (Addr × Obj)) (s:Shared) (σ:St) (H:Hp) (x:V) (xs:List V) (v:Value) (us:List Value) (Q:VK),Inv X pins σ H s→RelV x v→Vals xs us→r x xs H Q→
  wpAny (model X.prog X.w) X.A (call (.builtin id) (v::us)) (EP X pins σ Q) X.xe s
section
variable {X:Cx} {a b:Expr} {ta tb:TE} {pos:Pos}
theorem IxR.or {r r':R2} (h:IxR X r) (h':IxR X r'):IxR X (fun x y H Q=>r x y H Q∨r' x y H Q):=by
 intro value slice pins s σ H x y v u Q I rx ry q hs
 rcases q with q | q
 ·exact h value slice pins s σ H x y v u Q I rx ry q hs
 ·exact h' value slice pins s σ H x y v u Q I rx ry q hs
theorem MtR.or {id:String} {r r':V→List V→Hp→VK→Prop} (h:MtR X id r) (h':MtR X id r'):MtR X id (fun x xs H Q=>r x xs H Q∨r' x xs H Q):=by
 intro pins s σ H x xs v us Q I rx rs q
 rcases q with q | q
 ·exact h pins s σ H x xs v us Q I rx rs q
 ·exact h' pins s σ H x xs v us Q I rx rs q
theorem nn {r:R2} (hr:IxR X r) (ha:PE X a ta) (hb:PE X b tb) (hs:vw b):PE X (.Subscript a b pos) (tOp r ta tb):=by
 intro pins s σ H Q I h
 exact Subscript_ (YK ha hb I h fun v u s2 x y H2 I2 rx ry q=>hr a b pins s2 σ H2 x y v u Q I2 rx ry q (hs _ _))
def Xg (K:PySem.W.Frag):R2:=fun x y H Q=>∃ p xs i v,x=.ref p∧y=.int i∧SqL K H p xs∧atI xs i=some v∧Q v H
def Xe (K:PySem.W.Frag):R2:=fun x y H Q=>∃ p xs i v,x=.ref p∧y=.int i∧SqT K H p xs∧atI xs i=some v∧Q v H
def Xf:R2:=fun x y H Q=>∃ z i c,x=.str z∧y=.int i∧z.length≤sizeLine∧atI z.cps.toList i=some c∧Q (.str ⟨#[c]⟩) H
theorem ix_list:IxR X (Xg X.K):=by
 intro value slice pins s σ H x y v u Q I rx ry h hs
 obtain ⟨p,xs,i,z,rfl,rfl,hq,he,q⟩:=h
 cases rx
 obtain ⟨t,rfl⟩:=ry
 obtain ⟨its,r,pl,hz⟩:=I.list hq
 obtain ⟨j,h1,h2,h3,h4,h5⟩:=qf he
 obtain ⟨w,ew,rw'⟩:=r.get h2
 have hl:=r.length
 have hn:=w6
 have fin:EP X pins σ Q w s:=⟨z,H,I,rw',q⟩
 by_cases h0:0≤i
 ·have hj:i.toNat=j:=by
   rw [seqIndex_of h0 h5] at h1
   exact Option.some.inj h1
  exact item_listR pl.isList h0 (by omega) (by rw [hj]; simpa using ew) fin hs
 ·have hj:(i+(its.toArray.size:Int)).toNat=j:=by
   rw [seqIndex_neg (by omega) h4] at h1
   rw [List.size_toArray,← hl]
   exact Option.some.inj h1
  exact subscriptTail_builtinR (x:=w) pl.isList.typeIs slot_list_getitem.lookup
   (wpAny_getItem_list_neg (Q:=fun r s'=>r=w∧EP X pins σ Q r s') pl.isList (by omega) (by rw [List.size_toArray] <;> omega) (by omega) (by rw [hj]; simpa using ew) ⟨rfl,fin⟩) hs
theorem ix_tup:IxR X (Xe X.K):=by
 intro value slice pins s σ H x y v u Q I rx ry h hs
 obtain ⟨p,xs,i,z,rfl,rfl,hq,he,q⟩:=h
 cases rx
 obtain ⟨t,rfl⟩:=ry
 obtain ⟨its,r,pl,hz⟩:=I.tuple hq
 obtain ⟨j,h1,h2,h3,h4,h5⟩:=qf he
 obtain ⟨w,ew,rw'⟩:=r.get h2
 have hl:=r.length
 have hn:=w6
 have fin:EP X pins σ Q w s:=⟨z,H,I,rw',q⟩
 exact subscriptTail_builtinR (x:=w) pl.typeIs slot_tuple_getitem.lookup
  (getItem_tuple (j:=j) (Q:=fun r s'=>r=w∧EP X pins σ Q r s') pl (by omega) (by omega) (by rw [List.size_toArray,← hl]; exact h1) (by simpa using ew) ⟨rfl,fin⟩) hs
theorem Yi:IxR X Xf:=by
 intro value slice pins s σ H x y v u Q I rx ry h hs
 obtain ⟨z,i,c,rfl,rfl,hz,he,q⟩:=h
 obtain ⟨t,rfl⟩:=rx
 obtain ⟨t',rfl⟩:=ry
 obtain ⟨j,h1,h2,h3,h4,h5⟩:=qf he
 have hl:z.cps.toList.length=z.length:=by simp [Str.length]
 rw [hl] at h1 h4 h5
 have hn:=w6
 exact tail_any (typeIs_str s z t) slot_str_getitem.lookup (getItem_str (c:=c) (by
  have e1:decide (i < -(2 ^ 63:Int))=false:=decide_eq_false (by omega)
  have e2:decide (i ≥ 2 ^ 63)=false:=decide_eq_false (by omega)
  rw [e1,e2,Bool.or_false]) (by rw [h1]; simpa using h2) ⟨.str ⟨#[c]⟩,H,I.tok _,⟨_,rfl⟩,q⟩) hs
def rIx (K:PySem.W.Frag):R2:=fun x y H Q=>Xg K x y H Q∨Xe K x y H Q∨Xf x y H Q
theorem oB:IxR X (rIx X.K):=ix_list.or (ix_tup.or Yi)
theorem oy (its:List Value) (n j:Nat) (u:Value):Obj.mapSeq (·.setIfInBounds j u) { cls:=.type "list",data:=.seq its.toArray n }={ cls:=.type "list",data:=.seq (its.set j u).toArray n }:=by
 simp [Obj.mapSeq]
theorem Inv.lst {pins:List (Addr × Obj)} {σ:St} {H:Hp} {s:Shared} {p:Addr} {xs:List V} (I:Inv X pins σ H s) (h:H p=some (.lst xs)):
  ∃ (its:List Value) (n:Nat),Vals xs its∧s.heap.get? p=some { cls:=.type "list",data:=.seq its.toArray n }∧xs.length≤sizeLine:=by
 obtain ⟨z,its,n,r,e⟩:=I.hok p _ h
 exact ⟨its,n,r,e,z⟩
theorem Inv.lstUpd {pins:List (Addr × Obj)} {σ:St} {H:Hp} {s:Shared} {p:Addr} {xs ys:List V} {its its':List Value} {n n':Nat} {f:Obj→Obj} (I:Inv X pins σ H s) (h:H p=some (.lst xs))
  (ho:s.heap.get? p=some { cls:=.type "list",data:=.seq its.toArray n }) (hf:f { cls:=.type "list",data:=.seq its.toArray n }={ cls:=.type "list",data:=.seq its'.toArray n' }) (r:Vals ys its') (hz:ys.length≤sizeLine) (t:Nat):
  Inv X pins σ (upd H p (.lst ys)) { s with heap:=s.heap.update p f,toks:=t }:=by
 have e:(s.heap.update p f).get? p=some { cls:=.type "list",data:=.seq its'.toArray n' }:=by
  rw [Heap.get?_update_self f ho (by rw [hf] <;> rfl),hf]
 refine I.write (x:=p) (e:=p) (by rw [h]; trivial) (.inl rfl) (fun b u hb q=>(Heap.get?_update_other _ _ (Ne.symm hb)).trans q) ⟨_,e⟩ ?_
 exact ⟨hz,its',n',r,e⟩
def Xd:V→V→V→Hp→(Hp→Prop)→Prop:=fun o i v H Q=>∃ p xs k j,o=.ref p∧i=.int k∧H p=some (.lst xs)∧ixN xs.length k=some j∧Q (upd H p (.lst (xs.set j v)))
theorem qx:YO X Xd:=by
 intro pins s σ H o i v ov iv u Q I ro ri rv h
 obtain ⟨p,xs,k,j,rfl,rfl,hp,hj,q⟩:=h
 cases ro
 obtain ⟨t,rfl⟩:=ri
 obtain ⟨its,n,r,ho,hz⟩:=I.lst hp
 obtain ⟨h1,h2,h3,h4⟩:=nw hj
 have hl:=r.length
 have hn:=w6
 have I':Inv X pins σ (upd H p (.lst (xs.set j v))) { s with heap:=s.heap.update p (Obj.mapSeq (·.setIfInBounds j u)) }:=
  I.lstUpd hp ho (oy its n j u) (r.set rv j) (by rw [List.length_set]; exact hz) s.toks
 by_cases h0:0≤k
 ·have hk:k.toNat=j:=by
   rw [seqIndex_of h0 h4] at h1
   exact Option.some.inj h1
  exact PySem.W.ki_setAt ho h0 (by omega) (by rw [List.size_toArray,← hl]; exact h4) (by rw [hk]; exact ⟨_,I',q⟩)
 ·have hk:(k+(its.toArray.size:Int)).toNat=j:=by
   rw [seqIndex_neg (by omega) h3] at h1
   rw [List.size_toArray,← hl]
   exact Option.some.inj h1
  exact PySem.W.ki_setBack ho (by omega) (by rw [List.size_toArray,← hl]; exact h3) (by omega) (by rw [hk]; exact ⟨_,I',q⟩)
theorem rk (lo hi:Option Int) (n:Nat):(sliceBounds lo hi none n).1=((HT.sIx n 0 lo:Nat):Int)∧(sliceBounds lo hi none n).2.1=((HT.sIx n n hi:Nat):Int)∧(sliceBounds lo hi none n).2.2=1:=by
 refine ⟨?_,?_,rfl⟩
 ·cases lo with
  | none=>simp [sliceBounds,HT.sIx]
  | some i=>
   simp only [sliceBounds,HT.sIx,Option.getD_none,show (1:Int)>0 by decide,if_true]
   by_cases h:i<0
   ·simp only [h,if_true] <;> omega
   ·simp only [h,if_false] <;> omega
 ·cases hi with
  | none=>simp [sliceBounds,HT.sIx]
  | some i=>
   simp only [sliceBounds,HT.sIx,Option.getD_none,show (1:Int)>0 by decide,if_true]
   by_cases h:i<0
   ·simp only [h,if_true] <;> omega
   ·simp only [h,if_false] <;> omega
theorem tZ (its:List Value) (lo hi:Option Int):slicePick its.toArray lo hi none=((its.drop (HT.sIx its.length 0 lo)).take (HT.sIx its.length its.length hi - HT.sIx its.length 0 lo)).toArray:=by
 obtain ⟨h1,h2,h3⟩:=rk lo hi its.toArray.size
 unfold slicePick
 rw [h1,h2,h3]
 simp only [sliceRange_one,pick_run,List.size_toArray] <;> rfl
def VN (K:PySem.W.Frag):V→Option Int→Option Int→Hp→VK→Prop:=fun x lo hi H Q=>∃ a xs,x=.ref a∧SqL K H a xs∧∀ p,H p=none→Q (.ref p) (upd H p (.lst (oV xs lo hi)))
theorem jP:SlR X (VN X.K):=by
 intro pins s σ H x v vl vu lo hi sl Q I rx hs pl pu h
 obtain ⟨a,xs,rfl,hx,q⟩:=h
 cases rx
 obtain ⟨its,r,ht,hz⟩:=I.list hx
 have hlen:=r.length
 refine ⟨"list",_,slot_list_getitem.lookup,ht.isList.typeIs,?_⟩
 refine wpAny_getItem_list_slice ht.isList hs pl pu .none (by simp) ?_ (by rw [List.size_toArray] <;> omega)
 rw [tZ,← hlen]
 refine ⟨.ref s.heap.objs.size,_,I.laid (t':=s.toks) (o:=.lst (oV xs lo hi)) (fun b ob q=>Heap.get?_push_of_some _ q) (Nat.le_refl _) ?_,rfl,q _ (I.hok.fresh (Nat.le_refl _))⟩
 exact ⟨Nat.le_trans (pq xs lo hi) hz,_,0,(r.drop (HT.sIx xs.length 0 lo)).take (HT.sIx xs.length xs.length hi - HT.sIx xs.length 0 lo),Heap.get?_push_size _ rfl⟩
def nB:V→Bool
 | .non=>true
 | .bl _=>true
 | .int _=>true
 | .str _=>true
 | _=>false
def eqV:V→V→Bool
 | .non,.non=>true
 | .bl a,.bl b=>a == b
 | .bl a,.int b=>(if a then 1 else 0) == b
 | .int a,.bl b=>a == (if b then 1 else 0)
 | .int a,.int b=>a == b
 | .str a,.str b=>a == b
 | _,_=>false
theorem kR {A:Around} {s:Shared} {y x:V} {u v:Value} (ry:RelV y u) (rx:RelV x v) (fy:nB y=true) (fx:nB x=true):SeqAt.EqAt A s u v (eqV y x):=by
 cases y with
 | non=>
  cases ry
  cases x with
  | non=>cases rx; exact SeqAt.EqAt.same _
  | bl b=>cases rx; exact SeqAt.EqAt.none_bool b
  | int b=>obtain ⟨t,rfl⟩:=rx; exact SeqAt.EqAt.none_int b t
  | str b=>obtain ⟨t,rfl⟩:=rx; exact SeqAt.EqAt.none_str b t
  | _=>exact absurd (show false=true from fx) Bool.false_ne_true
 | bl a=>
  cases ry
  cases x with
  | non=>cases rx; exact SeqAt.EqAt.bool_none a
  | bl b=>cases rx; exact SeqAt.EqAt.bool_bool a b
  | int b=>obtain ⟨t,rfl⟩:=rx; exact SeqAt.EqAt.bool_int a b t
  | str b=>obtain ⟨t,rfl⟩:=rx; exact SeqAt.EqAt.bool_str a b t
  | _=>exact absurd (show false=true from fx) Bool.false_ne_true
 | int a=>
  obtain ⟨t',rfl⟩:=ry
  cases x with
  | non=>cases rx; exact SeqAt.EqAt.int_none a t'
  | bl b=>cases rx; exact SeqAt.EqAt.int_bool a t' b
  | int b=>obtain ⟨t,rfl⟩:=rx; exact SeqAt.EqAt.int_int a t' b t
  | str b=>obtain ⟨t,rfl⟩:=rx; exact SeqAt.EqAt.int_str a t' b t
  | _=>exact absurd (show false=true from fx) Bool.false_ne_true
 | str a=>
  obtain ⟨t',rfl⟩:=ry
  cases x with
  | non=>cases rx; exact SeqAt.EqAt.str_none a t'
  | bl b=>cases rx; exact SeqAt.EqAt.str_bool a t' b
  | int b=>obtain ⟨t,rfl⟩:=rx; exact SeqAt.EqAt.str_int a t' b t
  | str b=>obtain ⟨t,rfl⟩:=rx; exact SeqAt.EqAt.str_str a t' b t
  | _=>exact absurd (show false=true from fx) Bool.false_ne_true
 | _=>exact absurd (show false=true from fy) Bool.false_ne_true
theorem xT:CallR X (.builtin "len") (fun xs H Q=>∃ p ys,xs=[.ref p]∧(SqL X.K H p ys∨SqT X.K H p ys)∧Q (.int ys.length) H):=by
 intro pins s σ H xs us Q I r h
 obtain ⟨p,ys,rfl,hq,q⟩:=h
 obtain ⟨u,rfl,rx⟩:=m_ r
 cases rx
 have hn:=w6
 rcases hq with hq | hq
 ·obtain ⟨its,r',pl,hz⟩:=I.list hq
  have hlen:=r'.length
  exact Calls.call_len_list pl.isList (by simp only [List.size_toArray] <;> omega) ⟨.int ys.length,H,I.tok _,⟨s.toks + 1,by rw [List.size_toArray,hlen]⟩,q⟩
 ·obtain ⟨its,r',pl,hz⟩:=I.tuple hq
  have hlen:=r'.length
  exact len_tuple pl (by simp only [List.size_toArray] <;> omega) ⟨.int ys.length,H,I.tok _,⟨s.toks + 1,by rw [List.size_toArray,hlen]⟩,q⟩
theorem CallR.or {f:Value} {r r':List V→Hp→VK→Prop} (h:CallR X f r) (h':CallR X f r'):CallR X f (fun xs H Q=>r xs H Q∨r' xs H Q):=by
 intro pins s σ H xs us Q I rs q
 rcases q with q | q
 ·exact h pins s σ H xs us Q I rs q
 ·exact h' pins s σ H xs us Q I rs q
theorem qe:CallR X (.type "list") (fun xs H Q=>∃ p ys,xs=[.ref p]∧(SqL X.K H p ys∨SqT X.K H p ys)∧∀ l,H l=none→Q (.ref l) (upd H l (.lst ys))):=by
 intro pins s σ H xs us Q I r h
 obtain ⟨p,ys,rfl,hq,q⟩:=h
 obtain ⟨u,rfl,rx⟩:=m_ r
 cases rx
 have fin:∀ (its:List Value),Vals ys its→ys.length≤sizeLine→∀ (h':Heap) (c':Nat),(∀ b o',s.heap.get? b=some o'→h'.get? b=some o')→
   h'.get? s.heap.objs.size=some { cls:=.type "list",dict:=none,data:=.seq its.toArray c',slots:=#[] }→EP X pins σ Q (.ref s.heap.objs.size) { s with heap:=h' }:=fun its r' hz h' c' kp e=>
  ⟨.ref s.heap.objs.size,_,I.laid (t':=s.toks) kp (Nat.le_refl _) (show ObjOk X.prog X.w _ h' _ (.lst ys) from ⟨hz,its,c',r',e⟩),rfl,q _ (I.hok.fresh (Nat.le_refl _))⟩
 rcases hq with hq | hq
 ·obtain ⟨its,r',pl,hz⟩:=I.list hq
  have hlen:=r'.length
  obtain ⟨o,ho,hc,n,hd⟩:=pl.isList
  exact call_list_seq p (.inl rfl) ho hc hd (fun h' c' kp e=>fin its r' hz h' c' kp e) (by simp only [List.size_toArray] <;> omega)
 ·obtain ⟨its,r',pl,hz⟩:=I.tuple hq
  have hlen:=r'.length
  obtain ⟨o,ho,hc,n,hd⟩:=pl
  exact call_list_seq p (.inr rfl) ho hc hd (fun h' c' kp e=>fin its r' hz h' c' kp e) (by simp only [List.size_toArray] <;> omega)
def tyV (K:PySem.W.Frag) (T:String) (x:V) (H:Hp):Prop:=match x with
 | .str _=>T="str"
 | .int _=>T="int"
 | .ref p=>(T="list"∧∃ xs,SqL K H p xs)∨(T="tuple"∧∃ o,K.lookup p=some o∧o.cls=.type "tuple"∧o.dict=none)∨
   (T="dict"∧((∃ kvs,H p=some (.dK kvs))∨∃ kvs,H p=some (.dT kvs)))∨(T="set"∧∃ S n,H p=some (.set S n))
 | _=>False
theorem la {pins:List (Addr × Obj)} {σ:St} {H:Hp} {s:Shared} {T:String} {x:V} {v:Value} (I:Inv X pins σ H s) (r:RelV x v) (ty:tyV X.K T x H):
  s.TypeIs v T∧∀ a,v=.ref a→∃ ob,s.heap.get? a=some ob∧ob.dict=none:=by
 cases x with
 | str z=>
  obtain ⟨t,rfl⟩:=r
  cases (show T="str" from ty)
  exact ⟨typeIs_str s z t,fun _ e=>nomatch e⟩
 | int i=>
  obtain ⟨t,rfl⟩:=r
  cases (show T="int" from ty)
  exact ⟨typeIs_int s i t,fun _ e=>nomatch e⟩
 | ref p=>
  cases r
  rcases ty with ⟨rfl,xs,hq⟩ | ⟨rfl,o,hk,hc,hd⟩ | ⟨rfl,hk⟩ | ⟨rfl,S,n,hk⟩
  ·obtain ⟨its,_,pl,_⟩:=I.list hq
   refine ⟨pl.isList.typeIs,fun a e=>?_⟩
   cases e
   obtain ⟨o,n,e,c,hd,_⟩:=pl
   exact ⟨o,e,hd⟩
  ·refine ⟨⟨o,I.kIn p o hk,hc⟩,fun a e=>?_⟩
   cases e
   exact ⟨o,I.kIn _ o hk,hd⟩
  ·have z:∃ o,s.heap.get? p=some o∧o.ExactDict:=by
    rcases hk with ⟨kvs,hk⟩ | ⟨kvs,hk⟩
    ·obtain ⟨_,_,_,_,o,_,_,e,ex,_⟩:=I.hok p _ hk
     exact ⟨o,e,ex⟩
    ·obtain ⟨_,_,_,_,o,_,_,e,ex,_⟩:=I.hok p _ hk
     exact ⟨o,e,ex⟩
   obtain ⟨o,e,ex⟩:=z
   refine ⟨⟨o,e,ex.1⟩,fun a e2=>?_⟩
   cases e2
   exact ⟨o,e,ex.2.1⟩
  ·obtain ⟨o,_,_,_,e,ex,_⟩:=I.hok p _ hk
   refine ⟨⟨o,e,ex.1⟩,fun a e2=>?_⟩
   cases e2
   exact ⟨o,e,ex.2.1⟩
 | _=>exact False.elim ty
def VH (K:PySem.W.Frag) (T:String) (r:V→List V→Hp→VK→Prop) (to:TE):TE:=fun σ H Q=>to σ H fun x H1=>tyV K T x H1∧r x [] H1 Q
def tBM (K:PySem.W.Frag) (T:String) (r:V→List V→Hp→VK→Prop) (to:TE) (t:TA):TE:=fun σ H Q=>to σ H fun x H1=>tyV K T x H1∧t σ H1 fun xs H2=>r x xs H2 Q
variable {o e:Expr} {es:List Expr} {to:TE} {t:TA} {name:Str} {apos cpos:Pos} {T id:String} {r:V→List V→Hp→VK→Prop}
theorem lO (pa:PlainAttrs T) (slot:Slot T name id) (hty:typeOf (.builtin id)=pure (.type "method_descriptor")) (hm:MtR X id r) (ho:PE X o to)
  (hbase:attributeBase o name X.env (eval o X.env)=eval o X.env:=by rfl) (hline:(apos.endLine == cpos.line)=true:=by rfl):PE X (.Call (.Attribute o name apos) [] [] cpos) (VH X.K T r to):=by
 intro pins s σ H Q I h
 refine wpAny_Call_method0_late hbase hline (thn (ho pins s σ H _ I h) fun v s1 ⟨x,H1,I1,r1,ty,q1⟩=>?_)
 obtain ⟨h1,h2⟩:=la I1 r1 ty
 exact ⟨T,id,pa,slot,hty,h1,h2,Calls.callWith_builtin rfl (PySem.evalArgs_none (hm pins s1 σ H1 x [] v [] Q I1 r1 .nil q1))⟩
theorem nq (pa:PlainAttrs T) (slot:Slot T name id) (hty:typeOf (.builtin id)=pure (.type "method_descriptor")) (hm:MtR X id r) (ho:PE X o to) (ha:PA X (e::es) t)
  (hbase:attributeBase o name X.env (eval o X.env)=eval o X.env:=by rfl)
  (hfew:((backTo cpos (starEach (e::es) X.env)).all (fun x=>!x.1) && (backToKw cpos (keywordEach [] X.env)).all (fun x=>x.1.isSome)
   && decide ((e::es).length+([]:List Keyword).length+(if ([]:List Keyword).isEmpty then 0 else 1)<30))=true:=by rfl)
  (hline:(apos.endLine == cpos.line)=true:=by rfl) (hs:starEach (e::es) X.env=(false,eval e X.env)::starEach es X.env:=by rfl) (hplain:(backTo cpos (starEach es X.env)).any (·.1)=false:=by rfl):
  PE X (.Call (.Attribute o name apos) (e::es) [] cpos) (tBM X.K T r to t):=by
 intro pins s σ H Q I h
 refine wpAny_Call_method_late hbase hfew hline rfl (thn (ho pins s σ H _ I h) fun v s1 ⟨x,H1,I1,r1,ty,q1⟩=>?_)
 obtain ⟨h1,h2⟩:=la I1 r1 ty
 refine ⟨T,id,pa,slot,hty,h1,h2,?_⟩
 have hA:=ha cpos pins s1 σ H1 _ I1 q1
 rw [hs] at hA ⊢
 refine Calls.callWith_builtin (by show (false || (backTo cpos (starEach es X.env)).any (·.1))=false; rw [hplain] <;> rfl) (Calls.evalArgs_plain ?_)
 exact thn hA fun us s2 ⟨vs,H2,I2,r2,q2⟩=>hm pins s2 σ H2 x vs v us Q I2 r1 r2 q2
end
end L2
namespace L2
open PySem PySem.Spec PyProof.Rows
def MtM (X:Cx) (id:String) (r:V→List V→Hp→VK→Prop):Prop:=
 ∀ (pins:List (Addr × Obj)) (s:Shared) (σ:St) (H:Hp) (x:V) (xs:List V) (v:Value) (us:List Value) (Q:VK),Inv X pins σ H s→RelV x v→Vals xs us→r x xs H Q→
  wpAny (model X.prog X.w) X.A (call (.builtin id) (v::us)) (EP X pins σ Q) X.xe s
theorem Vals.one:∀ {x:V} {us:List Value},Vals [x] us→∃ u,us=[u]∧RelV x u
 | _,_,.cons r .nil=>⟨_,rfl,r⟩
theorem Vals.two:∀ {x y:V} {us:List Value},Vals [x,y] us→∃ u v,us=[u,v]∧RelV x u∧RelV y v
 | _,_,_,.cons r (.cons q .nil)=>⟨_,_,rfl,r,q⟩
theorem Vals.zero:∀ {us:List Value},Vals [] us→us=[]
 | _,.nil=>rfl
theorem Vals.dropLast {xs:List V} {us:List Value} (h:Vals xs us):Vals xs.dropLast us.dropLast:=by
 induction h with
 | nil=>exact .nil
 | cons r t ih=>
  cases t with
  | nil=>exact .nil
  | cons q t'=>exact .cons r ih
theorem Vals.eraseIdx:∀ {xs:List V} {us:List Value} (i:Nat),Vals xs us→Vals (xs.eraseIdx i) (us.eraseIdx i)
 | _,_,_,.nil=>.nil
 | _,_,0,.cons _ t=>t
 | _,_,i+1,.cons r t=>.cons r (Vals.eraseIdx i t)
theorem Vals.reverse {xs:List V} {us:List Value} (h:Vals xs us):Vals xs.reverse us.reverse:=by
 induction h with
 | nil=>exact .nil
 | cons r t ih=>rw [List.reverse_cons,List.reverse_cons]; exact Vals.append ih (.cons r .nil)
theorem Vals.rep {xs:List V} {us:List Value} (h:Vals xs us):∀ k:Nat,Vals (List.replicate k xs).flatten (List.replicate k us).flatten
 | 0=>.nil
 | k+1=>by
  rw [List.replicate_succ,List.replicate_succ,List.flatten_cons,List.flatten_cons]
  exact Vals.append h (Vals.rep h k)
theorem oN {α:Type} (l:List α):l.eraseIdx (l.length - 1)=l.dropLast:=by
 induction l with
 | nil=>rfl
 | cons a r ih=>
  cases r with
  | nil=>rfl
  | cons b r=>
   have e:(a::b::r).length - 1=((b::r).length - 1)+1:=by
    have h1:(a::b::r).length=r.length+2:=rfl
    have h2:(b::r).length=r.length+1:=rfl
    omega
   rw [e,List.eraseIdx_cons_succ,ih]
   all_goals rfl
theorem sU (its:List Value):∀ (k:Nat) (acc:List Value),
  List.foldl (fun x1 x2=>x1++x2) acc.toArray (List.replicate k its.toArray)=(acc++(List.replicate k its).flatten).toArray
 | 0,acc=>by simp
 | k+1,acc=>by
  have e:acc.toArray++its.toArray=(acc++its).toArray:=by simp
  have e2:(acc++its)++(List.replicate k its).flatten=acc++(List.replicate (k+1) its).flatten:=by
   rw [List.replicate_succ,List.flatten_cons,List.append_assoc]
  rw [← e2,← sU its k (acc++its),← e,List.replicate_succ,List.foldl_cons]
section
variable {X:Cx} {pins:List (Addr × Obj)} {σ:St} {H:Hp} {s:Shared} {l b:Addr} {xs ys zs:List V}
theorem Inv.lset {its its':List Value} {n:Nat} {f:Array Value→Array Value} {t':Nat} (I:Inv X pins σ H s) (hH:H l=some (.lst xs))
  (e:s.heap.get? l=some { cls:=.type "list",data:=.seq its.toArray n }) (hf:f its.toArray=its'.toArray) (hv:Vals ys its') (hz:ys.length≤sizeLine):
  Inv X pins σ (upd H l (.lst ys)) { s with heap:=s.heap.update l (Obj.mapSeq f),toks:=t' }:=by
 have q:=PySem.IsL.update e f
 rw [hf] at q
 refine I.write (x:=l) (e:=l) (by rw [hH]; exact trivial) (.inl rfl) (fun b' u hb hu=>(Heap.get?_update_other s.heap (Obj.mapSeq f) (Ne.symm hb)).trans hu) ⟨_,q⟩ ?_
 exact ⟨hz,its',_,hv,q⟩
theorem Inv.lnew {its:List Value} {t':Nat} (I:Inv X pins σ H s) (hv:Vals ys its) (hz:ys.length≤sizeLine):
  Inv X pins σ (upd H s.heap.objs.size (.lst ys)) { s with heap:=s.heap.push { cls:=.type "list",data:=.seq its.toArray },toks:=t' }:=
 I.laid (fun _ _ q=>Heap.get?_push_of_some _ q) (Nat.le_refl _) ⟨hz,its,0,hv,Heap.get?_push_size _ rfl⟩
theorem Inv.fresh (I:Inv X pins σ H s):H s.heap.objs.size=none:=I.hok.fresh (Nat.le_refl _)
theorem Inv.lstM (I:Inv X pins σ H s) (hH:H l=some (.lst xs)):xs.length≤sizeLine∧∃ (its:List Value) (n:Nat),Vals xs its∧xs.length=its.length∧s.heap.get? l=some { cls:=.type "list",data:=.seq its.toArray n }:=by
 obtain ⟨z,its,n,r,e⟩:=I.hok l _ hH
 exact ⟨z,its,n,r,r.length,e⟩
theorem qO {n:Nat} (h:n≤sizeLine):Builtin.List.listTooLong n=false:=by
 unfold Builtin.List.listTooLong
 exact decide_eq_false (by omega)
end
section
variable {X:Cx}
def jV:V→List V→Hp→VK→Prop:=fun x vs H Q=>∃ l xs y,x=.ref l∧vs=[y]∧H l=some (.lst xs)∧xs.length<sizeLine∧Q .non (upd H l (.lst (xs++[y])))
theorem vT:MtM X "list.append" jV:=by
 intro pins s σ H x vs v us Q I rx rv h
 obtain ⟨l,xs,y,rfl,rfl,hH,hz,q⟩:=h
 cases rx
 obtain ⟨u,rfl,ru⟩:=rv.one
 obtain ⟨z,its,n,r,hl,e⟩:=I.lstM hH
 refine call_meets F.slot_list_append ⟨_,e,rfl⟩ F.entry_list_append (F.args_list_append_2 _ _) (PySem.list_append l its.toArray n u (by rw [List.size_toArray]; omega)) ⟨e,?_⟩
 refine ⟨.non,_,I.lset (its':=its++[u]) hH e (by simp) (r.append (.cons ru .nil)) ?_,rfl,q⟩
 rw [List.length_append,List.length_singleton]
 omega
def jU:V→List V→Hp→VK→Prop:=fun x vs H Q=>∃ l b xs zs,x=.ref l∧vs=[.ref b]∧H l=some (.lst xs)∧H b=some (.lst zs)∧xs.length+zs.length≤sizeLine∧Q .non (upd H l (.lst (xs++zs)))
theorem mE:MtM X "list.extend" jU:=by
 intro pins s σ H x vs v us Q I rx rv h
 obtain ⟨l,b,xs,zs,rfl,rfl,hH,hB,hz,q⟩:=h
 cases rx
 obtain ⟨u,rfl,ru⟩:=rv.one
 cases ru
 obtain ⟨z,its,n,r,hl,e⟩:=I.lstM hH
 obtain ⟨z2,its2,n2,r2,hl2,e2⟩:=I.lstM hB
 have hsz:its.toArray.size+its2.toArray.size≤sizeLine:=by rw [List.size_toArray,List.size_toArray]; omega
 have hlong:¬ (!its.toArray.isEmpty && Builtin.List.listTooLong (its.toArray.size+its2.toArray.size))=true:=by
  rw [qO hsz,Bool.and_false]
  exact Bool.false_ne_true
 refine call_meets F.slot_list_extend ⟨_,e,rfl⟩ F.entry_list_extend (F.args_list_extend_2 _ _)
  (AutoSeq1.list_extend_list_list_0 l its.toArray n b its2.toArray n2 hlong (by rw [List.size_toArray]; omega) (by omega)) ⟨e,e2,?_⟩
 refine ⟨.non,_,I.lset (its':=its++its2) hH e (by simp) (r.append r2) ?_,rfl,q⟩
 rw [List.length_append]
 omega
def VP:V→List V→Hp→VK→Prop:=fun x vs H Q=>∃ l xs y,x=.ref l∧vs=[]∧H l=some (.lst xs)∧xs[xs.length - 1]? = some y∧Q y (upd H l (.lst xs.dropLast))
theorem Z9:MtM X "list.pop" VP:=by
 intro pins s σ H x vs v us Q I rx rv h
 obtain ⟨l,xs,y,rfl,rfl,hH,hy,q⟩:=h
 cases rx
 have hus:=rv.zero
 subst hus
 obtain ⟨z,its,n,r,hl,e⟩:=I.lstM hH
 obtain ⟨u,hu,ru⟩:=r.get hy
 have hy':its.toArray[its.toArray.size - 1]? = some u:=by
  show its.toArray[its.length - 1]? = some u
  rw [← Array.getElem?_toList,← hl]
  exact hu
 refine call_meets F.slot_list_pop ⟨_,e,rfl⟩ F.entry_list_pop (F.args_list_pop_1 _) (MeetsSeq.list_pop_last l its.toArray n u hy' (by rw [List.size_toArray]; omega)) ⟨e,?_⟩
 refine ⟨y,_,I.lset (its':=its.dropLast) hH e ?_ r.dropLast ?_,ru,q⟩
 ·show its.toArray.eraseIdxIfInBounds (its.toArray.size - 1)=its.dropLast.toArray
  rw [List.size_toArray,List.eraseIdxIfInBounds_toArray,oN]
 ·rw [List.length_dropLast]
  omega
def lB:V→List V→Hp→VK→Prop:=fun x vs H Q=>∃ l xs,x=.ref l∧vs=[]∧H l=some (.lst xs)∧Q .non (upd H l (.lst xs.reverse))
theorem ox:MtM X "list.reverse" lB:=by
 intro pins s σ H x vs v us Q I rx rv h
 obtain ⟨l,xs,rfl,rfl,hH,q⟩:=h
 cases rx
 have hus:=rv.zero
 subst hus
 obtain ⟨z,its,n,r,hl,e⟩:=I.lstM hH
 refine call_meets F.slot_list_reverse ⟨_,e,rfl⟩ F.entry_list_reverse (F.args_list_reverse_1 _) (AutoSeq1.list_reverse_list_0 l its.toArray n (by rw [List.size_toArray]; omega)) ⟨e,?_⟩
 refine ⟨.non,_,I.lset (its':=its.reverse) hH e (by simp) r.reverse ?_,rfl,q⟩
 rw [List.length_reverse]
 omega
def VO:R2:=fun x y H Q=>∃ l k xs,x=.ref l∧y=.int k∧H l=some (.lst xs)∧-(2 ^ 63)≤k∧k<2 ^ 63∧xs.length*k.toNat≤sizeLine∧
 ∀ p,H p=none→Q (.ref p) (upd H p (.lst (List.replicate k.toNat xs).flatten))
theorem fH {α:Type} (xs:List α) (k:Nat):(List.replicate k xs).flatten.length=k*xs.length:=by
 induction k with
 | zero=>simp
 | succ k ih=>rw [List.replicate_succ,List.flatten_cons,List.length_append,ih,Nat.succ_mul,Nat.add_comm]
theorem ck:OpR X (binaryOp .Mult) VO:=by
 intro pins s σ H x y v u Q I rx ry h
 obtain ⟨l,k,xs,rfl,rfl,hH,h1,h2,hz,q⟩:=h
 cases rx
 obtain ⟨t,rfl⟩:=ry
 obtain ⟨z,its,n,r,hl,e⟩:=I.lstM hH
 have hlen:its.toArray.size*k.toNat≤sizeLine:=by rw [List.size_toArray,← hl]; exact hz
 have hcap:¬ its.toArray.size*k.toNat>(2 ^ 63 - 1) / 8:=by
  have:(sizeLine:Nat)≤(2 ^ 63 - 1) / 8:=by decide
  omega
 have hfit:¬ (!Builtin.List.listFitsIndex k)=true:=by
  rw [fitsIndex_both h1 h2]
  exact Bool.false_ne_true
 have hlong:¬ Builtin.List.listTooLong (its.toArray.size*k.toNat)=true:=by
  rw [qO hlen]
  exact Bool.false_ne_true
 have hnew:List.foldl (fun x1 x2=>x1++x2) #[] (List.replicate (if its.toArray.isEmpty=true then 0 else k.toNat) its.toArray)=(List.replicate k.toNat its).flatten.toArray:=by
  have f0:∀ m:Nat,List.foldl (fun x1 x2=>x1++x2) #[] (List.replicate m its.toArray)=(List.replicate m its).flatten.toArray:=fun m=>by
   have:=sU its m []
   rw [List.nil_append] at this
   exact this
  rw [f0]
  cases its with
  | nil=>simp
  | cons a r'=>rw [if_neg (by simp)]
 refine wpAny_binaryOp_repeat_ref (T:="list") (U:="int") (by decide) ⟨_,e,rfl⟩ (fun s'=>typeIs_int s' k t) noFill_list_mul F.fills_int_mul F.slot_int_rmul repeat_list F.slot_int_index.lookup
  (call_meets F.slot_int_rmul (typeIs_int s k t) F.entry_int_rmul (F.args_int_rmul_2 _ _) (int___rmul___int_list k t l its.toArray n)
   ⟨e,rfl,⟨_,e,rfl⟩,call_meets F.slot_list_mul ⟨_,e,rfl⟩ F.entry_list_mul (F.args_list_mul_2 _ _) (AutoListH.list___mul___list_int_3 l its.toArray n k t hfit hcap hlong) ⟨e,?_⟩⟩)
 rw [hnew]
 exact ⟨.ref _,_,I.lnew (t':=s.toks) (r.rep k.toNat) (by rw [fH,Nat.mul_comm]; exact hz),rfl,q _ I.fresh⟩
end
section
variable {prog:Program} {w:World} {A:Around} {E:Value→Shared→Prop} {s:Shared}
set_option maxRecDepth 100000 in
end
section
variable {X:Cx}
end
end L2
namespace Att
open PySem PySem.W PySem.Calls PyProof.Rows
theorem uC {P:Params} {h:Heap}:∀ (ns:List Int) (vs:List Value),WellAll P h vs (ns.map WData.int)→IntsAre vs ns:=by
 intro ns
 induction ns with
 | nil=>
  intro vs w
  rw [List.map_nil] at w
  cases w
  exact .nil
 | cons n ns ih=>
  intro vs w
  rw [List.map_cons] at w
  cases w with
  | cons a b=>
   cases a
   exact .cons _ _ (ih _ b)
theorem mh {l:OpenLaw} {n:Nat} (hn:l.most=some n) {P:Params} {h:Heap} {args:List WData} {vals:List Value}
  (hpre:l.row.toRowW.claim.pre args=true) (hwl:WellAll P h vals args):
  ∃ a vs ns,vals=[Value.ref a]∧args=[WData.list (ns.map WData.int)]∧h.get? a=some { cls:=.type "list",data:=.seq vs.toArray }∧IntsAre vs ns∧ns.length≤n:=by
 have hsh:WShape.hasAll [] args [.list .int]=true:=(pre_splitW hpre).1
 have hc:l.pre.holds [] { args:=args }=true:=(pre_splitW hpre).2
 obtain ⟨d,r,rfl,h1,h2⟩:=hasAllW_cons hsh
 obtain rfl:=hasAllW_nil h2
 obtain ⟨xs,rfl,h3⟩:=hasW_list h1
 obtain ⟨ns,rfl⟩:=items_int h3
 have hlen:ns.length≤n:=by
  unfold OpenLaw.pre at hc
  have h4:(WTm.not (.lt (.lit (.int (n:Int))) (.len (.arg 0)))).holds [] { args:=[.list (ns.map .int)] }=true:=by
   have h4:=(holds_andW hc).1
   rw [hn] at h4
   exact h4
  have h5:=condW_of h4 (w_not (w_lt w_lit (w_len_list (w_arg rfl))))
  rw [List.length_map] at h5
  refine Nat.le_of_not_lt fun q=>?_
  have q':(n:Int)<((ns.length:Nat):Int):=by omega
  first
   | (rw [decide_eq_true q'] at h5; exact absurd h5 (by decide))
   | (simp at h5; omega)
 cases hwl with
 | cons w1 w2=>
  cases w2
  cases w1 with
  | list ho hall=>exact ⟨_,_,ns,rfl,rfl,ho,uC ns _ hall,hlen⟩
theorem mq (l:OpenLaw) (args:List WData):l.row.toRowW.claim.post args (.bool true) args=true:=
 postW_of (r:=l.row.toRowW) (X:=(true == true))
  (show WShape.has [] (.bool true) .bool=true by first | rfl | decide | simp [WShape.has,WShape.arms,WShape.armsAll])
  (show (WTm.eq .res (.lit (.bool true))).value [] { args:=args,res:=some (.bool true),after:=args }=some (.bool (true == true)) from w_eq_bool (w_res rfl) w_lit) rfl
theorem attach_call {l:OpenLaw} {n:Nat} {q:Program} {loose:List Str} {XP:(Str→Option Value)→Heap→Prop} {YP:World→Heap→Prop} {d:DefRec}
  (hn:l.most=some n) (hdf:d.params.defaults=[])
  (call:∀ (w:World) (s₀ s₁:Shared) (mg mb:Str→Option Value) (fa:Addr) (o:Obj) (pm cd doc:Value) (a:Addr) (vs:List Value) (ns:List Int),
   Ground q loose [] XP w s₀ mg mb s₁.heap→YP w s₁.heap→
   s₁.heap.get? fa=some o→o.data=.func (docDef d.name d.params d.body d.scope pm cd doc)→s₁.heap.CodeRec cd d.name→mg d.name=some (.ref fa)→
   s₁.heap.get? a=some { cls:=.type "list",data:=.seq vs.toArray }→IntsAre vs ns→ns.length≤n→s₁.gens=#[]→
   codeAny (model l.prog w) callerA (.call (.ref fa) ⟨[.ref a],[]⟩) (fun r s'=>r=.ok (.ret (.bool true))∧OldK s₁.heap s'.heap∧s'.os=s₁.os∧AllBare s'.gens) s₁):
  WalkO q loose XP YP l.row.toRowW d [] (fun f vs=>PySem.call f vs):=by
 intro w s₀ s₁ mg mb G Y fa o pm cd doc dV kV ho hd hcd hD hmg hg args vals as hpre hlay hrd hwl hlo
 obtain rfl:dV=.none:=Dflts.none hD hdf
 obtain rfl:kV=.none:=Dflts.noKw hD
 obtain ⟨a,vs,ns,rfl,rfl,hobj,hints,hlen⟩:=mh hn hpre hwl
 refine enter_call (codeAny_mono (call w s₀ s₁ mg mb fa o pm cd doc a vs ns G Y ho (fd_plain hd) hcd hmg hobj hints hlen hg) fun r s' hq=>?_)
 obtain ⟨rfl,h2,h3,h4⟩:=hq
 exact ⟨.inl ⟨.bool true,.bool true,[],rfl,fun _=>rfl,.bool true,mq l _,fun _=>⟨List.Pairwise.nil,fun _ hm=>(nomatch hm)⟩⟩,h2,h3,h4⟩
section
variable {prog:Program} {w:World} {A:Around} {E:Value→Shared→Prop} {s:Shared} {K:Frag}
def VY (h:Heap) (L d:Addr):List (Addr × Obj):=(List.range h.objs.size).filterMap fun a=>if a=L∨a=d then none else (h.get? a).map fun o=>(a,o)
end
end Att
namespace L2
open PySem PySem.Spec PyProof.Rows
theorem sK:∀ {vs:List Value} {ns:List Int},IntsAre vs ns→Vals (ns.map V.int) vs
 | _,_,.nil=>.nil
 | _,_,.cons n t h=>.cons ⟨t,rfl⟩ (sK h)
def YQ (H:Hp):Prop:=∀ b,H b=none∨∃ o xs,H b=some (.frz o (.lst xs))
theorem ky {P:Program} {w:World} {K:PySem.W.Frag} {mg mb:Str→Option Value} {CX:CXT} {k:Nat} {fa a:Addr} {fd:FuncData} {x:Str} {sp:Sp} {s₁:Shared} {vs:List Value} {ns:List Int}
  (KX:K.In s₁.heap) (hns:s₁.heap.Ns mainGlobals mg) (hb:s₁.heap.Ns builtinsNs mb) (hbb:∀ x:Str,x≠"__name__"→mb x=bootBuiltins x) (hlim:s₁.heap.NoLimit) (hg:s₁.gens=#[])
  (ha:s₁.heap.get? a=some { cls:=.type "list",data:=.seq vs.toArray }) (hi:IntsAre vs ns) (hl:ns.length≤sizeLine) (hr:Room k callerA)
  (F:∀ base:Heap,K.In base→base.Ns mainGlobals mg→FnOk P w K mg base CX k fa fd [x] sp) (hbind:∀ (s:Shared) (u:Value),BindsTo s fd ⟨[u],[]⟩ [(x,u)])
  (hsp:∀ H:Hp,YQ H→SqL K H a (ns.map V.int)→sp [.ref a] H (fun v _=>v=.bl true) fun _ _ _=>False)
  (hCX:∀ H e s',CX [] H s₁ (fun _ _ _=>False) e s'→False):
  codeAny (model P w) callerA (.call (.ref fa) ⟨[.ref a],[]⟩) (fun r s'=>r=.ok (.ret (.bool true))∧OldK s₁.heap s'.heap∧s'.os=s₁.os∧AllBare s'.gens) s₁:=by
 have rv:=sK hi
 have lenV:=hi.length
 have core:∀ H:Hp,YQ H→SqL K H a (ns.map V.int)→HOk P w H s₁.heap→(∀ b,H b≠none→b=a)→(H a≠none→K.lookup a=none)→
   codeAny (model P w) callerA (.call (.ref fa) ⟨[.ref a],[]⟩) (fun r s'=>r=.ok (.ret (.bool true))∧OldK s₁.heap s'.heap∧s'.os=s₁.os∧AllBare s'.gens) s₁:=by
  intro H hO hS hok hA hK
  have base_of:∀ {b:Addr} {o:Obj},s₁.heap.get? b=some o→H b=none→(rX s₁.heap H).get? b=some o:=fun e n=>kE e n
  have noA:∀ {b:Addr} {o:Obj} {es:Array DictEntry} {ep:Nat},s₁.heap.get? b=some o→o.data=.dict es ep→H b=none:=fun {b o es ep} e d=>by
   cases q:H b with
   | none=>rfl
   | some u=>
    have e':b=a:=hA b (by rw [q]; simp)
    subst e'
    rw [ha] at e; cases e
    have d':Data.seq vs.toArray _=Data.dict es ep:=d
    cases d'
  have nsK:∀ {b:Addr} {m:Str→Option Value},s₁.heap.Ns b m→(rX s₁.heap H).Ns b m:=fun {b m} ⟨o,es,ep,e,d,r⟩=>⟨o,es,ep,base_of e (noA e d),d,r⟩
  have hKb:K.In (rX s₁.heap H):=fun b o e=>base_of (KX b o e) (by
   cases q:H b with
   | none=>rfl
   | some u=>
    have e':b=a:=hA b (by rw [q]; simp)
    subst e'
    rw [hK (by rw [q]; simp)] at e; cases e)
  have hM:Mod K mg (rX s₁.heap H):=⟨hKb,nsK hns,⟨mb,nsK hb,hbb⟩,let ⟨mc,h1,h2⟩:=hlim; ⟨mc,nsK h1,h2⟩⟩
  have e0:Env0 P w K mg (rX s₁.heap H) callerA [] s₁ H:=⟨rfl,hM,fun b o e=>ip e,Nat.le_of_eq (mK _ _),trivial,fun b hb=>absurd (show b∈([]:List Addr) from hb) (by simp),hok,.of_eq hg⟩
  refine codeAny_mono ((F _ hKb (nsK hns)).run callerA [] s₁ H ⟨[.ref a],[]⟩ [.ref a] [.ref a] _ _ hr e0 (hbind s₁ (.ref a)) (.cons rfl .nil) (hsp H hO hS)) fun r s' h=>?_
  cases r with
  | error e=>exact (hCX H e s' h).elim
  | ok fl=>
   cases fl with
   | next=>exact False.elim h
   | brk=>exact False.elim h
   | cont=>exact False.elim h
   | ret u=>
    obtain ⟨v,H',os,bare,un,hok',r',q⟩:=h
    have q':v=.bl true:=q
    subst q'
    obtain rfl:u=Value.bool true:=r'
    refine ⟨rfl,OldK.of_keep fun b o e=>?_,os,bare⟩
    cases q:H b with
    | none=>exact un.keep b o e q (by intro z; exact absurd (show b∈([]:List Addr) from z) (by simp)) (by simp)
    | some u=>
     rcases hO b with z | ⟨ob,xs,z⟩
     ·rw [q] at z; cases z
     ·have z2:=un.frzs b ob _ z
      obtain ⟨e1,_⟩:=hok b _ z
      obtain ⟨e2,_⟩:=hok' b _ z2
      rw [e] at e1; cases e1
      exact e2
 cases hk:K.lookup a with
 | some o=>
  have e:=KX a o hk
  rw [ha] at e
  cases e
  refine core (fun _=>none) (fun _=>.inl rfl) (.inr ⟨_,vs.toArray,_,hk,rfl,rfl,rfl,by rw [List.size_toArray,lenV]; exact hl,by simpa using rv⟩) (fun b u z=>by have z':(none:Option HO)=some u:=z; cases z') (fun b z=>absurd rfl z) fun z=>absurd rfl z
 | none=>
  refine core (fun b=>if b=a then some (.frz { cls:=.type "list",data:=.seq vs.toArray } (.lst (ns.map V.int))) else none) (fun b=>?_) (.inl (.inr ⟨{ cls:=.type "list",data:=.seq vs.toArray },if_pos rfl⟩)) (fun b u z=>?_) (fun b z=>?_) fun _=>hk
  ·by_cases hb:b=a
   ·exact .inr ⟨_,_,if_pos hb⟩
   ·exact .inl (if_neg hb)
  ·by_cases hb:b=a
   ·have z':=(if_pos hb).symm.trans z
    cases z'
    subst hb
    exact ⟨ha,by rw [List.length_map]; exact hl,vs,_,rv,ha⟩
   ·have z':=(if_neg hb).symm.trans z
    cases z'
  ·by_cases hb:b=a
   ·exact hb
   ·exact absurd (if_neg hb) z
end L2
namespace L2
open PySem PySem.Spec PyProof.Rows
abbrev KOf {K:PySem.W.Frag} {h:Heap} (_:K.In h):PySem.W.Frag:=K
theorem walk_of {l:PySem.W.OpenLaw} {n k:Nat} {q:Program} {loose:List Str} {XP:(Str→Option Value)→Heap→Prop} {YP:World→Heap→Prop} {d:DefRec} {K:Params→PySem.W.Frag} {CX:World→CXT} {sp:World→Sp} {x:Str}
  (hn:l.most=some n) (hn2:n≤sizeLine) (hdf:d.params.defaults=[]) (hr:Room k callerA)
  (hY:∀ (w:World) (h:Heap),YP w h→(K w.params).In h)
  (F:∀ (w:World) (mg:Str→Option Value) (fa:Addr) (h:Heap),(K w.params).In h→h.Ns mainGlobals mg→mg d.name=some (.ref fa)→
   ∃ fd:FuncData,(∀ (s:Shared) (u:Value),BindsTo s fd ⟨[u],[]⟩ [(x,u)])∧
    ∀ base:Heap,(K w.params).In base→base.Ns mainGlobals mg→FnOk l.prog w (K w.params) mg base (CX w) k fa fd [x] (sp w))
  (hsp:∀ (w:World) (H:Hp) (a:Addr) (ns:List Int),ns.length≤n→YQ H→SqL (K w.params) H a (ns.map V.int)→sp w [.ref a] H (fun v _=>v=.bl true) fun _ _ _=>False)
  (hCX:∀ (w:World) (H:Hp) (s:Shared) (e:Value) (s':Shared),CX w [] H s (fun _ _ _=>False) e s'→False):
  PySem.W.WalkO q loose XP YP l.row.toRowW d [] (fun f vs=>PySem.call f vs):=by
 refine Att.attach_call hn hdf fun w s₀ s₁ mg mb fa o pm cd doc a vs ns G Y ho hd hcd hmg hobj hints hlen hg=>?_
 have KX:=hY w _ Y
 obtain ⟨fd,hb,hF⟩:=F w mg fa _ KX G.T.g hmg
 exact ky KX G.T.g G.T.b G.T.builtins G.T.nolimit hg hobj hints (Nat.le_trans hlen hn2) hr hF hb (fun H hO hS=>hsp w H a ns hlen hO hS) fun H e s'=>hCX w H s₁ e s'
end L2
namespace L2
open PySem PySem.Spec PyProof.Rows
def inClass (s:Stmt) (j:Nat):Stmt:=match s with
 | .ClassDef _ _ _ body _ _ _ _ _ _ _=>body.getD j (.Pass ⟨0,0,0,0⟩)
 | _=>.Pass ⟨0,0,0,0⟩
def defArgs (s:Stmt):Arguments:=match s with
 | .FunctionDef _ a _ _ _ _ _ _ _ _=>a
 | _=>{ posonlyargs:=[],args:=[],vararg:=none,kwonlyargs:=[],kw_defaults:=[],kwarg:=none,defaults:=[] }
def defBody (s:Stmt):List Stmt:=match s with
 | .FunctionDef _ _ b _ _ _ _ _ _ _=>b
 | _=>[]
def defScope (s:Stmt):Scope:=match s with
 | .FunctionDef _ _ _ _ _ _ sc _ _ _=>sc
 | _=>{ kind:=.function,names:=[],isGenerator:=false,isCoroutine:=false }
abbrev CX0:CXT:=fun _ _ _ _ _ _=>False
abbrev E0:XK:=fun _ _ _=>False
theorem tu {X:Cx}:ud CX0 X E0:=fun _ _ _ _ _ _ _ h=>h.elim
structure Fun (K:PySem.W.Frag) (x qual:Str) (st:Stmt) (f:Addr) (fd:FuncData):Prop where
 ex:∃ (oc:Value) (od:Option Addr) (kV doc pm:Value) (an:Option Addr) (cdv ct:Value) (osl:Array (Option Value)),
  fd=PySem.W.fnOf x qual (defArgs st) (defBody st) (defScope st) .none kV doc pm an cdv ct∧K.lookup f=some ⟨oc,od,.func fd,osl⟩∧PySem.W.codeIn K cdv qual=true
 kp:PySem.W.keepIn K (.ref f)=true
section
variable {P:Program} {w:World} {K:PySem.W.Frag} {mg:Str→Option Value} {base:Heap}
theorem Fun.ok {x qual:Str} {st:Stmt} {f:Addr} {fd:FuncData} {N ps:List Str} {k:Nat} {sp:Sp} (F:Fun K x qual st f fd) (S:zg N ps (defScope st)) (len:∀ vs H Q E,sp vs H Q E→vs.length=ps.length)
  (hbody:∀ (cdv:Value) (A:Around) (outer:List Env) (s:Shared) (H:Hp) (vs:List V) (Q:VK) (E:XK),Room k (A.deeper (envOfC qual (defScope st) s.heap.objs.size f cdv))→sp vs H Q E→
   ∃ t,PSs (yn CX0 P w K mg base N qual (defScope st) f cdv A outer s H E).nox (defBody st) t∧t { nx:=fun _ H'=>Q .non H',rt:=Q } (start N vs) H):FnOk P w K mg base CX0 (k+1) f fd ps sp:=by
 obtain ⟨oc,od,kV,doc,pm,an,cdv,ct,osl,rfl,lk,hcd⟩:=F.ex
 refine db lk hcd S len fun A outer s H vs Q E hr hsp=>?_
 obtain ⟨t,h,q⟩:=hbody cdv A outer s H vs Q E hr hsp
 exact ⟨t,h.nox,q⟩
theorem Fun.binds {x qual:Str} {st:Stmt} {f:Addr} {fd:FuncData} {ps:List Str} (F:Fun K x qual st f fd)
  (h:∀ (kV doc pm:Value) (an:Option Addr) (cdv ct:Value) (us:List Value),us.length=ps.length→bindArgs (PySem.W.fnOf x qual (defArgs st) (defBody st) (defScope st) .none kV doc pm an cdv ct) ⟨us,[]⟩=pure (ps.zip us)):Binds K fd ps []:=by
 obtain ⟨oc,od,kV,doc,pm,an,cdv,ct,osl,rfl,lk,hcd⟩:=F.ex
 exact .all (h kV doc pm an cdv ct)
theorem oK {x qual:Str} {st:Stmt} {f:Addr} {oc:Value} {od an:Option Addr} {osl:Array (Option Value)} {kV doc pm cdv ct:Value} (l:K.lookup f=some ⟨oc,od,.func (PySem.W.fnOf x qual (defArgs st) (defBody st) (defScope st) .none kV doc pm an cdv ct),osl⟩)
  (c:PySem.W.codeIn K cdv qual=true) (k:PySem.W.keepIn K (.ref f)=true):Fun K x qual st f (PySem.W.fnOf x qual (defArgs st) (defBody st) (defScope st) .none kV doc pm an cdv ct):=⟨⟨oc,od,kV,doc,pm,an,cdv,ct,osl,rfl,l,c⟩,k⟩
end
section
variable {X:Cx}
theorem pv (i:Nat) {x:Str} {pos:Pos} (hN:X.N[i]? = some x:=by rfl) (hv:Vis X.env.scope x:=by first | exact Or.inl rfl | exact Or.inr (Or.inl rfl) | exact Or.inr (Or.inr rfl)) (hd:(x == ("__debug__":Str))=false:=by decide)
  (hcd:(x == ("__classdict__":Str))=false:=by decide):PE X (.Name x pos) (jO i):=z8 hN hv hd hcd
end
theorem V2 {A B:Prop} (h:B):if false=true then A else B:=by
 rw [if_neg Bool.false_ne_true]
 exact h
theorem V1 {A B:Prop} (h:A):if true=true then A else B:=by
 rw [if_pos rfl]
 exact h
theorem Wy {c A B:Prop} [Decidable c] (h1:c→A) (h2:¬ c→B):if c then A else B:=by
 by_cases h:c
 ·rw [if_pos h]
  exact h1 h
 ·rw [if_neg h]
  exact h2 h
def Same (H H':Hp):Prop:=∀ b o,H b=some o→H' b=some o
theorem Same.refl (H:Hp):Same H H:=fun _ _ h=>h
theorem Same.trans {H H1 H2:Hp} (a:Same H H1) (b:Same H1 H2):Same H H2:=fun c o h=>b c o (a c o h)
theorem Same.free {H H':Hp} (e:Same H H') {l:Addr} (h:H' l=Option.none):H l=Option.none:=by
 cases q:H l with
 | none=>rfl
 | some o=>
  rw [e l o q] at h
  cases h
theorem Same.seq {K:PySem.W.Frag} {H H':Hp} {a:Addr} {xs:List V} (e:Same H H') (h:SqL K H a xs):SqL K H' a xs:=by
 rcases h with (h | ⟨o,h⟩) | h
 ·exact .inl (.inl (e _ _ h))
 ·exact .inl (.inr ⟨o,e _ _ h⟩)
 ·exact .inr h
end L2
set_option maxRecDepth 1000000
set_option maxHeartbeats 0
open PySem in
def My.top (i:Nat):Stmt:=PySem.Challenge.pw_oddbases_k34_shared.main.body.getD i (.Pass ⟨0,0,0,0⟩)
noncomputable section
open PySem My
namespace My
abbrev v_:Option Value:=some (.ref 6)
abbrev g_:Array GenState:=⟨[]⟩
abbrev d_:=@Drawn.mk 0 0 0 0
abbrev P_:=@Pos.mk
abbrev N_ (o:Params→Obj) (a b:Params→W.BT) (x:Params):W.BT:=.node (o x) (a x) (b x)
abbrev Z_ (_:Params):W.BT:=.nil
abbrev L_ (o:Params→Obj):=N_ o Z_ Z_
theorem sg_ {tb p w n₀ ann b} {n:Nat} {s s':W.SharedT} {t:Thread} {f:Flow} {c:Code} {q:Pos} (h:W.segRunT tb p w n₀ ann b n s t=some (f,s',c,q)):W.segRun tb p w n₀ ann b n s.abs t=some (f,s'.abs,c,q):=W.segRun_of h
abbrev p_ (a:String) (b:Nat):Value:=.str (.ofString a) b
abbrev j_ (a:Int) (b:Nat):Value:=.int a b
abbrev r_ (a:Nat):Value:=.ref a
abbrev e_ (x:Params) (a:String) (b:Nat) (v:Value):DictEntry:=⟨PyData.keyHash x (.ofString a),.str (.ofString a) b,v⟩
abbrev t0 (a1:String) (a3:Nat) (a7:String) (a8 a9:Nat) (x:Params):Obj:=(@Obj.mk (.type "function") none (@Data.func (@FuncData.mk (.ofString a1) (.ofString a1) (L2.defArgs (My.top a3)) (@FuncBody.stmts (L2.defBody (My.top a3))) (L2.defScope (My.top a3)) 3 (@List.nil (@Prod @Str @Nat)) .none .none .none (p_ a7 a8) none (r_ a9) .none 0)) #[])
abbrev t1 (a1:String) (a2:Nat) (a3:String) (a4 a6:Nat) (a7 a9:Int) (a17 a20 a21 a22 a23:Nat) (a24:Int) (a29:Nat) (x:Params):Obj:=(@Obj.mk (.type "code") none (@Data.fields (List.toArray [(p_ a1 a2),(p_ a3 a4),(p_ "/claim/cut.py" a6),(j_ a7 0),(j_ a9 0),(j_ 0 0),(j_ 0 0),(j_ 3 0),(r_ a17),(.bool @Bool.true),(j_ 181 0),(r_ a20),.none,(r_ a21),(r_ a22),(r_ a23),(j_ a24 0),(j_ a7 0),(p_ "/claim/cut.py" a29)])) #[])
abbrev t2 (a0:String) (a2:Nat) (x:Params):Obj:=(@Obj.mk .none none (@Data.func (@FuncData.mk (.ofString a0) (.ofString a0) (L2.defArgs (My.top a2)) (@FuncBody.stmts (L2.defBody (My.top a2))) (L2.defScope (My.top a2)) 0 (@List.nil (@Prod @Str @Nat)) .none .none .none .none none .none .none 0)) #[])
abbrev t3 (x:Params):Obj:=(@Obj.mk (.type "tuple") none (@Data.seq #[] 0) #[])
abbrev t4 (x:Params):Obj:=(@Obj.mk .none none (@Data.fields #[]) #[])
abbrev t5 (a1:String) (a2:Nat) (a3:String) (a4:Nat) (a5:String) (a6:Nat) (a7:String) (a8:Nat) (a9:String) (a10:Nat) (a11:String) (a12:Nat) (a13:String) (a14:Nat) (a15:String) (a16:Nat) (x:Params):Obj:=(@Obj.mk (.type "tuple") none (@Data.seq (List.toArray [(p_ a1 a2),(p_ a3 a4),(p_ a5 a6),(p_ a7 a8),(p_ a9 a10),(p_ a11 a12),(p_ a13 a14),(p_ a15 a16)]) 0) #[])
abbrev t6 (a1:String) (a2:Nat) (a3:String) (a4:Nat) (a5:String) (a6:Nat) (a7:String) (a8:Nat) (a9:String) (a10:Nat) (x:Params):Obj:=(@Obj.mk (.type "tuple") none (@Data.seq (List.toArray [(p_ a1 a2),(p_ a3 a4),(p_ a5 a6),(p_ a7 a8),(p_ a9 a10)]) 0) #[])
abbrev t7 (a1:String) (a2:Nat) (a3:String) (a4:Nat) (a5:String) (a6:Nat) (a7:String) (a8:Nat) (a9:String) (a10:Nat) (a11:String) (a12:Nat) (x:Params):Obj:=(@Obj.mk (.type "tuple") none (@Data.seq (List.toArray [(p_ a1 a2),(p_ a3 a4),(p_ a5 a6),(p_ a7 a8),(p_ a9 a10),(p_ a11 a12)]) 0) #[])
abbrev t8 (a1:String) (a2:Nat) (a3:String) (a4:Nat) (a5:String) (a6:Nat) (x:Params):Obj:=(@Obj.mk (.type "tuple") none (@Data.seq (List.toArray [(p_ a1 a2),(p_ a3 a4),(p_ a5 a6)]) 0) #[])
abbrev t9 (a1:String) (a2:Nat) (a3:String) (a4:Nat) (x:Params):Obj:=(@Obj.mk (.type "tuple") none (@Data.seq (List.toArray [(p_ a1 a2),(p_ a3 a4)]) 0) #[])
abbrev t10 (a1:String) (a2:Nat) (x:Params):Obj:=(@Obj.mk (.type "tuple") none (@Data.seq (List.toArray [(p_ a1 a2)]) 0) #[])
abbrev t11 (a1:String) (a2:Nat) (a3:String) (a4:Nat) (a5:String) (a6:Nat) (a7:String) (a8:Nat) (x:Params):Obj:=(@Obj.mk (.type "tuple") none (@Data.seq (List.toArray [(p_ a1 a2),(p_ a3 a4),(p_ a5 a6),(p_ a7 a8)]) 0) #[])
abbrev t12 (a1:String) (a2:Nat) (a3:String) (a4:Nat) (a5:String) (a6:Nat) (a7:String) (a8:Nat) (a9:String) (a10:Nat) (a11:String) (a12:Nat) (a13:String) (a14:Nat) (x:Params):Obj:=(@Obj.mk (.type "tuple") none (@Data.seq (List.toArray [(p_ a1 a2),(p_ a3 a4),(p_ a5 a6),(p_ a7 a8),(p_ a9 a10),(p_ a11 a12),(p_ a13 a14)]) 0) #[])
abbrev t13 (a2:Nat) (x:Params):Obj:=(@Obj.mk (.type "builtin_function_or_method") none (@Data.fields (List.toArray [(.builtin "object.__init_subclass__"),(r_ a2)])) #[])
abbrev t14 (a1:Nat) (x:Params):Obj:=(@Obj.mk (.type "super") none (@Data.fields (List.toArray [(r_ a1),(r_ a1),(r_ a1)])) #[])
abbrev t15 (a1:String) (a3 a6 a8 a10 a12:Nat) (x:Params):Obj:=(@Obj.mk (.type "type") none (@Data.cls (@ClassData.mk (.ofString a1) [(r_ 212)] [(r_ a3),(r_ 212),(.type "object")] a6 (.ofString a1) @Bool.true [] [] @Bool.false (@Option.none @Bool) @Bool.false)) (@List.toArray (@Option @Value) [(some (r_ a8)),none,(some (p_ a1 a10)),(some (p_ a1 a12)),(some (.builtin "object.__new__")),(some (.bool @Bool.true))]))
abbrev t16 (a1 a2:String) (a3 a4 a12:Nat) (x:Params):Obj:=(@Obj.mk (.type "function") none (@Data.func (@FuncData.mk (.ofString a1) (.ofString a2) (L2.defArgs (L2.inClass (My.top a3) a4)) (@FuncBody.stmts (L2.defBody (L2.inClass (My.top a3) a4))) (L2.defScope (L2.inClass (My.top a3) a4)) 3 (@List.nil (@Prod @Str @Nat)) .none .none .none (p_ "oddbases.ways" 369) none (r_ a12) .none 0)) #[])
abbrev t17 (a0 a1:String) (a2 a3:Nat) (x:Params):Obj:=(@Obj.mk .none none (@Data.func (@FuncData.mk (.ofString a0) (.ofString a1) (L2.defArgs (L2.inClass (My.top a2) a3)) (@FuncBody.stmts (L2.defBody (L2.inClass (My.top a2) a3))) (L2.defScope (L2.inClass (My.top a2) a3)) 0 (@List.nil (@Prod @Str @Nat)) .none .none .none .none none .none .none 0)) #[])
abbrev t18 (a1 a3:Nat) (a4:String) (a5:Nat) (x:Params):Obj:=(@Obj.mk (.type "frame") none @Data.plain (@List.toArray (@Option @Value) [(some (r_ a1)),(some (r_ 3)),(some (r_ a3)),none,(some (p_ a4 a5)),none,(some (r_ 0))]))
abbrev t19 (a1:String) (a2 a4 a6:Nat) (a7:Int) (a17 a20:Nat) (a21:Int) (a26:Nat) (x:Params):Obj:=(@Obj.mk (.type "code") none (@Data.fields (List.toArray [(p_ a1 a2),(p_ a1 a4),(p_ "/claim/cut.py" a6),(j_ a7 0),(j_ 0 0),(j_ 0 0),(j_ 0 0),(j_ 0 0),(r_ a17),(.bool @Bool.false),(j_ 181 0),(r_ a20),.none,.none,.none,.none,(j_ a21 0),(j_ a7 0),(p_ "/claim/cut.py" a26)])) #[])
abbrev t20 (a0:Int) (a4:Nat) (a5:Int) (a9:Nat) (a10:Int) (a14:Nat) (a15:Int) (a19:Nat) (a20:Int) (a24:Nat) (a25:Int) (a29:Nat) (x:Params):Obj:=(@Obj.mk .none none (@Data.fields (List.toArray [(j_ a0 0),(j_ 4 0),(r_ a4),(j_ a5 0),(j_ 4 0),(r_ a9),(j_ a10 0),(j_ 4 0),(r_ a14),(j_ a15 0),(j_ 4 0),(r_ a19),(j_ a20 0),(j_ 4 0),(r_ a24),(j_ a25 0),(j_ 4 0),(r_ a29)])) #[])
abbrev t21 (a3 a8:Nat) (a9:String) (a10 a13:Nat) (a14:Int) (a15:Nat) (a16:String) (a18 a19:Nat) (a20:String) (a22 a23:Nat) (a24:String) (a26 a27:Nat) (a28:String) (a30 a31 a34 a35 a38 a39 a42 a43:Nat) (x:Params):Obj:=(@Obj.mk (.type "dict") none (@Data.dict (List.toArray [(e_ x "__module__" a3 (p_ "oddbases.ways" 369)),(e_ x "__qualname__" a8 (p_ a9 a10)),(e_ x "__firstlineno__" a13 (j_ a14 a15)),(e_ x a16 a18 (r_ a19)),(e_ x a20 a22 (r_ a23)),(e_ x a24 a26 (r_ a27)),(e_ x a28 a30 (r_ a31)),(e_ x "split" a34 (r_ a35)),(e_ x "has" a38 (r_ a39)),(e_ x "__static_attributes__" a42 (r_ a43))]) 10) #[])
abbrev t22 (x:Params):Obj:=(@Obj.mk (.type "builtin_function_or_method") none (@Data.fields (List.toArray [(.builtin "type.__prepare__"),(.type "type")])) #[])
abbrev t23 (a1:Nat) (x:Params):Obj:=(@Obj.mk (.type "tuple") none (@Data.seq (List.toArray [(r_ a1)]) 0) #[])
abbrev t24 (a3 a8:Nat) (a9:Int) (a10 a13 a14:Nat) (a15:String) (a17 a18:Nat) (a19:String) (a21 a22 a25 a26:Nat) (a27:String) (a29 a30 a33 a34 a37:Nat) (x:Params):Obj:=(@Obj.mk (.type "dict") none (@Data.dict (List.toArray [(e_ x "__module__" a3 (p_ "oddbases.ways" 369)),(e_ x "__firstlineno__" a8 (j_ a9 a10)),(e_ x "__init__" a13 (r_ a14)),(e_ x a15 a17 (r_ a18)),(e_ x a19 a21 (r_ a22)),(e_ x "ratio" a25 (r_ a26)),(e_ x a27 a29 (r_ a30)),(e_ x "__static_attributes__" a33 (r_ a34)),(e_ x "__doc__" a37 .none)]) 2) #[])
abbrev t25 (a0:Int) (a4:Nat) (a5:Int) (a9:Nat) (a10:Int) (a14:Nat) (a15:Int) (a19:Nat) (a20:Int) (a24:Nat) (x:Params):Obj:=(@Obj.mk .none none (@Data.fields (List.toArray [(j_ a0 0),(j_ 4 0),(r_ a4),(j_ a5 0),(j_ 4 0),(r_ a9),(j_ a10 0),(j_ 4 0),(r_ a14),(j_ a15 0),(j_ 4 0),(r_ a19),(j_ a20 0),(j_ 4 0),(r_ a24)])) #[])
abbrev t26 (a3 a8:Nat) (a9:String) (a10 a13:Nat) (a14:Int) (a15 a18 a19:Nat) (a20:String) (a22 a23:Nat) (a24:String) (a26 a27 a30 a31:Nat) (a32:String) (a34 a35 a38 a39:Nat) (x:Params):Obj:=(@Obj.mk (.type "dict") none (@Data.dict (List.toArray [(e_ x "__module__" a3 (p_ "oddbases.ways" 369)),(e_ x "__qualname__" a8 (p_ a9 a10)),(e_ x "__firstlineno__" a13 (j_ a14 a15)),(e_ x "__init__" a18 (r_ a19)),(e_ x a20 a22 (r_ a23)),(e_ x a24 a26 (r_ a27)),(e_ x "ratio" a30 (r_ a31)),(e_ x a32 a34 (r_ a35)),(e_ x "__static_attributes__" a38 (r_ a39))]) 9) #[])
abbrev t27 (a3 a8:Nat) (a9:Int) (a10 a13 a14 a17 a18 a21 a22 a25 a26 a29:Nat) (x:Params):Obj:=(@Obj.mk (.type "dict") none (@Data.dict (List.toArray [(e_ x "__module__" a3 (p_ "oddbases.ways" 369)),(e_ x "__firstlineno__" a8 (j_ a9 a10)),(e_ x "__init__" a13 (r_ a14)),(e_ x "high" a17 (r_ a18)),(e_ x "ratio" a21 (r_ a22)),(e_ x "__static_attributes__" a25 (r_ a26)),(e_ x "__doc__" a29 .none)]) 2) #[])
abbrev t28 (a0:Int) (a4:Nat) (a5:Int) (a9:Nat) (a10:Int) (a14:Nat) (x:Params):Obj:=(@Obj.mk .none none (@Data.fields (List.toArray [(j_ a0 0),(j_ 4 0),(r_ a4),(j_ a5 0),(j_ 4 0),(r_ a9),(j_ a10 0),(j_ 4 0),(r_ a14)])) #[])
abbrev t29 (a3 a8:Nat) (a9:String) (a10 a13:Nat) (a14:Int) (a15 a18 a19 a22 a23 a26 a27 a30 a31:Nat) (x:Params):Obj:=(@Obj.mk (.type "dict") none (@Data.dict (List.toArray [(e_ x "__module__" a3 (p_ "oddbases.ways" 369)),(e_ x "__qualname__" a8 (p_ a9 a10)),(e_ x "__firstlineno__" a13 (j_ a14 a15)),(e_ x "__init__" a18 (r_ a19)),(e_ x "high" a22 (r_ a23)),(e_ x "ratio" a26 (r_ a27)),(e_ x "__static_attributes__" a30 (r_ a31))]) 7) #[])
abbrev t30 (a2 a3:Nat) (x:Params):Obj:=(@Obj.mk (.type "getset_descriptor") none (@Data.fields (List.toArray [(p_ "__weakref__" a2),(r_ a3),(.builtin "ExceptionGroup.__weakref__"),.none])) #[])
abbrev t31 (a1:String) (a3 a9 a11 a13 a15:Nat) (x:Params):Obj:=(@Obj.mk (.type "type") none (@Data.cls (@ClassData.mk (.ofString a1) [(r_ 31)] [(r_ a3),(r_ 31),(.type "ValueError"),(.type "Exception"),(.type "BaseException"),(.type "object")] a9 (.ofString a1) @Bool.true [] [] @Bool.false (@Option.none @Bool) @Bool.false)) (@List.toArray (@Option @Value) [(some (r_ a11)),none,(some (p_ a1 a13)),(some (p_ a1 a15)),(some (.builtin "ValueError.__new__")),(some (.bool @Bool.true))]))
abbrev t32 (a3 a8:Nat) (a9:Int) (a10 a13 a14 a17:Nat) (x:Params):Obj:=(@Obj.mk (.type "dict") none (@Data.dict (List.toArray [(e_ x "__module__" a3 (p_ "oddbases.errors" 194)),(e_ x "__firstlineno__" a8 (j_ a9 a10)),(e_ x "__static_attributes__" a13 (r_ a14)),(e_ x "__doc__" a17 .none)]) 2) #[])
abbrev t33 (a3 a8:Nat) (a9:String) (a10 a13:Nat) (a14:Int) (a15 a18 a19:Nat) (x:Params):Obj:=(@Obj.mk (.type "dict") none (@Data.dict (List.toArray [(e_ x "__module__" a3 (p_ "oddbases.errors" 194)),(e_ x "__qualname__" a8 (p_ a9 a10)),(e_ x "__firstlineno__" a13 (j_ a14 a15)),(e_ x "__static_attributes__" a18 (r_ a19))]) 4) #[])
abbrev U2 (x:Params):DictEntry:=(e_ x "__annotations__" 170 (r_ 6))
abbrev U1 (x:Params):DictEntry:=(e_ x "__file__" 173 (p_ "/claim/cut.py" 172))
abbrev U0 (x:Params):DictEntry:=(e_ x "__loader__" 168 (.builtin "__main__.__loader__#opaque"))
def cr:=t0 "law" 61 "law_oddbases_k34_shared" 975 686
def cu:=t1 "law" 1086 "law" 1087 1088 402 1 681 682 683 684 685 1099 1100
def Xx:=t2 "law" 61
def zb:=t3
def cv (x:Params):Obj:=(@Obj.mk (.type "tuple") none (@Data.seq (List.toArray [(p_ "_law_script" 1089),(p_ "_law_kind" 1090),(p_ "_law_by" 1091),(p_ "_law_way_here" 1092),(p_ "_law_row" 1093),(p_ "_law_cell" 1094),(p_ "_law_mixed_here" 1095),(p_ "_law_own" 1096),(p_ "_law_many" 1097),(p_ "_law_k" 1098)]) 0) #[])
def zi:=t4
def cw:=t0 "_law_right" 60 "law_oddbases_k34_shared" 975 679
def cx:=t1 "_law_right" 1072 "_law_right" 1073 1074 388 5 674 675 676 677 678 1083 1084
def Xy:=t2 "_law_right" 60
def cy:=t5 "_law_kind" 1075 "_law_by" 1076 "_law_way_here" 1077 "_law_row" 1078 "_law_many" 1079 "_law_handed" 1080 "_law_found" 1081 "_law_kept" 1082
def cz:=t0 "_law_number" 59 "law_oddbases_k34_shared" 975 672
def cA:=t1 "_law_number" 1058 "_law_number" 1059 1060 372 3 667 668 669 670 671 1069 1070
def Xz:=t2 "_law_number" 59
def cB:=t5 "_law_kind" 1061 "_law_by" 1062 "_law_row" 1063 "_law_here" 1064 "_law_total" 1065 "_law_lower" 1066 "_law_place" 1067 "_law_ahead" 1068
def cC:=t0 "_law_next" 58 "law_oddbases_k34_shared" 975 665
def cD:=t1 "_law_next" 1047 "_law_next" 1048 1049 364 5 660 661 662 663 664 1055 1056
def XA:=t2 "_law_next" 58
def cE:=t6 "_law_kind" 1050 "_law_by" 1051 "_law_place" 1052 "_law_here" 1053 "_law_lower" 1054
def cF:=t0 "_law_legal" 57 "law_oddbases_k34_shared" 975 658
def cG:=t1 "_law_legal" 1035 "_law_legal" 1036 1037 354 3 653 654 655 656 657 1044 1045
def XB:=t2 "_law_legal" 57
def cH:=t7 "_law_kind" 1038 "_law_by" 1039 "_law_row" 1040 "_law_place" 1041 "_law_low" 1042 "_law_high" 1043
def cI:=t0 "_law_figures" 56 "law_oddbases_k34_shared" 975 651
def cJ:=t1 "_law_figures" 1020 "_law_figures" 1021 1022 338 3 646 647 648 649 650 1032 1033
def XC:=t2 "_law_figures" 56
def cK (x:Params):Obj:=(@Obj.mk (.type "tuple") none (@Data.seq (List.toArray [(p_ "_law_kind" 1023),(p_ "_law_by" 1024),(p_ "_law_cells" 1025),(p_ "_law_row" 1026),(p_ "_law_place" 1027),(p_ "_law_mixed_here" 1028),(p_ "_law_low" 1029),(p_ "_law_high" 1030),(p_ "_law_some" 1031)]) 0) #[])
def cL:=t0 "_law_span" 55 "law_oddbases_k34_shared" 975 644
def cM:=t1 "_law_span" 1011 "_law_span" 1012 1013 328 3 639 640 641 642 643 1017 1018
def XD:=t2 "_law_span" 55
def cN:=t8 "_law_kind" 1014 "_law_by" 1015 "_law_place" 1016
def cO:=t0 "_law_way" 54 "law_oddbases_k34_shared" 975 637
def cP:=t1 "_law_way" 1003 "_law_way" 1004 1005 316 2 632 633 634 635 636 1008 1009
def XE:=t2 "_law_way" 54
def cQ:=t9 "_law_kind" 1006 "_law_by" 1007
def cS:=t0 "_law_pick" 53 "law_oddbases_k34_shared" 975 630
def cT:=t1 "_law_pick" 992 "_law_pick" 993 994 304 1 625 626 627 628 629 1000 1001
def XG:=t2 "_law_pick" 53
def cU:=t6 "_law_cell" 995 "_law_mixed_here" 996 "_law_kind" 997 "_law_rest" 998 "_law_some" 999
def cV:=t0 "_law_mixed" 52 "law_oddbases_k34_shared" 975 623
def cW:=t1 "_law_mixed" 985 "_law_mixed" 986 987 302 1 618 619 620 621 622 989 990
def XH:=t2 "_law_mixed" 52
def cX:=t10 "_law_cell" 988
def cY:=t0 "_law_cell_at" 51 "law_oddbases_k34_shared" 975 616
def cZ:=t1 "_law_cell_at" 977 "_law_cell_at" 978 979 298 2 611 612 613 614 615 982 983
def XI:=t2 "_law_cell_at" 51
def c5:=t9 "_law_script" 980 "_law_k" 981
def c6:=t0 "shared" 49 "oddbases.shares" 927 609
def c7:=t1 "shared" 965 "shared" 966 967 289 3 604 605 606 607 608 972 973
def XJ:=t2 "shared" 49
def c8:=t11 "way" 968 "row" 969 "many" 970 "parts" 971
def c9:=t0 "quotients_and_rest" 48 "oddbases.shares" 927 602
def c_:=t1 "quotients_and_rest" 956 "quotients_and_rest" 957 958 285 3 597 598 599 600 601 962 963
def XM:=t2 "quotients_and_rest" 48
def ba:=t8 "way" 959 "row" 960 "many" 961
def bb:=t0 "quotients_in_falling" 47 "oddbases.shares" 927 595
def bc:=t1 "quotients_in_falling" 942 "quotients_in_falling" 943 944 272 3 590 591 592 593 594 953 954
def XN:=t2 "quotients_in_falling" 47
def bf:=t5 "way" 945 "row" 946 "many" 947 "quotients" 948 "rest" 949 "ahead" 950 "place" 951 "total" 952
def bg:=t0 "quotients_by_ratio" 46 "oddbases.shares" 927 588
def bh:=t1 "quotients_by_ratio" 929 "quotients_by_ratio" 930 931 263 3 583 584 585 586 587 939 940
def XO:=t2 "quotients_by_ratio" 46
def bj:=t12 "way" 932 "row" 933 "many" 934 "quotients" 935 "rest" 936 "place" 937 "total" 938
def bn:=t0 "written_row" 44 "oddbases.writings" 881 581
def bo:=t1 "written_row" 919 "written_row" 920 921 258 2 576 577 578 579 580 924 925
def XQ:=t2 "written_row" 44
def bp:=t9 "way" 922 "row" 923
def bq:=t0 "held_to_be_writings" 43 "oddbases.writings" 881 574
def br:=t1 "held_to_be_writings" 910 "held_to_be_writings" 911 912 254 2 569 570 571 572 573 916 917
def XR:=t2 "held_to_be_writings" 43
def bu:=t8 "way" 913 "rows" 914 "row" 915
def bv:=t0 "is_writing" 42 "oddbases.writings" 881 567
def bw:=t1 "is_writing" 902 "is_writing" 903 904 248 2 562 563 564 565 566 907 908
def XS:=t2 "is_writing" 42
def bx:=t9 "way" 905 "row" 906
def bz:=t0 "has_mosts_above_noughts_alone" 41 "oddbases.writings" 881 560
def bA:=t1 "has_mosts_above_noughts_alone" 893 "has_mosts_above_noughts_alone" 894 895 243 2 555 556 557 558 559 899 900
def XT:=t2 "has_mosts_above_noughts_alone" 41
def bB:=t8 "way" 896 "row" 897 "place" 898
def bC:=t0 "has_figures_alone" 40 "oddbases.writings" 881 553
def bD:=t1 "has_figures_alone" 883 "has_figures_alone" 884 885 238 2 548 549 550 551 552 890 891
def XU:=t2 "has_figures_alone" 40
def bE:=t11 "way" 886 "row" 887 "place" 888 "thing" 889
def bF:=t0 "settled" 38 "oddbases.settling" 858 546
def bG:=t1 "settled" 873 "settled" 874 875 235 2 541 542 543 544 545 878 879
def XV:=t2 "settled" 38
def bH:=t9 "way" 876 "totals" 877
def bI:=t0 "figures_and_carries" 37 "oddbases.settling" 858 539
def bJ:=t1 "figures_and_carries" 860 "figures_and_carries" 861 862 220 2 534 535 536 537 538 870 871
def XW:=t2 "figures_and_carries" 37
def bK:=t12 "way" 863 "totals" 864 "figures" 865 "carry" 866 "found" 867 "place" 868 "parts" 869
def bL:=t0 "fallen" 35 "oddbases.falls" 784 532
def bM:=t1 "fallen" 850 "fallen" 851 852 217 2 527 528 529 530 531 855 856
def XX:=t2 "fallen" 35
def bN:=t9 "way" 853 "heap" 854
def bO:=t0 "steps_and_writing" 34 "oddbases.falls" 784 525
def bP:=t1 "steps_and_writing" 837 "steps_and_writing" 838 839 202 2 520 521 522 523 524 847 848
def XY:=t2 "steps_and_writing" 34
def bQ:=t12 "way" 840 "heap" 841 "done" 842 "left" 843 "place" 844 "step" 845 "many" 846
def bR:=t0 "how_often" 33 "oddbases.falls" 784 518
def bS:=t1 "how_often" 827 "how_often" 828 829 197 3 513 514 515 516 517 834 835
def XZ:=t2 "how_often" 33
def bT:=t11 "way" 830 "heap" 831 "step" 832 "place" 833
def bU:=t0 "step_at" 32 "oddbases.falls" 784 511
def bV:=t1 "step_at" 818 "step_at" 819 820 191 3 506 507 508 509 510 824 825
def X0:=t2 "step_at" 32
def bW:=t8 "way" 821 "heap" 822 "place" 823
def bX:=t0 "do_steps" 31 "oddbases.falls" 784 504
def bY:=t1 "do_steps" 806 "do_steps" 807 808 186 4 499 500 501 502 503 815 816
def X1:=t2 "do_steps" 31
def bZ:=t7 "way" 809 "heap" 810 "step" 811 "many" 812 "place" 813 "things" 814
def b_:=t0 "changes" 30 "oddbases.falls" 784 497
def aa:=t1 "changes" 795 "changes" 796 797 174 2 492 493 494 495 496 803 804
def X2:=t2 "changes" 30
def ac:=t6 "way" 798 "step" 799 "kind" 800 "place" 801 "parted" 802
def ad:=t0 "held_to_be_a_heap" 29 "oddbases.falls" 784 490
def ae:=t1 "held_to_be_a_heap" 786 "held_to_be_a_heap" 787 788 168 2 485 486 487 488 489 792 793
def X3:=t2 "held_to_be_a_heap" 29
def af:=t8 "way" 789 "heap" 790 "things" 791
def ag:=t0 "trimmed" 27 "oddbases.rows" 766 483
def ah:=t1 "trimmed" 776 "trimmed" 777 778 162 1 478 479 480 481 482 781 782
def X4:=t2 "trimmed" 27
def ai:=t9 "row" 779 "things" 780
def aj:=t0 "thing_at" 26 "oddbases.rows" 766 476
def ak:=t1 "thing_at" 768 "thing_at" 769 770 158 2 471 472 473 474 475 773 774
def X5:=t2 "thing_at" 26
def al:=t9 "row" 771 "place" 772
def X6:=t13 468
def X7:=t14 468
def ao:=t15 "Pairs" 468 467 417 697 705
def ap (x:Params):Obj:=(@Obj.mk (.type "dict") none (@Data.dict (List.toArray [(e_ x "__module__" 704 (p_ "oddbases.ways" 369)),(e_ x "__firstlineno__" 708 (j_ 134 707)),(e_ x "__init__" 716 (r_ 430)),(e_ x "nought" 723 (r_ 437)),(e_ x "high" 731 (r_ 444)),(e_ x "ratio" 739 (r_ 451)),(e_ x "split" 752 (r_ 458)),(e_ x "has" 760 (r_ 465)),(e_ x "__static_attributes__" 762 (r_ 466)),(e_ x "__doc__" 763 .none)]) 2) #[])
def aq:=t10 "most" 761
def au:=t16 "has" "Pairs.has" 24 5 464
def av:=t1 "has" 753 "Pairs.has" 754 755 155 2 459 460 461 462 463 758 759
def X8:=t17 "has" "Pairs.has" 24 5
def aw:=t9 "self" 756 "number" 757
def ax:=t16 "split" "Pairs.split" 24 4 457
def ay:=t1 "split" 740 "Pairs.split" 741 742 148 3 452 453 454 455 456 750 751
def X9:=t17 "split" "Pairs.split" 24 4
def az:=t12 "self" 743 "total" 744 "place" 745 "pair" 746 "figures" 747 "figure" 748 "turned" 749
def aA:=t16 "ratio" "Pairs.ratio" 24 3 450
def aB:=t1 "ratio" 732 "Pairs.ratio" 733 734 145 2 445 446 447 448 449 737 738
def X_:=t17 "ratio" "Pairs.ratio" 24 3
def aC:=t9 "self" 735 "place" 736
def aD:=t16 "high" "Pairs.high" 24 2 443
def aE:=t1 "high" 724 "Pairs.high" 725 726 142 2 438 439 440 441 442 729 730
def Wa:=t17 "high" "Pairs.high" 24 2
def aF:=t9 "self" 727 "place" 728
def aG:=t16 "nought" "Pairs.nought" 24 1 436
def aH:=t1 "nought" 717 "Pairs.nought" 718 719 139 1 431 432 433 434 435 721 722
def Wb:=t17 "nought" "Pairs.nought" 24 1
def aI:=t10 "self" 720
def aJ:=t16 "__init__" "Pairs.__init__" 24 0 429
def aK:=t1 "__init__" 709 "Pairs.__init__" 710 711 136 2 424 425 426 427 428 714 715
def Wc:=t17 "__init__" "Pairs.__init__" 24 0
def aL:=t9 "self" 712 "most" 713
def Wd:=t18 422 419 "oddbases.ways" 369
def We:=t19 "Pairs" 699 700 701 134 420 421 702 703
def Wf:=t20 136 429 139 436 142 443 145 450 148 457 155 464
def Wg:=t21 704 706 "Pairs" 705 708 134 707 "__init__" 716 430 "nought" 723 437 "high" 731 444 "ratio" 739 451 752 458 760 465 762 466
def zK:=t22
def y_:=t23 212
def Wh:=t13 414
def Wi:=t14 414
def aN:=t15 "Falling" 414 413 370 639 647
def aO:=t24 646 650 118 649 658 383 "high" 666 390 "weights" 674 397 682 404 "split" 691 411 693 412 694
def aP:=t10 "most" 692
def aQ:=t16 "split" "Falling.split" 23 4 410
def aR:=t1 "split" 683 "Falling.split" 684 685 132 3 405 406 407 408 409 689 690
def Wj:=t17 "split" "Falling.split" 23 4
def aS:=t8 "self" 686 "total" 687 "place" 688
def aU:=t16 "ratio" "Falling.ratio" 23 3 403
def aV:=t1 "ratio" 675 "Falling.ratio" 676 677 129 2 398 399 400 401 402 680 681
def Wk:=t17 "ratio" "Falling.ratio" 23 3
def aW:=t9 "self" 678 "place" 679
def aX:=t16 "weights" "Falling.weights" 23 2 396
def aY:=t1 "weights" 667 "Falling.weights" 668 669 126 2 391 392 393 394 395 672 673
def Wl:=t17 "weights" "Falling.weights" 23 2
def aZ:=t9 "self" 670 "many" 671
def a_:=t16 "high" "Falling.high" 23 1 389
def Za:=t1 "high" 659 "Falling.high" 660 661 123 2 384 385 386 387 388 664 665
def Wm:=t17 "high" "Falling.high" 23 1
def Zb:=t9 "self" 662 "place" 663
def Zc:=t16 "__init__" "Falling.__init__" 23 0 382
def Zd:=t1 "__init__" 651 "Falling.__init__" 652 653 120 2 377 378 379 380 381 656 657
def Wn:=t17 "__init__" "Falling.__init__" 23 0
def Ze:=t9 "self" 654 "most" 655
def Wo:=t18 375 372 "oddbases.ways" 369
def Wp:=t19 "Falling" 641 642 643 118 373 374 644 645
def Wq:=t25 120 382 123 389 126 396 129 403 132 410
def Wr:=t26 646 648 "Falling" 647 650 118 649 658 383 "high" 666 390 "weights" 674 397 682 404 "split" 691 411 693 412
def Zf:=t13 367
def Zg:=t14 367
def ir:=t15 "Growing" 367 366 337 598 606
def iw:=t27 605 609 108 608 617 350 625 357 633 364 635 365 636
def iy:=t10 "first" 634
def iz:=t16 "ratio" "Growing.ratio" 22 2 363
def iA:=t1 "ratio" 626 "Growing.ratio" 627 628 116 2 358 359 360 361 362 631 632
def Zh:=t17 "ratio" "Growing.ratio" 22 2
def iB:=t9 "self" 629 "place" 630
def iC:=t16 "high" "Growing.high" 22 1 356
def iD:=t1 "high" 618 "Growing.high" 619 620 113 2 351 352 353 354 355 623 624
def Zi:=t17 "high" "Growing.high" 22 1
def iE:=t9 "self" 621 "place" 622
def iF:=t16 "__init__" "Growing.__init__" 22 0 349
def iG:=t1 "__init__" 610 "Growing.__init__" 611 612 110 2 344 345 346 347 348 615 616
def Zj:=t17 "__init__" "Growing.__init__" 22 0
def iH:=t9 "self" 613 "first" 614
def Zk:=t18 342 339 "oddbases.ways" 369
def Zl:=t19 "Growing" 600 601 602 108 340 341 603 604
def Zm:=t28 110 349 113 356 116 363
def Zo:=t29 605 607 "Growing" 606 609 108 608 617 350 625 357 633 364 635 365
def Zp:=t13 334
def Zq:=t14 334
def iI:=t15 "Balanced" 334 333 290 541 549
def iJ:=t24 548 552 92 551 560 303 "low" 568 310 "high" 576 317 584 324 "has" 592 331 594 332 595
def iK:=t10 "half" 593
def iL:=t16 "has" "Balanced.has" 21 4 330
def iM:=t1 "has" 585 "Balanced.has" 586 587 106 2 325 326 327 328 329 590 591
def Zr:=t17 "has" "Balanced.has" 21 4
def iN:=t9 "self" 588 "number" 589
def iO:=t16 "ratio" "Balanced.ratio" 21 3 323
def iP:=t1 "ratio" 577 "Balanced.ratio" 578 579 103 2 318 319 320 321 322 582 583
def Zs:=t17 "ratio" "Balanced.ratio" 21 3
def iQ:=t9 "self" 580 "place" 581
def iR:=t16 "high" "Balanced.high" 21 2 316
def iS:=t1 "high" 569 "Balanced.high" 570 571 100 2 311 312 313 314 315 574 575
def Zt:=t17 "high" "Balanced.high" 21 2
def iT:=t9 "self" 572 "place" 573
def iU:=t16 "low" "Balanced.low" 21 1 309
def iV:=t1 "low" 561 "Balanced.low" 562 563 97 2 304 305 306 307 308 566 567
def Zu:=t17 "low" "Balanced.low" 21 1
def iW:=t9 "self" 564 "place" 565
def iX:=t16 "__init__" "Balanced.__init__" 21 0 302
def iY:=t1 "__init__" 553 "Balanced.__init__" 554 555 94 2 297 298 299 300 301 558 559
def Zv:=t17 "__init__" "Balanced.__init__" 21 0
def iZ:=t9 "self" 556 "half" 557
def Zw:=t18 295 292 "oddbases.ways" 369
def Zy:=t19 "Balanced" 543 544 545 92 293 294 546 547
def Zz:=t25 94 302 97 309 100 316 103 323 106 330
def ZA:=t26 548 550 "Balanced" 549 552 92 551 560 303 "low" 568 310 "high" 576 317 584 324 "has" 592 331 594 332
def ZB:=t13 287
def ZC:=t14 287
def i6:=t15 "Below" 287 286 250 492 500
def i7 (x:Params):Obj:=(@Obj.mk (.type "dict") none (@Data.dict (List.toArray [(e_ x "__module__" 499 (p_ "oddbases.ways" 369)),(e_ x "__firstlineno__" 503 (j_ 79 502)),(e_ x "__init__" 511 (r_ 263)),(e_ x "high" 519 (r_ 270)),(e_ x "ratio" 527 (r_ 277)),(e_ x "has" 535 (r_ 284)),(e_ x "__static_attributes__" 537 (r_ 285)),(e_ x "__doc__" 538 .none)]) 2) #[])
def i8:=t10 "base" 536
def i9:=t16 "has" "Below.has" 20 3 283
def i_:=t1 "has" 528 "Below.has" 529 530 90 2 278 279 280 281 282 533 534
def ZD:=t17 "has" "Below.has" 20 3
def hG:=t9 "self" 531 "number" 532
def hI:=t16 "ratio" "Below.ratio" 20 2 276
def hU:=t1 "ratio" 520 "Below.ratio" 521 522 87 2 271 272 273 274 275 525 526
def ZE:=t17 "ratio" "Below.ratio" 20 2
def hV:=t9 "self" 523 "place" 524
def hW:=t16 "high" "Below.high" 20 1 269
def hZ:=t1 "high" 512 "Below.high" 513 514 84 2 264 265 266 267 268 517 518
def ZF:=t17 "high" "Below.high" 20 1
def h7:=t9 "self" 515 "place" 516
def h8:=t16 "__init__" "Below.__init__" 20 0 262
def h9:=t1 "__init__" 504 "Below.__init__" 505 506 81 2 257 258 259 260 261 509 510
def ZG:=t17 "__init__" "Below.__init__" 20 0
def h_:=t9 "self" 507 "base" 508
def ZH:=t18 255 252 "oddbases.ways" 369
def ZI:=t19 "Below" 494 495 496 79 253 254 497 498
def ZJ (x:Params):Obj:=(@Obj.mk .none none (@Data.fields (List.toArray [(j_ 81 0),(j_ 4 0),(r_ 262),(j_ 84 0),(j_ 4 0),(r_ 269),(j_ 87 0),(j_ 4 0),(r_ 276),(j_ 90 0),(j_ 4 0),(r_ 283)])) #[])
def ZK (x:Params):Obj:=(@Obj.mk (.type "dict") none (@Data.dict (List.toArray [(e_ x "__module__" 499 (p_ "oddbases.ways" 369)),(e_ x "__qualname__" 501 (p_ "Below" 500)),(e_ x "__firstlineno__" 503 (j_ 79 502)),(e_ x "__init__" 511 (r_ 263)),(e_ x "high" 519 (r_ 270)),(e_ x "ratio" 527 (r_ 277)),(e_ x "has" 535 (r_ 284)),(e_ x "__static_attributes__" 537 (r_ 285))]) 8) #[])
def ZL:=t13 247
def ZM:=t14 247
def gb:=t15 "Plain" 247 246 217 451 459
def gc:=t27 458 462 69 461 470 230 478 237 486 244 488 245 489
def gd:=t10 "base" 487
def ge:=t16 "ratio" "Plain.ratio" 19 2 243
def gf:=t1 "ratio" 479 "Plain.ratio" 480 481 77 2 238 239 240 241 242 484 485
def ZN:=t17 "ratio" "Plain.ratio" 19 2
def gg:=t9 "self" 482 "place" 483
def gh:=t16 "high" "Plain.high" 19 1 236
def gi:=t1 "high" 471 "Plain.high" 472 473 74 2 231 232 233 234 235 476 477
def ZO:=t17 "high" "Plain.high" 19 1
def gj:=t9 "self" 474 "place" 475
def gk:=t16 "__init__" "Plain.__init__" 19 0 229
def gm:=t1 "__init__" 463 "Plain.__init__" 464 465 71 2 224 225 226 227 228 468 469
def ZP:=t17 "__init__" "Plain.__init__" 19 0
def gp:=t9 "self" 466 "base" 467
def ZQ:=t18 222 219 "oddbases.ways" 369
def ZR:=t19 "Plain" 453 454 455 69 220 221 456 457
def ZS:=t28 71 229 74 236 77 243
def ZT:=t29 458 460 "Plain" 459 462 69 461 470 230 478 237 486 244 488 245
def ZU:=t13 212
def ZV:=t14 212
def gq:=t30 446 212
def gu (x:Params):Obj:=(@Obj.mk (.type "getset_descriptor") none (@Data.fields (List.toArray [(p_ "__dict__" 444),(r_ 212),(.builtin "function.__dict__"),(.builtin "function.__dict__#set")])) #[])
def aM (x:Params):Obj:=(@Obj.mk (.type "type") none (@Data.cls (@ClassData.mk (.ofString "Way") [(.type "object")] [(r_ 212),(.type "object")] 211 (.ofString "Way") @Bool.true [] [(r_ 247),(r_ 287),(r_ 334),(r_ 367),(r_ 414),(r_ 468)] @Bool.false (@Option.none @Bool) @Bool.false)) (@List.toArray (@Option @Value) [none,none,(some (p_ "Way" 380)),(some (p_ "Way" 388)),(some (.builtin "object.__new__")),(some (.bool @Bool.true))]))
def gv (x:Params):Obj:=(@Obj.mk (.type "dict") none (@Data.dict (List.toArray [(e_ x "__module__" 387 (p_ "oddbases.ways" 369)),(e_ x "__firstlineno__" 391 (j_ 47 390)),(e_ x "nought" 398 (r_ 174)),(e_ x "low" 406 (r_ 181)),(e_ x "weights" 414 (r_ 188)),(e_ x "weight" 422 (r_ 195)),(e_ x "split" 434 (r_ 202)),(e_ x "has" 442 (r_ 209)),(e_ x "__static_attributes__" 443 (r_ 210)),(e_ x "__dict__" 445 (r_ 213)),(e_ x "__weakref__" 447 (r_ 214)),(e_ x "__doc__" 448 .none)]) 4) #[])
def gw:=t16 "has" "Way.has" 18 5 208
def gx:=t1 "has" 435 "Way.has" 436 437 67 2 203 204 205 206 207 440 441
def ZW:=t17 "has" "Way.has" 18 5
def gz:=t9 "self" 438 "number" 439
def gA:=t16 "split" "Way.split" 18 4 201
def gB:=t1 "split" 423 "Way.split" 424 425 61 3 196 197 198 199 200 432 433
def ZX:=t17 "split" "Way.split" 18 4
def gC:=t7 "self" 426 "total" 427 "place" 428 "low" 429 "figures" 430 "figure" 431
def gD:=t16 "weight" "Way.weight" 18 3 194
def gE:=t1 "weight" 415 "Way.weight" 416 417 58 2 189 190 191 192 193 420 421
def ZY:=t17 "weight" "Way.weight" 18 3
def gF:=t9 "self" 418 "place" 419
def gG:=t16 "weights" "Way.weights" 18 2 187
def gH:=t1 "weights" 407 "Way.weights" 408 409 55 2 182 183 184 185 186 412 413
def ZZ:=t17 "weights" "Way.weights" 18 2
def gJ:=t9 "self" 410 "many" 411
def gK:=t16 "low" "Way.low" 18 1 180
def gL:=t1 "low" 399 "Way.low" 400 401 52 2 175 176 177 178 179 404 405
def Z0:=t17 "low" "Way.low" 18 1
def gM:=t9 "self" 402 "place" 403
def gN:=t16 "nought" "Way.nought" 18 0 173
def gO:=t1 "nought" 392 "Way.nought" 393 394 49 1 168 169 170 171 172 396 397
def Z1:=t17 "nought" "Way.nought" 18 0
def gP:=t10 "self" 395
def Z2:=t18 166 163 "oddbases.ways" 369
def Z3:=t19 "Way" 382 383 384 47 164 165 385 386
def Z4:=t20 49 173 52 180 55 187 58 194 61 201 67 208
def Z5:=t21 387 389 "Way" 388 391 47 390 "nought" 398 174 "low" 406 181 "weights" 414 188 "weight" 422 195 434 202 442 209 443 210
def lR:=t0 "bounded" 17 "oddbases.ways" 369 159
def lS:=t1 "bounded" 371 "bounded" 372 373 43 3 154 155 156 157 158 377 378
def gQ:=t2 "bounded" 17
def lT:=t8 "number" 374 "least" 375 "most" 376
def lU:=t0 "multiplied" 15 "oddbases.pairs" 326 152
def lV:=t1 "multiplied" 359 "multiplied" 360 361 36 2 147 148 149 150 151 366 367
def gR:=t2 "multiplied" 15
def lW:=t11 "one" 362 "other" 363 "left" 364 "right" 365
def lX:=t0 "added" 14 "oddbases.pairs" 326 145
def lY:=t1 "added" 349 "added" 350 351 30 2 140 141 142 143 144 356 357
def gT:=t2 "added" 14
def lZ:=t11 "one" 352 "other" 353 "left" 354 "right" 355
def l4:=t0 "as_pair" 13 "oddbases.pairs" 326 138
def l5:=t1 "as_pair" 342 "as_pair" 343 344 26 1 133 134 135 136 137 346 347
def gU:=t2 "as_pair" 13
def l6:=t10 "number" 345
def l7:=t0 "is_pair" 12 "oddbases.pairs" 326 131
def l8:=t1 "is_pair" 335 "is_pair" 336 337 24 1 126 127 128 129 130 339 340
def gW:=t2 "is_pair" 12
def l9:=t10 "value" 338
def l_:=t0 "is_whole" 11 "oddbases.pairs" 326 124
def ka:=t1 "is_whole" 328 "is_whole" 329 330 22 1 119 120 121 122 123 332 333
def gX:=t2 "is_whole" 11
def kb:=t10 "value" 331
def gY:=t13 116
def gZ:=t14 116
def kd:=t31 "Nought" 116 115 107 310 318
def kf:=t32 317 321 19 320 322 114 323
def g6:=t18 112 109 "oddbases.errors" 194
def g7:=t19 "Nought" 312 313 314 19 110 111 315 316
def g8:=t33 317 319 "Nought" 318 321 19 320 322 114
def z9:=t23 31
def g9:=t13 104
def fb:=t14 104
def kh:=t31 "NoPairs" 104 103 95 294 302
def ki:=t32 301 305 17 304 306 102 307
def fc:=t18 100 97 "oddbases.errors" 194
def fe:=t19 "NoPairs" 296 297 298 17 98 99 299 300
def ff:=t33 301 303 "NoPairs" 302 305 17 304 306 102
def fg:=t13 92
def fh:=t14 92
def kj:=t31 "NoFalling" 92 91 83 278 286
def kl:=t32 285 289 15 288 290 90 291
def fj:=t18 88 85 "oddbases.errors" 194
def fk:=t19 "NoFalling" 280 281 282 15 86 87 283 284
def fm:=t33 285 287 "NoFalling" 286 289 15 288 290 90
def fo:=t13 80
def fq:=t14 80
def km:=t31 "NoRatio" 80 79 71 262 270
def kn:=t32 269 273 13 272 274 78 275
def ft:=t18 76 73 "oddbases.errors" 194
def fu:=t19 "NoRatio" 264 265 266 13 74 75 267 268
def fv:=t33 269 271 "NoRatio" 270 273 13 272 274 78
def fw:=t13 68
def fA:=t14 68
def ko:=t31 "TooLess" 68 67 59 246 254
def kq:=t32 253 257 11 256 258 66 259
def fB:=t18 64 61 "oddbases.errors" 194
def fC:=t19 "TooLess" 248 249 250 11 62 63 251 252
def fD:=t33 253 255 "TooLess" 254 257 11 256 258 66
def fE:=t13 56
def o99:=t14 56
def o98:=t31 "NoWriting" 56 55 47 230 238
def o97:=t32 237 241 9 240 242 54 243
def o95:=t18 52 49 "oddbases.errors" 194
def o94:=t19 "NoWriting" 232 233 234 9 50 51 235 236
def o91:=t33 237 239 "NoWriting" 238 241 9 240 242 54
def o85:=t13 44
def o84:=t14 44
def o83:=t31 "NoWay" 44 43 35 214 222
def o82:=t32 221 225 7 224 226 42 227
def o80:=t18 40 37 "oddbases.errors" 194
def o79:=t19 "NoWay" 216 217 218 7 38 39 219 220
def o76:=t33 221 223 "NoWay" 222 225 7 224 226 42
def o70:=t13 31
def o69:=t14 31
def o68:=t30 209 31
def kg (x:Params):Obj:=(@Obj.mk (.type "type") none (@Data.cls (@ClassData.mk (.ofString "OddError") [(.type "ValueError")] [(r_ 31),(.type "ValueError"),(.type "Exception"),(.type "BaseException"),(.type "object")] 30 (.ofString "OddError") @Bool.true [] [(r_ 44),(r_ 56),(r_ 68),(r_ 80),(r_ 92),(r_ 104),(r_ 116)] @Bool.false (@Option.none @Bool) @Bool.false)) (@List.toArray (@Option @Value) [(some (r_ 22)),none,(some (p_ "OddError" 196)),(some (p_ "OddError" 204)),(some (.builtin "ValueError.__new__")),(some (.bool @Bool.true))]))
def o66 (x:Params):Obj:=(@Obj.mk (.type "dict") none (@Data.dict (List.toArray [(e_ x "__module__" 203 (p_ "oddbases.errors" 194)),(e_ x "__firstlineno__" 207 (j_ 5 206)),(e_ x "__static_attributes__" 208 (r_ 29)),(e_ x "__weakref__" 210 (r_ 32)),(e_ x "__doc__" 211 .none)]) 3) #[])
def o64:=t18 27 24 "oddbases.errors" 194
def o63:=t19 "OddError" 198 199 200 5 25 26 201 202
def o60:=t33 203 205 "OddError" 204 207 5 206 208 29
def o58 (x:Params):Obj:=(@Obj.mk (.type "tuple") none (@Data.seq (List.toArray [(.type "ValueError")]) 0) #[])
def o57:=t0 "_wall" 0 "__main__" 164 20
def o56:=t1 "_wall" 187 "_wall" 188 189 1 1 15 16 17 18 19 191 192
def o55:=t2 "_wall" 0
def o53:=t10 "k" 190
def o46:=t18 13 3 "__main__" 164
def o45:=t19 "<module>" 182 183 184 1 11 12 185 186
def XF (x:Params):Obj:=(@Obj.mk .none none (@Data.fields (List.toArray ((j_ 1 0)::(j_ 0 0)::(r_ 20)::(j_ 5 0)::(j_ 0 0)::(r_ 27)::(j_ 7 0)::(j_ 0 0)::(r_ 40)::(j_ 9 0)::(j_ 0 0)::(r_ 52)::(j_ 11 0)::(j_ 0 0)::(r_ 64)::(j_ 13 0)::(j_ 0 0)::(r_ 76)::(j_ 15 0)::(j_ 0 0)::(r_ 88)::(j_ 17 0)::(j_ 0 0)::(r_ 100)::(j_ 19 0)::(j_ 0 0)::(r_ 112)::(j_ 22 0)::(j_ 0 0)::(r_ 124)::(j_ 24 0)::(j_ 0 0)::(r_ 131)::(j_ 26 0)::(j_ 0 0)::(r_ 138)::(j_ 30 0)::(j_ 0 0)::(r_ 145)::(j_ 36 0)::(j_ 0 0)::(r_ 152)::(j_ 43 0)::(j_ 0 0)::(r_ 159)::(j_ 47 0)::(j_ 0 0)::(r_ 166)::(j_ 69 0)::(j_ 0 0)::(r_ 222)::(j_ 79 0)::(j_ 0 0)::(r_ 255)::(j_ 92 0)::(j_ 0 0)::(r_ 295)::(j_ 108 0)::(j_ 0 0)::(r_ 342)::(j_ 118 0)::(j_ 0 0)::(r_ 375)::(j_ 134 0)::(j_ 0 0)::(r_ 422)::(j_ 158 0)::(j_ 0 0)::(r_ 476)::(j_ 162 0)::(j_ 0 0)::(r_ 483)::(j_ 168 0)::(j_ 0 0)::(r_ 490)::(j_ 174 0)::(j_ 0 0)::(r_ 497)::(j_ 186 0)::(j_ 0 0)::(r_ 504)::(j_ 191 0)::(j_ 0 0)::(r_ 511)::(j_ 197 0)::(j_ 0 0)::(r_ 518)::(j_ 202 0)::(j_ 0 0)::(r_ 525)::(j_ 217 0)::(j_ 0 0)::(r_ 532)::(j_ 220 0)::(j_ 0 0)::(r_ 539)::(j_ 235 0)::(j_ 0 0)::(r_ 546)::(j_ 238 0)::(j_ 0 0)::(r_ 553)::(j_ 243 0)::(j_ 0 0)::(r_ 560)::(j_ 248 0)::(j_ 0 0)::(r_ 567)::(j_ 254 0)::(j_ 0 0)::(r_ 574)::(j_ 258 0)::(j_ 0 0)::(r_ 581)::(j_ 263 0)::(j_ 0 0)::(r_ 588)::(j_ 272 0)::(j_ 0 0)::(r_ 595)::(j_ 285 0)::(j_ 0 0)::(r_ 602)::(j_ 289 0)::(j_ 0 0)::(r_ 609)::(j_ 298 0)::(j_ 0 0)::(r_ 616)::(j_ 302 0)::(j_ 0 0)::(r_ 623)::(j_ 304 0)::(j_ 0 0)::(r_ 630)::(j_ 316 0)::(j_ 0 0)::(r_ 637)::(j_ 328 0)::(j_ 0 0)::(r_ 644)::(j_ 338 0)::(j_ 0 0)::(r_ 651)::(j_ 354 0)::(j_ 0 0)::(r_ 658)::(j_ 364 0)::(j_ 0 0)::(r_ 665)::(j_ 372 0)::(j_ 0 0)::(r_ 672)::(j_ 388 0)::(j_ 0 0)::(r_ 679)::(j_ 402 0)::(j_ 0 0)::(r_ 686)::[]))) #[])
def cR (x:Params):Obj:=(@Obj.mk (.type "dict") none (@Data.dict (List.toArray ((e_ x "__name__" 165 (p_ "law_oddbases_k34_shared" 975))::(e_ x "__doc__" 166 .none)::(e_ x "__package__" 167 .none)::(U0 x)::(e_ x "__spec__" 169 .none)::(U2 x)::(e_ x "__builtins__" 171 (r_ 4))::(U1 x)::(e_ x "__cached__" 174 .none)::(e_ x "_wall" 193 (r_ 21))::(e_ x "OddError" 213 (r_ 31))::(e_ x "NoWay" 229 (r_ 44))::(e_ x "NoWriting" 245 (r_ 56))::(e_ x "TooLess" 261 (r_ 68))::(e_ x "NoRatio" 277 (r_ 80))::(e_ x "NoFalling" 293 (r_ 92))::(e_ x "NoPairs" 309 (r_ 104))::(e_ x "Nought" 325 (r_ 116))::(e_ x "is_whole" 334 (r_ 125))::(e_ x "is_pair" 341 (r_ 132))::(e_ x "as_pair" 348 (r_ 139))::(e_ x "added" 358 (r_ 146))::(e_ x "multiplied" 368 (r_ 153))::(e_ x "bounded" 379 (r_ 160))::(e_ x "Way" 450 (r_ 212))::(e_ x "Plain" 491 (r_ 247))::(e_ x "Below" 540 (r_ 287))::(e_ x "Balanced" 597 (r_ 334))::(e_ x "Growing" 638 (r_ 367))::(e_ x "Falling" 696 (r_ 414))::(e_ x "Pairs" 765 (r_ 468))::(e_ x "thing_at" 775 (r_ 477))::(e_ x "trimmed" 783 (r_ 484))::(e_ x "held_to_be_a_heap" 794 (r_ 491))::(e_ x "changes" 805 (r_ 498))::(e_ x "do_steps" 817 (r_ 505))::(e_ x "step_at" 826 (r_ 512))::(e_ x "how_often" 836 (r_ 519))::(e_ x "steps_and_writing" 849 (r_ 526))::(e_ x "fallen" 857 (r_ 533))::(e_ x "figures_and_carries" 872 (r_ 540))::(e_ x "settled" 880 (r_ 547))::(e_ x "has_figures_alone" 892 (r_ 554))::(e_ x "has_mosts_above_noughts_alone" 901 (r_ 561))::(e_ x "is_writing" 909 (r_ 568))::(e_ x "held_to_be_writings" 918 (r_ 575))::(e_ x "written_row" 926 (r_ 582))::(e_ x "quotients_by_ratio" 941 (r_ 589))::(e_ x "quotients_in_falling" 955 (r_ 596))::(e_ x "quotients_and_rest" 964 (r_ 603))::(e_ x "shared" 974 (r_ 610))::(e_ x "_law_cell_at" 984 (r_ 617))::(e_ x "_law_mixed" 991 (r_ 624))::(e_ x "_law_pick" 1002 (r_ 631))::(e_ x "_law_way" 1010 (r_ 638))::(e_ x "_law_span" 1019 (r_ 645))::(e_ x "_law_figures" 1034 (r_ 652))::(e_ x "_law_legal" 1046 (r_ 659))::(e_ x "_law_next" 1057 (r_ 666))::(e_ x "_law_number" 1071 (r_ 673))::(e_ x "_law_right" 1085 (r_ 680))::(e_ x "law" 1101 (r_ 687))::[])) 62) #[])
def VT (x:Params):Obj:=(@Obj.mk (.type "type") none (@Data.cls (@ClassData.mk (.ofString "Way") [(.type "object")] [(r_ 212),(.type "object")] 211 (.ofString "Way") @Bool.true [] [(r_ 247),(r_ 287),(r_ 334),(r_ 367)] @Bool.false (@Option.none @Bool) @Bool.false)) (@List.toArray (@Option @Value) [none,none,(some (p_ "Way" 380)),(some (p_ "Way" 388)),(some (.builtin "object.__new__")),(some (.bool @Bool.true))]))
def VU (x:Params):Obj:=(@Obj.mk .none none (@Data.fields (List.toArray [(j_ 1 0),(j_ 0 0),(r_ 20),(j_ 5 0),(j_ 0 0),(r_ 27),(j_ 7 0),(j_ 0 0),(r_ 40),(j_ 9 0),(j_ 0 0),(r_ 52),(j_ 11 0),(j_ 0 0),(r_ 64),(j_ 13 0),(j_ 0 0),(r_ 76),(j_ 15 0),(j_ 0 0),(r_ 88),(j_ 17 0),(j_ 0 0),(r_ 100),(j_ 19 0),(j_ 0 0),(r_ 112),(j_ 22 0),(j_ 0 0),(r_ 124),(j_ 24 0),(j_ 0 0),(r_ 131),(j_ 26 0),(j_ 0 0),(r_ 138),(j_ 30 0),(j_ 0 0),(r_ 145),(j_ 36 0),(j_ 0 0),(r_ 152),(j_ 43 0),(j_ 0 0),(r_ 159),(j_ 47 0),(j_ 0 0),(r_ 166),(j_ 69 0),(j_ 0 0),(r_ 222),(j_ 79 0),(j_ 0 0),(r_ 255),(j_ 92 0),(j_ 0 0),(r_ 295),(j_ 108 0),(j_ 0 0),(r_ 342)])) #[])
def VV (x:Params):Obj:=(@Obj.mk (.type "dict") none (@Data.dict (List.toArray [(e_ x "__name__" 165 (p_ "oddbases.ways" 369)),(e_ x "__doc__" 166 .none),(e_ x "__package__" 167 .none),(U0 x),(e_ x "__spec__" 169 .none),(U2 x),(e_ x "__builtins__" 171 (r_ 4)),(U1 x),(e_ x "__cached__" 174 .none),(e_ x "_wall" 193 (r_ 21)),(e_ x "OddError" 213 (r_ 31)),(e_ x "NoWay" 229 (r_ 44)),(e_ x "NoWriting" 245 (r_ 56)),(e_ x "TooLess" 261 (r_ 68)),(e_ x "NoRatio" 277 (r_ 80)),(e_ x "NoFalling" 293 (r_ 92)),(e_ x "NoPairs" 309 (r_ 104)),(e_ x "Nought" 325 (r_ 116)),(e_ x "is_whole" 334 (r_ 125)),(e_ x "is_pair" 341 (r_ 132)),(e_ x "as_pair" 348 (r_ 139)),(e_ x "added" 358 (r_ 146)),(e_ x "multiplied" 368 (r_ 153)),(e_ x "bounded" 379 (r_ 160)),(e_ x "Way" 450 (r_ 212)),(e_ x "Plain" 491 (r_ 247)),(e_ x "Below" 540 (r_ 287)),(e_ x "Balanced" 597 (r_ 334)),(e_ x "Growing" 638 (r_ 367))]) 29) #[])
def VW (x:Params):Obj:=(@Obj.mk .none none (@Data.fields (List.toArray [(j_ 1 0),(j_ 0 0),(r_ 20),(j_ 5 0),(j_ 0 0),(r_ 27),(j_ 7 0),(j_ 0 0),(r_ 40),(j_ 9 0),(j_ 0 0),(r_ 52),(j_ 11 0),(j_ 0 0),(r_ 64),(j_ 13 0),(j_ 0 0),(r_ 76),(j_ 15 0),(j_ 0 0),(r_ 88),(j_ 17 0),(j_ 0 0),(r_ 100),(j_ 19 0),(j_ 0 0),(r_ 112),(j_ 22 0),(j_ 0 0),(r_ 124),(j_ 24 0),(j_ 0 0),(r_ 131),(j_ 26 0),(j_ 0 0),(r_ 138),(j_ 30 0),(j_ 0 0),(r_ 145),(j_ 36 0),(j_ 0 0),(r_ 152),(j_ 43 0),(j_ 0 0),(r_ 159)])) #[])
def VX (x:Params):Obj:=(@Obj.mk (.type "dict") none (@Data.dict (List.toArray [(e_ x "__name__" 165 (p_ "oddbases.ways" 369)),(e_ x "__doc__" 166 .none),(e_ x "__package__" 167 .none),(U0 x),(e_ x "__spec__" 169 .none),(U2 x),(e_ x "__builtins__" 171 (r_ 4)),(U1 x),(e_ x "__cached__" 174 .none),(e_ x "_wall" 193 (r_ 21)),(e_ x "OddError" 213 (r_ 31)),(e_ x "NoWay" 229 (r_ 44)),(e_ x "NoWriting" 245 (r_ 56)),(e_ x "TooLess" 261 (r_ 68)),(e_ x "NoRatio" 277 (r_ 80)),(e_ x "NoFalling" 293 (r_ 92)),(e_ x "NoPairs" 309 (r_ 104)),(e_ x "Nought" 325 (r_ 116)),(e_ x "is_whole" 334 (r_ 125)),(e_ x "is_pair" 341 (r_ 132)),(e_ x "as_pair" 348 (r_ 139)),(e_ x "added" 358 (r_ 146)),(e_ x "multiplied" 368 (r_ 153)),(e_ x "bounded" 379 (r_ 160))]) 24) #[])
abbrev Y3:=N_ zi (L_ zb) Z_
abbrev Y2:=N_ zi (L_ zi) Z_
abbrev Y1:=N_ zb (L_ zi) Z_
abbrev Y0:=N_ zb (L_ zb) Z_
def myAs:List Nat:=((nat_lit 2)::(nat_lit 3)::(nat_lit 15)::(nat_lit 17)::(nat_lit 18)::(nat_lit 20)::(nat_lit 21)::(nat_lit 22)::(nat_lit 29)::(nat_lit 30)::(nat_lit 31)::(nat_lit 32)::(nat_lit 35)::(nat_lit 42)::(nat_lit 43)::(nat_lit 44)::(nat_lit 47)::(nat_lit 54)::(nat_lit 55)::(nat_lit 56)::(nat_lit 59)::(nat_lit 66)::(nat_lit 67)::(nat_lit 68)::(nat_lit 71)::(nat_lit 78)::(nat_lit 79)::(nat_lit 80)::(nat_lit 83)::(nat_lit 90)::(nat_lit 91)::(nat_lit 92)::(nat_lit 95)::(nat_lit 102)::(nat_lit 103)::(nat_lit 104)::(nat_lit 107)::(nat_lit 114)::(nat_lit 115)::(nat_lit 116)::(nat_lit 119)::(nat_lit 121)::(nat_lit 122)::(nat_lit 124)::(nat_lit 125)::(nat_lit 126)::(nat_lit 128)::(nat_lit 129)::(nat_lit 131)::(nat_lit 132)::(nat_lit 133)::(nat_lit 135)::(nat_lit 136)::(nat_lit 138)::(nat_lit 139)::(nat_lit 140)::(nat_lit 142)::(nat_lit 143)::(nat_lit 145)::(nat_lit 146)::(nat_lit 147)::(nat_lit 149)::(nat_lit 150)::(nat_lit 152)::(nat_lit 153)::(nat_lit 154)::(nat_lit 156)::(nat_lit 157)::(nat_lit 159)::(nat_lit 160)::(nat_lit 168)::(nat_lit 170)::(nat_lit 171)::(nat_lit 173)::(nat_lit 174)::(nat_lit 175)::(nat_lit 177)::(nat_lit 178)::(nat_lit 180)::(nat_lit 181)::(nat_lit 182)::(nat_lit 184)::(nat_lit 185)::(nat_lit 187)::(nat_lit 188)::(nat_lit 189)::(nat_lit 191)::(nat_lit 192)::(nat_lit 194)::(nat_lit 195)::(nat_lit 196)::(nat_lit 198)::(nat_lit 199)::(nat_lit 201)::(nat_lit 202)::(nat_lit 203)::(nat_lit 205)::(nat_lit 206)::(nat_lit 208)::(nat_lit 209)::(nat_lit 210)::(nat_lit 211)::(nat_lit 212)::(nat_lit 213)::(nat_lit 214)::(nat_lit 217)::(nat_lit 224)::(nat_lit 226)::(nat_lit 227)::(nat_lit 229)::(nat_lit 230)::(nat_lit 231)::(nat_lit 233)::(nat_lit 234)::(nat_lit 236)::(nat_lit 237)::(nat_lit 238)::(nat_lit 240)::(nat_lit 241)::(nat_lit 243)::(nat_lit 244)::(nat_lit 245)::(nat_lit 246)::(nat_lit 247)::(nat_lit 250)::(nat_lit 257)::(nat_lit 259)::(nat_lit 260)::(nat_lit 262)::(nat_lit 263)::(nat_lit 264)::(nat_lit 266)::(nat_lit 267)::(nat_lit 269)::(nat_lit 270)::(nat_lit 271)::(nat_lit 273)::(nat_lit 274)::(nat_lit 276)::(nat_lit 277)::(nat_lit 278)::(nat_lit 280)::(nat_lit 281)::(nat_lit 283)::(nat_lit 284)::(nat_lit 285)::(nat_lit 286)::(nat_lit 287)::(nat_lit 290)::(nat_lit 297)::(nat_lit 299)::(nat_lit 300)::(nat_lit 302)::(nat_lit 303)::(nat_lit 304)::(nat_lit 306)::(nat_lit 307)::(nat_lit 309)::(nat_lit 310)::(nat_lit 311)::(nat_lit 313)::(nat_lit 314)::(nat_lit 316)::(nat_lit 317)::(nat_lit 318)::(nat_lit 320)::(nat_lit 321)::(nat_lit 323)::(nat_lit 324)::(nat_lit 325)::(nat_lit 327)::(nat_lit 328)::(nat_lit 330)::(nat_lit 331)::(nat_lit 332)::(nat_lit 333)::(nat_lit 334)::(nat_lit 337)::(nat_lit 344)::(nat_lit 346)::(nat_lit 347)::(nat_lit 349)::(nat_lit 350)::(nat_lit 351)::(nat_lit 353)::(nat_lit 354)::(nat_lit 356)::(nat_lit 357)::(nat_lit 358)::(nat_lit 360)::(nat_lit 361)::(nat_lit 363)::(nat_lit 364)::(nat_lit 365)::(nat_lit 366)::(nat_lit 367)::(nat_lit 370)::(nat_lit 377)::(nat_lit 379)::(nat_lit 380)::(nat_lit 382)::(nat_lit 383)::(nat_lit 384)::(nat_lit 386)::(nat_lit 387)::(nat_lit 389)::(nat_lit 390)::(nat_lit 391)::(nat_lit 393)::(nat_lit 394)::(nat_lit 396)::(nat_lit 397)::(nat_lit 398)::(nat_lit 400)::(nat_lit 401)::(nat_lit 403)::(nat_lit 404)::(nat_lit 405)::(nat_lit 407)::(nat_lit 408)::(nat_lit 410)::(nat_lit 411)::(nat_lit 412)::(nat_lit 413)::(nat_lit 414)::(nat_lit 417)::(nat_lit 424)::(nat_lit 426)::(nat_lit 427)::(nat_lit 429)::(nat_lit 430)::(nat_lit 431)::(nat_lit 433)::(nat_lit 434)::(nat_lit 436)::(nat_lit 437)::(nat_lit 438)::(nat_lit 440)::(nat_lit 441)::(nat_lit 443)::(nat_lit 444)::(nat_lit 445)::(nat_lit 447)::(nat_lit 448)::(nat_lit 450)::(nat_lit 451)::(nat_lit 452)::(nat_lit 454)::(nat_lit 455)::(nat_lit 457)::(nat_lit 458)::(nat_lit 459)::(nat_lit 461)::(nat_lit 462)::(nat_lit 464)::(nat_lit 465)::(nat_lit 466)::(nat_lit 467)::(nat_lit 468)::(nat_lit 471)::(nat_lit 473)::(nat_lit 474)::(nat_lit 476)::(nat_lit 477)::(nat_lit 478)::(nat_lit 480)::(nat_lit 481)::(nat_lit 483)::(nat_lit 484)::(nat_lit 485)::(nat_lit 487)::(nat_lit 488)::(nat_lit 490)::(nat_lit 491)::(nat_lit 492)::(nat_lit 494)::(nat_lit 495)::(nat_lit 497)::(nat_lit 498)::(nat_lit 499)::(nat_lit 501)::(nat_lit 502)::(nat_lit 504)::(nat_lit 505)::(nat_lit 506)::(nat_lit 508)::(nat_lit 509)::(nat_lit 511)::(nat_lit 512)::(nat_lit 513)::(nat_lit 515)::(nat_lit 516)::(nat_lit 518)::(nat_lit 519)::(nat_lit 520)::(nat_lit 522)::(nat_lit 523)::(nat_lit 525)::(nat_lit 526)::(nat_lit 527)::(nat_lit 529)::(nat_lit 530)::(nat_lit 532)::(nat_lit 533)::(nat_lit 534)::(nat_lit 536)::(nat_lit 537)::(nat_lit 539)::(nat_lit 540)::(nat_lit 541)::(nat_lit 543)::(nat_lit 544)::(nat_lit 546)::(nat_lit 547)::(nat_lit 548)::(nat_lit 550)::(nat_lit 551)::(nat_lit 553)::(nat_lit 554)::(nat_lit 555)::(nat_lit 557)::(nat_lit 558)::(nat_lit 560)::(nat_lit 561)::(nat_lit 562)::(nat_lit 564)::(nat_lit 565)::(nat_lit 567)::(nat_lit 568)::(nat_lit 569)::(nat_lit 571)::(nat_lit 572)::(nat_lit 574)::(nat_lit 575)::(nat_lit 576)::(nat_lit 578)::(nat_lit 579)::(nat_lit 581)::(nat_lit 582)::(nat_lit 583)::(nat_lit 585)::(nat_lit 586)::(nat_lit 588)::(nat_lit 589)::(nat_lit 590)::(nat_lit 592)::(nat_lit 593)::(nat_lit 595)::(nat_lit 596)::(nat_lit 597)::(nat_lit 599)::(nat_lit 600)::(nat_lit 602)::(nat_lit 603)::(nat_lit 604)::(nat_lit 606)::(nat_lit 607)::(nat_lit 609)::(nat_lit 610)::(nat_lit 611)::(nat_lit 613)::(nat_lit 614)::(nat_lit 616)::(nat_lit 617)::(nat_lit 618)::(nat_lit 620)::(nat_lit 621)::(nat_lit 623)::(nat_lit 624)::(nat_lit 625)::(nat_lit 627)::(nat_lit 628)::(nat_lit 630)::(nat_lit 631)::(nat_lit 632)::(nat_lit 634)::(nat_lit 635)::(nat_lit 637)::(nat_lit 638)::(nat_lit 639)::(nat_lit 641)::(nat_lit 642)::(nat_lit 644)::(nat_lit 645)::(nat_lit 646)::(nat_lit 648)::(nat_lit 649)::(nat_lit 651)::(nat_lit 652)::(nat_lit 653)::(nat_lit 655)::(nat_lit 656)::(nat_lit 658)::(nat_lit 659)::(nat_lit 660)::(nat_lit 662)::(nat_lit 663)::(nat_lit 665)::(nat_lit 666)::(nat_lit 667)::(nat_lit 669)::(nat_lit 670)::(nat_lit 672)::(nat_lit 673)::(nat_lit 674)::(nat_lit 676)::(nat_lit 677)::(nat_lit 679)::(nat_lit 680)::(nat_lit 681)::(nat_lit 683)::(nat_lit 684)::(nat_lit 686)::(nat_lit 687)::[])
def h_heap_39:PySem.Params→PySem.W.Frag:=fun x=>
(nat_lit 2,(@W.boot_o_2 x))::
(nat_lit 3,(cR x))::
(nat_lit 15,(zb x))::
(nat_lit 17,(o53 x))::
(nat_lit 18,(zb x))::
(nat_lit 20,(o56 x))::
(nat_lit 21,(o57 x))::
(nat_lit 22,(o58 x))::
(nat_lit 29,(zb x))::
(nat_lit 30,(o66 x))::
(nat_lit 31,(kg x))::
(nat_lit 32,(o68 x))::
(nat_lit 35,(z9 x))::
(nat_lit 42,(zb x))::
(nat_lit 43,(o82 x))::
(nat_lit 44,(o83 x))::
(nat_lit 47,(z9 x))::
(nat_lit 54,(zb x))::
(nat_lit 55,(o97 x))::
(nat_lit 56,(o98 x))::
(nat_lit 59,(z9 x))::
(nat_lit 66,(zb x))::
(nat_lit 67,(kq x))::
(nat_lit 68,(ko x))::
(nat_lit 71,(z9 x))::
(nat_lit 78,(zb x))::
(nat_lit 79,(kn x))::
(nat_lit 80,(km x))::
(nat_lit 83,(z9 x))::
(nat_lit 90,(zb x))::
(nat_lit 91,(kl x))::
(nat_lit 92,(kj x))::
(nat_lit 95,(z9 x))::
(nat_lit 102,(zb x))::
(nat_lit 103,(ki x))::
(nat_lit 104,(kh x))::
(nat_lit 107,(z9 x))::
(nat_lit 114,(zb x))::
(nat_lit 115,(kf x))::
(nat_lit 116,(kd x))::
(nat_lit 119,(zb x))::
(nat_lit 121,(kb x))::
(nat_lit 122,(zb x))::
(nat_lit 124,(ka x))::
(nat_lit 125,(l_ x))::
(nat_lit 126,(zb x))::
(nat_lit 128,(l9 x))::
(nat_lit 129,(zb x))::
(nat_lit 131,(l8 x))::
(nat_lit 132,(l7 x))::
(nat_lit 133,(zb x))::
(nat_lit 135,(l6 x))::
(nat_lit 136,(zb x))::
(nat_lit 138,(l5 x))::
(nat_lit 139,(l4 x))::
(nat_lit 140,(zb x))::
(nat_lit 142,(lZ x))::
(nat_lit 143,(zb x))::
(nat_lit 145,(lY x))::
(nat_lit 146,(lX x))::
(nat_lit 147,(zb x))::
(nat_lit 149,(lW x))::
(nat_lit 150,(zb x))::
(nat_lit 152,(lV x))::
(nat_lit 153,(lU x))::
(nat_lit 154,(zb x))::
(nat_lit 156,(lT x))::
(nat_lit 157,(zb x))::
(nat_lit 159,(lS x))::
(nat_lit 160,(lR x))::
(nat_lit 168,(zb x))::
(nat_lit 170,(gP x))::
(nat_lit 171,(zb x))::
(nat_lit 173,(gO x))::
(nat_lit 174,(gN x))::
(nat_lit 175,(zb x))::
(nat_lit 177,(gM x))::
(nat_lit 178,(zb x))::
(nat_lit 180,(gL x))::
(nat_lit 181,(gK x))::
(nat_lit 182,(zb x))::
(nat_lit 184,(gJ x))::
(nat_lit 185,(zb x))::
(nat_lit 187,(gH x))::
(nat_lit 188,(gG x))::
(nat_lit 189,(zb x))::
(nat_lit 191,(gF x))::
(nat_lit 192,(zb x))::
(nat_lit 194,(gE x))::
(nat_lit 195,(gD x))::
(nat_lit 196,(zb x))::
(nat_lit 198,(gC x))::
(nat_lit 199,(zb x))::
(nat_lit 201,(gB x))::
(nat_lit 202,(gA x))::
(nat_lit 203,(zb x))::
(nat_lit 205,(gz x))::
(nat_lit 206,(zb x))::
(nat_lit 208,(gx x))::
(nat_lit 209,(gw x))::
(nat_lit 210,(zb x))::
(nat_lit 211,(gv x))::
(nat_lit 212,(aM x))::
(nat_lit 213,(gu x))::
(nat_lit 214,(gq x))::
(nat_lit 217,(y_ x))::
(nat_lit 224,(zb x))::
(nat_lit 226,(gp x))::
(nat_lit 227,(zb x))::
(nat_lit 229,(gm x))::
(nat_lit 230,(gk x))::
(nat_lit 231,(zb x))::
(nat_lit 233,(gj x))::
(nat_lit 234,(zb x))::
(nat_lit 236,(gi x))::
(nat_lit 237,(gh x))::
(nat_lit 238,(zb x))::
(nat_lit 240,(gg x))::
(nat_lit 241,(zb x))::
(nat_lit 243,(gf x))::
(nat_lit 244,(ge x))::
(nat_lit 245,(gd x))::
(nat_lit 246,(gc x))::
(nat_lit 247,(gb x))::
(nat_lit 250,(y_ x))::
(nat_lit 257,(zb x))::
(nat_lit 259,(h_ x))::
(nat_lit 260,(zb x))::
(nat_lit 262,(h9 x))::
(nat_lit 263,(h8 x))::
(nat_lit 264,(zb x))::
(nat_lit 266,(h7 x))::
(nat_lit 267,(zb x))::
(nat_lit 269,(hZ x))::
(nat_lit 270,(hW x))::
(nat_lit 271,(zb x))::
(nat_lit 273,(hV x))::
(nat_lit 274,(zb x))::
(nat_lit 276,(hU x))::
(nat_lit 277,(hI x))::
(nat_lit 278,(zb x))::
(nat_lit 280,(hG x))::
(nat_lit 281,(zb x))::
(nat_lit 283,(i_ x))::
(nat_lit 284,(i9 x))::
(nat_lit 285,(i8 x))::
(nat_lit 286,(i7 x))::
(nat_lit 287,(i6 x))::
(nat_lit 290,(y_ x))::
(nat_lit 297,(zb x))::
(nat_lit 299,(iZ x))::
(nat_lit 300,(zb x))::
(nat_lit 302,(iY x))::
(nat_lit 303,(iX x))::
(nat_lit 304,(zb x))::
(nat_lit 306,(iW x))::
(nat_lit 307,(zb x))::
(nat_lit 309,(iV x))::
(nat_lit 310,(iU x))::
(nat_lit 311,(zb x))::
(nat_lit 313,(iT x))::
(nat_lit 314,(zb x))::
(nat_lit 316,(iS x))::
(nat_lit 317,(iR x))::
(nat_lit 318,(zb x))::
(nat_lit 320,(iQ x))::
(nat_lit 321,(zb x))::
(nat_lit 323,(iP x))::
(nat_lit 324,(iO x))::
(nat_lit 325,(zb x))::
(nat_lit 327,(iN x))::
(nat_lit 328,(zb x))::
(nat_lit 330,(iM x))::
(nat_lit 331,(iL x))::
(nat_lit 332,(iK x))::
(nat_lit 333,(iJ x))::
(nat_lit 334,(iI x))::
(nat_lit 337,(y_ x))::
(nat_lit 344,(zb x))::
(nat_lit 346,(iH x))::
(nat_lit 347,(zb x))::
(nat_lit 349,(iG x))::
(nat_lit 350,(iF x))::
(nat_lit 351,(zb x))::
(nat_lit 353,(iE x))::
(nat_lit 354,(zb x))::
(nat_lit 356,(iD x))::
(nat_lit 357,(iC x))::
(nat_lit 358,(zb x))::
(nat_lit 360,(iB x))::
(nat_lit 361,(zb x))::
(nat_lit 363,(iA x))::
(nat_lit 364,(iz x))::
(nat_lit 365,(iy x))::
(nat_lit 366,(iw x))::
(nat_lit 367,(ir x))::
(nat_lit 370,(y_ x))::
(nat_lit 377,(zb x))::
(nat_lit 379,(Ze x))::
(nat_lit 380,(zb x))::
(nat_lit 382,(Zd x))::
(nat_lit 383,(Zc x))::
(nat_lit 384,(zb x))::
(nat_lit 386,(Zb x))::
(nat_lit 387,(zb x))::
(nat_lit 389,(Za x))::
(nat_lit 390,(a_ x))::
(nat_lit 391,(zb x))::
(nat_lit 393,(aZ x))::
(nat_lit 394,(zb x))::
(nat_lit 396,(aY x))::
(nat_lit 397,(aX x))::
(nat_lit 398,(zb x))::
(nat_lit 400,(aW x))::
(nat_lit 401,(zb x))::
(nat_lit 403,(aV x))::
(nat_lit 404,(aU x))::
(nat_lit 405,(zb x))::
(nat_lit 407,(aS x))::
(nat_lit 408,(zb x))::
(nat_lit 410,(aR x))::
(nat_lit 411,(aQ x))::
(nat_lit 412,(aP x))::
(nat_lit 413,(aO x))::
(nat_lit 414,(aN x))::
(nat_lit 417,(y_ x))::
(nat_lit 424,(zb x))::
(nat_lit 426,(aL x))::
(nat_lit 427,(zb x))::
(nat_lit 429,(aK x))::
(nat_lit 430,(aJ x))::
(nat_lit 431,(zb x))::
(nat_lit 433,(aI x))::
(nat_lit 434,(zb x))::
(nat_lit 436,(aH x))::
(nat_lit 437,(aG x))::
(nat_lit 438,(zb x))::
(nat_lit 440,(aF x))::
(nat_lit 441,(zb x))::
(nat_lit 443,(aE x))::
(nat_lit 444,(aD x))::
(nat_lit 445,(zb x))::
(nat_lit 447,(aC x))::
(nat_lit 448,(zb x))::
(nat_lit 450,(aB x))::
(nat_lit 451,(aA x))::
(nat_lit 452,(zb x))::
(nat_lit 454,(az x))::
(nat_lit 455,(zb x))::
(nat_lit 457,(ay x))::
(nat_lit 458,(ax x))::
(nat_lit 459,(zb x))::
(nat_lit 461,(aw x))::
(nat_lit 462,(zb x))::
(nat_lit 464,(av x))::
(nat_lit 465,(au x))::
(nat_lit 466,(aq x))::
(nat_lit 467,(ap x))::
(nat_lit 468,(ao x))::
(nat_lit 471,(zb x))::
(nat_lit 473,(al x))::
(nat_lit 474,(zb x))::
(nat_lit 476,(ak x))::
(nat_lit 477,(aj x))::
(nat_lit 478,(zb x))::
(nat_lit 480,(ai x))::
(nat_lit 481,(zb x))::
(nat_lit 483,(ah x))::
(nat_lit 484,(ag x))::
(nat_lit 485,(zb x))::
(nat_lit 487,(af x))::
(nat_lit 488,(zb x))::
(nat_lit 490,(ae x))::
(nat_lit 491,(ad x))::
(nat_lit 492,(zb x))::
(nat_lit 494,(ac x))::
(nat_lit 495,(zb x))::
(nat_lit 497,(aa x))::
(nat_lit 498,(b_ x))::
(nat_lit 499,(zb x))::
(nat_lit 501,(bZ x))::
(nat_lit 502,(zb x))::
(nat_lit 504,(bY x))::
(nat_lit 505,(bX x))::
(nat_lit 506,(zb x))::
(nat_lit 508,(bW x))::
(nat_lit 509,(zb x))::
(nat_lit 511,(bV x))::
(nat_lit 512,(bU x))::
(nat_lit 513,(zb x))::
(nat_lit 515,(bT x))::
(nat_lit 516,(zb x))::
(nat_lit 518,(bS x))::
(nat_lit 519,(bR x))::
(nat_lit 520,(zb x))::
(nat_lit 522,(bQ x))::
(nat_lit 523,(zb x))::
(nat_lit 525,(bP x))::
(nat_lit 526,(bO x))::
(nat_lit 527,(zb x))::
(nat_lit 529,(bN x))::
(nat_lit 530,(zb x))::
(nat_lit 532,(bM x))::
(nat_lit 533,(bL x))::
(nat_lit 534,(zb x))::
(nat_lit 536,(bK x))::
(nat_lit 537,(zb x))::
(nat_lit 539,(bJ x))::
(nat_lit 540,(bI x))::
(nat_lit 541,(zb x))::
(nat_lit 543,(bH x))::
(nat_lit 544,(zb x))::
(nat_lit 546,(bG x))::
(nat_lit 547,(bF x))::
(nat_lit 548,(zb x))::
(nat_lit 550,(bE x))::
(nat_lit 551,(zb x))::
(nat_lit 553,(bD x))::
(nat_lit 554,(bC x))::
(nat_lit 555,(zb x))::
(nat_lit 557,(bB x))::
(nat_lit 558,(zb x))::
(nat_lit 560,(bA x))::
(nat_lit 561,(bz x))::
(nat_lit 562,(zb x))::
(nat_lit 564,(bx x))::
(nat_lit 565,(zb x))::
(nat_lit 567,(bw x))::
(nat_lit 568,(bv x))::
(nat_lit 569,(zb x))::
(nat_lit 571,(bu x))::
(nat_lit 572,(zb x))::
(nat_lit 574,(br x))::
(nat_lit 575,(bq x))::
(nat_lit 576,(zb x))::
(nat_lit 578,(bp x))::
(nat_lit 579,(zb x))::
(nat_lit 581,(bo x))::
(nat_lit 582,(bn x))::
(nat_lit 583,(zb x))::
(nat_lit 585,(bj x))::
(nat_lit 586,(zb x))::
(nat_lit 588,(bh x))::
(nat_lit 589,(bg x))::
(nat_lit 590,(zb x))::
(nat_lit 592,(bf x))::
(nat_lit 593,(zb x))::
(nat_lit 595,(bc x))::
(nat_lit 596,(bb x))::
(nat_lit 597,(zb x))::
(nat_lit 599,(ba x))::
(nat_lit 600,(zb x))::
(nat_lit 602,(c_ x))::
(nat_lit 603,(c9 x))::
(nat_lit 604,(zb x))::
(nat_lit 606,(c8 x))::
(nat_lit 607,(zb x))::
(nat_lit 609,(c7 x))::
(nat_lit 610,(c6 x))::
(nat_lit 611,(zb x))::
(nat_lit 613,(c5 x))::
(nat_lit 614,(zb x))::
(nat_lit 616,(cZ x))::
(nat_lit 617,(cY x))::
(nat_lit 618,(zb x))::
(nat_lit 620,(cX x))::
(nat_lit 621,(zb x))::
(nat_lit 623,(cW x))::
(nat_lit 624,(cV x))::
(nat_lit 625,(zb x))::
(nat_lit 627,(cU x))::
(nat_lit 628,(zb x))::
(nat_lit 630,(cT x))::
(nat_lit 631,(cS x))::
(nat_lit 632,(zb x))::
(nat_lit 634,(cQ x))::
(nat_lit 635,(zb x))::
(nat_lit 637,(cP x))::
(nat_lit 638,(cO x))::
(nat_lit 639,(zb x))::
(nat_lit 641,(cN x))::
(nat_lit 642,(zb x))::
(nat_lit 644,(cM x))::
(nat_lit 645,(cL x))::
(nat_lit 646,(zb x))::
(nat_lit 648,(cK x))::
(nat_lit 649,(zb x))::
(nat_lit 651,(cJ x))::
(nat_lit 652,(cI x))::
(nat_lit 653,(zb x))::
(nat_lit 655,(cH x))::
(nat_lit 656,(zb x))::
(nat_lit 658,(cG x))::
(nat_lit 659,(cF x))::
(nat_lit 660,(zb x))::
(nat_lit 662,(cE x))::
(nat_lit 663,(zb x))::
(nat_lit 665,(cD x))::
(nat_lit 666,(cC x))::
(nat_lit 667,(zb x))::
(nat_lit 669,(cB x))::
(nat_lit 670,(zb x))::
(nat_lit 672,(cA x))::
(nat_lit 673,(cz x))::
(nat_lit 674,(zb x))::
(nat_lit 676,(cy x))::
(nat_lit 677,(zb x))::
(nat_lit 679,(cx x))::
(nat_lit 680,(cw x))::
(nat_lit 681,(zb x))::
(nat_lit 683,(cv x))::
(nat_lit 684,(zb x))::
(nat_lit 686,(cu x))::
(nat_lit 687,(cr x))::[]
def h_view_39:PySem.Program:={ PySem.Challenge.pw_oddbases_k34_shared with main:={ PySem.Challenge.pw_oddbases_k34_shared.main with body:=[My.top 0,My.top 2,My.top 3,My.top 4,My.top 5,My.top 6,My.top 7,My.top 8,My.top 9,My.top 11,My.top 12,My.top 13,My.top 14,My.top 15,My.top 17,My.top 18,My.top 19,My.top 20,My.top 21,My.top 22,My.top 23,My.top 24,My.top 26,My.top 27,My.top 29,My.top 30,My.top 31,My.top 32,My.top 33,My.top 34,My.top 35,My.top 37,My.top 38,My.top 40,My.top 41,My.top 42,My.top 43,My.top 44,My.top 46,My.top 47,My.top 48,My.top 49,My.top 51,My.top 52,My.top 53,My.top 54,My.top 55,My.top 56,My.top 57,My.top 58,My.top 59,My.top 60,My.top 61] } }
def y4:((x:@Params)→@Heap):=(fun x=>(@Heap.mk (@Array.mk @Obj ((@W.boot_o_0 x)::(@W.boot_o_1 x)::(@W.boot_o_2 x)::(cR x)::(@W.boot_o_4 x)::(@W.boot_o_5 x)::(@W.boot_o_6 x)::(@W.boot_o_7 x)::(@W.boot_o_8 x)::(@W.boot_o_9 x)::(@W.boot_o_10 x)::(zb x)::(XF x)::(o45 x)::(o46 x)::(zb x)::(zi x)::(o53 x)::(zb x)::(o55 x)::(o56 x)::(o57 x)::(o58 x)::(zK x)::(o60 x)::(zb x)::(zi x)::(o63 x)::(o64 x)::(zb x)::(o66 x)::(kg x)::(o68 x)::(o69 x)::(o70 x)::(z9 x)::(zK x)::(o76 x)::(zb x)::(zi x)::(o79 x)::(o80 x)::(zb x)::(o82 x)::(o83 x)::(o84 x)::(o85 x)::(z9 x)::(zK x)::(o91 x)::(zb x)::(zi x)::(o94 x)::(o95 x)::(zb x)::(o97 x)::(o98 x)::(o99 x)::(fE x)::(z9 x)::(zK x)::(fD x)::(zb x)::(zi x)::(fC x)::(fB x)::(zb x)::(kq x)::(ko x)::(fA x)::(fw x)::(z9 x)::(zK x)::(fv x)::(zb x)::(zi x)::(fu x)::(ft x)::(zb x)::(kn x)::(km x)::(fq x)::(fo x)::(z9 x)::(zK x)::(fm x)::(zb x)::(zi x)::(fk x)::(fj x)::(zb x)::(kl x)::(kj x)::(fh x)::(fg x)::(z9 x)::(zK x)::(ff x)::(zb x)::(zi x)::(fe x)::(fc x)::(zb x)::(ki x)::(kh x)::(fb x)::(g9 x)::(z9 x)::(zK x)::(g8 x)::(zb x)::(zi x)::(g7 x)::(g6 x)::(zb x)::(kf x)::(kd x)::(gZ x)::(gY x)::(zb x)::(zi x)::(kb x)::(zb x)::(gX x)::(ka x)::(l_ x)::(zb x)::(zi x)::(l9 x)::(zb x)::(gW x)::(l8 x)::(l7 x)::(zb x)::(zi x)::(l6 x)::(zb x)::(gU x)::(l5 x)::(l4 x)::(zb x)::(zi x)::(lZ x)::(zb x)::(gT x)::(lY x)::(lX x)::(zb x)::(zi x)::(lW x)::(zb x)::(gR x)::(lV x)::(lU x)::(zb x)::(zi x)::(lT x)::(zb x)::(gQ x)::(lS x)::(lR x)::(zb x)::(zK x)::(Z5 x)::(zb x)::(Z4 x)::(Z3 x)::(Z2 x)::(zb x)::(zi x)::(gP x)::(zb x)::(Z1 x)::(gO x)::(gN x)::(zb x)::(zi x)::(gM x)::(zb x)::(Z0 x)::(gL x)::(gK x)::(zb x)::(zi x)::(gJ x)::(zb x)::(ZZ x)::(gH x)::(gG x)::(zb x)::(zi x)::(gF x)::(zb x)::(ZY x)::(gE x)::(gD x)::(zb x)::(zi x)::(gC x)::(zb x)::(ZX x)::(gB x)::(gA x)::(zb x)::(zi x)::(gz x)::(zb x)::(ZW x)::(gx x)::(gw x)::(zb x)::(gv x)::(aM x)::(gu x)::(gq x)::(ZV x)::(ZU x)::(y_ x)::(zK x)::(ZT x)::(zb x)::(ZS x)::(ZR x)::(ZQ x)::(zb x)::(zi x)::(gp x)::(zb x)::(ZP x)::(gm x)::(gk x)::(zb x)::(zi x)::(gj x)::(zb x)::(ZO x)::(gi x)::(gh x)::(zb x)::(zi x)::(gg x)::(zb x)::(ZN x)::(gf x)::(ge x)::(gd x)::(gc x)::(gb x)::(ZM x)::(ZL x)::(y_ x)::(zK x)::(ZK x)::(zb x)::(ZJ x)::(ZI x)::(ZH x)::(zb x)::(zi x)::(h_ x)::(zb x)::(ZG x)::(h9 x)::(h8 x)::(zb x)::(zi x)::(h7 x)::(zb x)::(ZF x)::(hZ x)::(hW x)::(zb x)::(zi x)::(hV x)::(zb x)::(ZE x)::(hU x)::(hI x)::(zb x)::(zi x)::(hG x)::(zb x)::(ZD x)::(i_ x)::(i9 x)::(i8 x)::(i7 x)::(i6 x)::(ZC x)::(ZB x)::(y_ x)::(zK x)::(ZA x)::(zb x)::(Zz x)::(Zy x)::(Zw x)::(zb x)::(zi x)::(iZ x)::(zb x)::(Zv x)::(iY x)::(iX x)::(zb x)::(zi x)::(iW x)::(zb x)::(Zu x)::(iV x)::(iU x)::(zb x)::(zi x)::(iT x)::(zb x)::(Zt x)::(iS x)::(iR x)::(zb x)::(zi x)::(iQ x)::(zb x)::(Zs x)::(iP x)::(iO x)::(zb x)::(zi x)::(iN x)::(zb x)::(Zr x)::(iM x)::(iL x)::(iK x)::(iJ x)::(iI x)::(Zq x)::(Zp x)::(y_ x)::(zK x)::(Zo x)::(zb x)::(Zm x)::(Zl x)::(Zk x)::(zb x)::(zi x)::(iH x)::(zb x)::(Zj x)::(iG x)::(iF x)::(zb x)::(zi x)::(iE x)::(zb x)::(Zi x)::(iD x)::(iC x)::(zb x)::(zi x)::(iB x)::(zb x)::(Zh x)::(iA x)::(iz x)::(iy x)::(iw x)::(ir x)::(Zg x)::(Zf x)::(y_ x)::(zK x)::(Wr x)::(zb x)::(Wq x)::(Wp x)::(Wo x)::(zb x)::(zi x)::(Ze x)::(zb x)::(Wn x)::(Zd x)::(Zc x)::(zb x)::(zi x)::(Zb x)::(zb x)::(Wm x)::(Za x)::(a_ x)::(zb x)::(zi x)::(aZ x)::(zb x)::(Wl x)::(aY x)::(aX x)::(zb x)::(zi x)::(aW x)::(zb x)::(Wk x)::(aV x)::(aU x)::(zb x)::(zi x)::(aS x)::(zb x)::(Wj x)::(aR x)::(aQ x)::(aP x)::(aO x)::(aN x)::(Wi x)::(Wh x)::(y_ x)::(zK x)::(Wg x)::(zb x)::(Wf x)::(We x)::(Wd x)::(zb x)::(zi x)::(aL x)::(zb x)::(Wc x)::(aK x)::(aJ x)::(zb x)::(zi x)::(aI x)::(zb x)::(Wb x)::(aH x)::(aG x)::(zb x)::(zi x)::(aF x)::(zb x)::(Wa x)::(aE x)::(aD x)::(zb x)::(zi x)::(aC x)::(zb x)::(X_ x)::(aB x)::(aA x)::(zb x)::(zi x)::(az x)::(zb x)::(X9 x)::(ay x)::(ax x)::(zb x)::(zi x)::(aw x)::(zb x)::(X8 x)::(av x)::(au x)::(aq x)::(ap x)::(ao x)::(X7 x)::(X6 x)::(zb x)::(zi x)::(al x)::(zb x)::(X5 x)::(ak x)::(aj x)::(zb x)::(zi x)::(ai x)::(zb x)::(X4 x)::(ah x)::(ag x)::(zb x)::(zi x)::(af x)::(zb x)::(X3 x)::(ae x)::(ad x)::(zb x)::(zi x)::(ac x)::(zb x)::(X2 x)::(aa x)::(b_ x)::(zb x)::(zi x)::(bZ x)::(zb x)::(X1 x)::(bY x)::(bX x)::(zb x)::(zi x)::(bW x)::(zb x)::(X0 x)::(bV x)::(bU x)::(zb x)::(zi x)::(bT x)::(zb x)::(XZ x)::(bS x)::(bR x)::(zb x)::(zi x)::(bQ x)::(zb x)::(XY x)::(bP x)::(bO x)::(zb x)::(zi x)::(bN x)::(zb x)::(XX x)::(bM x)::(bL x)::(zb x)::(zi x)::(bK x)::(zb x)::(XW x)::(bJ x)::(bI x)::(zb x)::(zi x)::(bH x)::(zb x)::(XV x)::(bG x)::(bF x)::(zb x)::(zi x)::(bE x)::(zb x)::(XU x)::(bD x)::(bC x)::(zb x)::(zi x)::(bB x)::(zb x)::(XT x)::(bA x)::(bz x)::(zb x)::(zi x)::(bx x)::(zb x)::(XS x)::(bw x)::(bv x)::(zb x)::(zi x)::(bu x)::(zb x)::(XR x)::(br x)::(bq x)::(zb x)::(zi x)::(bp x)::(zb x)::(XQ x)::(bo x)::(bn x)::(zb x)::(zi x)::(bj x)::(zb x)::(XO x)::(bh x)::(bg x)::(zb x)::(zi x)::(bf x)::(zb x)::(XN x)::(bc x)::(bb x)::(zb x)::(zi x)::(ba x)::(zb x)::(XM x)::(c_ x)::(c9 x)::(zb x)::(zi x)::(c8 x)::(zb x)::(XJ x)::(c7 x)::(c6 x)::(zb x)::(zi x)::(c5 x)::(zb x)::(XI x)::(cZ x)::(cY x)::(zb x)::(zi x)::(cX x)::(zb x)::(XH x)::(cW x)::(cV x)::(zb x)::(zi x)::(cU x)::(zb x)::(XG x)::(cT x)::(cS x)::(zb x)::(zi x)::(cQ x)::(zb x)::(XE x)::(cP x)::(cO x)::(zb x)::(zi x)::(cN x)::(zb x)::(XD x)::(cM x)::(cL x)::(zb x)::(zi x)::(cK x)::(zb x)::(XC x)::(cJ x)::(cI x)::(zb x)::(zi x)::(cH x)::(zb x)::(XB x)::(cG x)::(cF x)::(zb x)::(zi x)::(cE x)::(zb x)::(XA x)::(cD x)::(cC x)::(zb x)::(zi x)::(cB x)::(zb x)::(Xz x)::(cA x)::(cz x)::(zb x)::(zi x)::(cy x)::(zb x)::(Xy x)::(cx x)::(cw x)::(zb x)::(zi x)::(cv x)::(zb x)::(Xx x)::(cu x)::(cr x)::[])) (@Life.mk [] [] [] 0 (@List.nil (@Prod @Nat @Nat)) [] @Bool.false #[] [] 0 @Bool.false @Bool.false @Bool.false (0:Int) [(2000:Int),(10:Int),(10:Int)] @Bool.false 0 @Bool.true [] [] 0 @Bool.false)))
def yw:@Env:=(@Env.mk (@Module.scope (@Program.main ((@W.OpenRow.toRowW (@W.OpenLaw.row @Challenge.rw_oddbases_k34_shared))).1)) @mainNs @mainNs (@List.nil (@Prod @Str @Addr)) @Str.empty (@Option.none @Addr) (r_ 13) (@some @Addr (@OfNat.ofNat @Addr 14 (@instOfNatNat 14))) (@OfNat.ofNat @Addr 0 (@instOfNatNat 0)))
def oG:=N_ W.boot_o_0 (N_ W.boot_o_1 (N_ cR (N_ W.boot_o_7 (N_ zb (N_ kg (N_ zi (N_ zi (N_ ZI (L_ bV) Z_) (N_ Zc (L_ zb) Z_)) (N_ gF (N_ zi (L_ bq) Z_) (L_ aC))) (N_ z9 (N_ lS (N_ i6 (L_ bH) Z_) (N_ Wi (L_ Xz) Z_)) (N_ ZQ Y0 (L_ zi)))) (N_ z9 (N_ kn (N_ zb Y0 (N_ zi (L_ cH) Z_)) (N_ ZW (N_ Zq (L_ zi) Z_) (L_ X8))) (N_ zi (N_ zb (N_ iX (L_ XT) Z_) (N_ zb (L_ cr) Z_)) (N_ zi (N_ ir (L_ cW) Z_) (L_ zb))))) (N_ zK (N_ zi (N_ z9 (N_ l6 (N_ h8 (L_ bR) Z_) Y1) (N_ zb (N_ iN (L_ zb) Z_) (L_ zb))) (N_ ki (N_ Z2 (N_ Zy (L_ zb) Z_) (N_ Wd (L_ cx) Z_)) (N_ zb (N_ zi (L_ XI) Z_) (L_ af)))) (N_ o97 (N_ zi (N_ gR Y2 (N_ aS (L_ zb) Z_)) (N_ ZV (N_ Zk (L_ ba) Z_) (L_ zb))) (N_ zb (N_ zi (N_ zb (L_ bw) Z_) (L_ zi)) (N_ gb (N_ Wp (L_ cS) Z_) (L_ X1)))))) (N_ zb (N_ o55 (N_ z9 (N_ kq (N_ l8 (N_ h_ (L_ bT) Z_) (N_ zb (L_ XD) Z_)) (N_ gD (N_ iP (L_ zb) Z_) (L_ aA))) (N_ zi (N_ Z5 (N_ zK (L_ bF) Z_) (N_ Wg (L_ zi) Z_)) (N_ zb (N_ Zi (L_ zb) Z_) (L_ ah)))) (N_ zi (N_ z9 (N_ zb (N_ ZE (L_ XX) Z_) (N_ aV (L_ cF) Z_)) (N_ gv (N_ Zo (L_ bc) Z_) (L_ ap))) (N_ kf (N_ Z0 Y1 (L_ Wb)) (N_ gf (N_ zK (L_ cU) Z_) (L_ zb))))) (N_ o63 (N_ o82 (N_ zi (N_ l4 Y0 (N_ Wl (L_ cJ) Z_)) (N_ zb (N_ iL (L_ XO) Z_) (L_ zb))) (N_ z9 (N_ zb (N_ iZ (L_ zb) Z_) (N_ zb (L_ cv) Z_)) (N_ ZO (N_ iA (L_ zi) Z_) (L_ ad)))) (N_ z9 (N_ kl (N_ zi (N_ i_ (L_ bJ) Z_) (N_ aQ (L_ zb) Z_)) (N_ ZT (N_ zb (L_ c9) Z_) (L_ X5))) (N_ gX (N_ gH (N_ Zt (L_ bu) Z_) (L_ aE)) (N_ zK (N_ Ze (L_ zb) Z_) (L_ zi))))))) (N_ W.boot_o_5 (N_ W.boot_o_9 (N_ o53 (N_ o69 (N_ fB (N_ zb Y0 (N_ zi (L_ cN) Z_)) (N_ ZY Y1 (L_ X_))) (N_ ff (N_ zb (N_ ZB (L_ XV) Z_) (N_ y_ (L_ cz) Z_)) (N_ zi (N_ iE (L_ c7) Z_) (L_ zb)))) (N_ o91 (N_ fq (N_ lY (N_ hV (L_ bN) Z_) (N_ zb (L_ XB) Z_)) (N_ gw (N_ y_ (L_ zb) Z_) (L_ au))) (N_ g6 (N_ gM (N_ zi (L_ bz) Z_) (L_ aI)) (N_ zb (N_ Zf (L_ zb) Z_) (L_ aa))))) (N_ zb (N_ o80 (N_ fv (N_ gU Y2 (N_ aZ (L_ zb) Z_)) (N_ gB (N_ Zr (L_ bj) Z_) (L_ ay))) (N_ fb (N_ zi (N_ zb (L_ bD) Z_) Y3) (N_ gj (N_ zb (L_ cY) Z_) (L_ X3)))) (N_ o99 (N_ fj (N_ lU Y0 (N_ Wj (L_ cD) Z_)) (N_ y_ (N_ zi (L_ XM) Z_) (L_ al))) (N_ kb (N_ zb (N_ iT (L_ zb) Z_) (L_ zb)) (N_ ZL Y1 (L_ bX)))))) (N_ o45 (N_ o57 (N_ o76 (N_ fA (N_ zb (N_ ZG (L_ XZ) Z_) (N_ Za (L_ cL) Z_)) (N_ zi (N_ zb (L_ bo) Z_) (L_ zi))) (N_ fc (N_ Z4 Y1 (N_ Wf (L_ zb) Z_)) (N_ gm (N_ iC (L_ c5) Z_) (L_ zb)))) (N_ o95 (N_ fm (N_ lW (N_ hI (L_ bL) Z_) Y1) (N_ gu (N_ Zm (L_ zb) Z_) (L_ X7))) (N_ gZ (N_ gK (N_ iV (L_ zb) Z_) (L_ aG)) (N_ gd (N_ zb (L_ XG) Z_) (L_ bZ))))) (N_ zb (N_ o84 (N_ ft (N_ zi (N_ hZ (L_ bP) Z_) (N_ aX (L_ zb) Z_)) (N_ gz (N_ iJ (L_ bg) Z_) (L_ aw))) (N_ g8 (N_ gO (N_ Zv (L_ bB) Z_) (N_ aK (L_ Xx) Z_)) (N_ gh (N_ iy (L_ zb) Z_) (L_ zi)))) (N_ fD (N_ fh (N_ zb (N_ i8 (L_ zb) Z_) (N_ aO (L_ cB) Z_)) (N_ ZS (N_ iG (L_ zi) Z_) (L_ aj))) (N_ l_ (N_ zb (N_ iR (L_ XR) Z_) (L_ zb)) (N_ zb (N_ Wn (L_ cP) Z_) (L_ zb)))))))) (N_ W.boot_o_2 (N_ W.boot_o_4 (N_ W.boot_o_8 (N_ zi (N_ o68 (N_ fC (N_ l9 (N_ ZH (L_ bU) Z_) Y1) (N_ zb (N_ iQ (L_ zb) Z_) (L_ zb))) (N_ zK (N_ lR (N_ ZC (L_ zb) Z_) (N_ Wh (L_ cA) Z_)) (N_ zb (N_ zi (L_ XJ) Z_) (L_ ai)))) (N_ zK (N_ km (N_ gT Y2 (N_ aW (L_ zb) Z_)) (N_ gx (N_ Zp (L_ bf) Z_) (L_ av))) (N_ g7 (N_ zi (N_ zb (L_ bA) Z_) (L_ zi)) (N_ gg (N_ Zg (L_ cV) Z_) (L_ X2))))) (N_ o60 (N_ o79 (N_ zK (N_ zb Y0 (N_ zi (L_ cK) Z_)) (N_ ZX Y1 (L_ X9))) (N_ kh (N_ zb (N_ Zw (L_ XU) Z_) (N_ zb (L_ cw) Z_)) (N_ zi (N_ iB (L_ cZ) Z_) (L_ zb)))) (N_ o98 (N_ fk (N_ lV (N_ hG (L_ bK) Z_) (N_ zb (L_ XA) Z_)) (N_ ZU Y0 (L_ zi))) (N_ zi (N_ gJ (N_ zi (L_ bv) Z_) (L_ aF)) (N_ ZM (N_ Wo (L_ zb) Z_) (L_ bY)))))) (N_ XF (N_ o56 (N_ zK (N_ ko (N_ l7 Y0 (N_ Wm (L_ cM) Z_)) (N_ zb (N_ iO (L_ XQ) Z_) (L_ zb))) (N_ fe (N_ zb (N_ ZA (L_ zb) Z_) (N_ zb (L_ cy) Z_)) (N_ ZP (N_ iD (L_ zi) Z_) (L_ ag)))) (N_ o94 (N_ zK (N_ zi (N_ hU (L_ bM) Z_) (N_ aU (L_ zb) Z_)) (N_ aM (N_ zb (L_ bb) Z_) (L_ ao))) (N_ kd (N_ gL (N_ Zu (L_ bx) Z_) (L_ aH)) (N_ ge (N_ Wr (L_ zb) Z_) (L_ zi))))) (N_ o64 (N_ o83 (N_ fu (N_ zb (N_ ZF (L_ XY) Z_) (N_ aY (L_ cI) Z_)) (N_ zi (N_ iK (L_ bh) Z_) (L_ zi))) (N_ zK (N_ Z1 Y1 (N_ Wc (L_ zb) Z_)) (N_ gi (N_ iz (L_ cX) Z_) (L_ zb)))) (N_ zK (N_ kj (N_ lT (N_ i9 (L_ bI) Z_) (N_ aP (L_ zi) Z_)) (N_ zb (N_ Zj (L_ zb) Z_) (L_ ak))) (N_ ka (N_ gG (N_ iS (L_ zb) Z_) (L_ aD)) (N_ ZK (N_ zb (L_ XE) Z_) (L_ bW))))))) (N_ W.boot_o_6 (N_ W.boot_o_10 (N_ zb (N_ o70 (N_ zb (N_ gW Y2 (N_ Zb (L_ zb) Z_)) (N_ gE (N_ Zs (L_ bp) Z_) (L_ aB))) (N_ zb (N_ zK (N_ y_ (L_ bG) Z_) (N_ zK (L_ zb) Z_)) (N_ gp (N_ zb (L_ c6) Z_) (L_ X4)))) (N_ zb (N_ fo (N_ lX Y0 (N_ Wk (L_ cG) Z_)) (N_ zb (N_ zK (L_ XN) Z_) (L_ aq))) (N_ zb (N_ zb (N_ iW (L_ zb) Z_) (L_ zb)) (N_ ZN (N_ y_ (L_ zi) Z_) (L_ b_))))) (N_ zi (N_ zb (N_ zb (N_ l5 (N_ h7 (L_ bQ) Z_) (N_ zb (L_ XC) Z_)) (N_ gA (N_ iM (L_ zb) Z_) (L_ ax))) (N_ g9 (N_ gP (N_ zi (L_ bC) Z_) (N_ aL (L_ zi) Z_)) (N_ zb (N_ Zh (L_ zb) Z_) (L_ ae)))) (N_ fE (N_ zb (N_ zb (N_ ZD (L_ XW) Z_) (N_ aR (L_ cC) Z_)) (N_ zK (N_ iH (L_ c_) Z_) (L_ zb))) (N_ zb (N_ ZZ Y1 (L_ Wa)) (N_ y_ (N_ zi (L_ cQ) Z_) (L_ zb)))))) (N_ o46 (N_ o58 (N_ zb (N_ fw (N_ zi (N_ h9 (L_ bS) Z_) (N_ a_ (L_ zb) Z_)) (N_ gC (N_ zi (L_ bn) Z_) (L_ az))) (N_ zb (N_ Z3 (N_ Zz (L_ bE) Z_) (N_ We (L_ Xy) Z_)) (N_ gk Y0 (L_ zi)))) (N_ zb (N_ zb (N_ zb Y0 (N_ zi (L_ cE) Z_)) (N_ gq (N_ Zl (L_ zi) Z_) (L_ X6))) (N_ gY (N_ zb (N_ iU (L_ XS) Z_) (L_ zb)) (N_ gc (N_ Wq (L_ cT) Z_) (L_ zb))))) (N_ o66 (N_ o85 (N_ zb (N_ lZ (N_ hW (L_ bO) Z_) Y1) (N_ zb (N_ iI (L_ zb) Z_) (L_ zb))) (N_ zb (N_ gN (N_ iY (L_ zb) Z_) (N_ aJ (L_ cu) Z_)) (N_ zb (N_ iw (L_ XH) Z_) (L_ ac)))) (N_ zb (N_ fg (N_ gQ (N_ i7 (L_ zi) Z_) (N_ aN (L_ zb) Z_)) (N_ ZR (N_ iF (L_ c8) Z_) (L_ zb))) (N_ zb (N_ zi (N_ zb (L_ br) Z_) (L_ zi)) (N_ ZJ (N_ Zd (L_ cO) Z_) (L_ X0))))))))
def wI:(@List @Stmt):=[My.top 23,My.top 24,My.top 25,My.top 26,My.top 27,My.top 28,My.top 29,My.top 30,My.top 31,My.top 32,My.top 33,My.top 34,My.top 35,My.top 36,My.top 37,My.top 38,My.top 39,My.top 40,My.top 41,My.top 42,My.top 43,My.top 44,My.top 45,My.top 46,My.top 47,My.top 48,My.top 49,My.top 50,My.top 51,My.top 52,My.top 53,My.top 54,My.top 55,My.top 56,My.top 57,My.top 58,My.top 59,My.top 60,My.top 61]
def oH:=N_ W.boot_o_0 (N_ W.boot_o_1 (N_ VV (N_ W.boot_o_7 (N_ zb (N_ kg (N_ zi (N_ zi (L_ ZI) Z_) (N_ gF (L_ zi) Z_)) (N_ z9 (N_ lS (L_ i6) Z_) (N_ ZQ (L_ zb) Z_))) (N_ z9 (N_ kn Y0 (N_ ZW (L_ Zq) Z_)) (N_ zi (N_ zb (L_ iX) Z_) (N_ zi (L_ ir) Z_)))) (N_ zK (N_ zi (N_ z9 (N_ l6 (L_ h8) Z_) (N_ zb (L_ iN) Z_)) (N_ ki (N_ Z2 (L_ Zy) Z_) Y1)) (N_ o97 (N_ zi (N_ gR (L_ zi) Z_) (N_ ZV (L_ Zk) Z_)) (N_ zb Y3 (L_ gb))))) (N_ zb (N_ o55 (N_ z9 (N_ kq (N_ l8 (L_ h_) Z_) (N_ gD (L_ iP) Z_)) (N_ zi (N_ Z5 (L_ zK) Z_) (N_ zb (L_ Zi) Z_))) (N_ zi (N_ z9 (N_ zb (L_ ZE) Z_) (N_ gv (L_ Zo) Z_)) (N_ kf (N_ Z0 (L_ zb) Z_) (L_ gf)))) (N_ o63 (N_ o82 (N_ zi (N_ l4 (L_ zb) Z_) (N_ zb (L_ iL) Z_)) (N_ z9 (N_ zb (L_ iZ) Z_) (N_ ZO (L_ iA) Z_))) (N_ z9 (N_ kl (N_ zi (L_ i_) Z_) (N_ ZT (L_ zb) Z_)) (N_ gX (N_ gH (L_ Zt) Z_) (L_ zK)))))) (N_ W.boot_o_5 (N_ W.boot_o_9 (N_ o53 (N_ o69 (N_ fB Y0 (N_ ZY (L_ zb) Z_)) (N_ ff (N_ zb (L_ ZB) Z_) (N_ zi (L_ iE) Z_))) (N_ o91 (N_ fq (N_ lY (L_ hV) Z_) (N_ gw (L_ y_) Z_)) (N_ g6 (N_ gM (L_ zi) Z_) (N_ zb (L_ Zf) Z_)))) (N_ zb (N_ o80 (N_ fv (N_ gU (L_ zi) Z_) (N_ gB (L_ Zr) Z_)) (N_ fb Y3 (N_ gj (L_ zb) Z_))) (N_ o99 (N_ fj (N_ lU (L_ zb) Z_) (N_ y_ (L_ zi) Z_)) (N_ kb (N_ zb (L_ iT) Z_) (L_ ZL))))) (N_ o45 (N_ o57 (N_ o76 (N_ fA (N_ zb (L_ ZG) Z_) Y3) (N_ fc (N_ Z4 (L_ zb) Z_) (N_ gm (L_ iC) Z_))) (N_ o95 (N_ fm (N_ lW (L_ hI) Z_) (N_ gu (L_ Zm) Z_)) (N_ gZ (N_ gK (L_ iV) Z_) (L_ gd)))) (N_ zb (N_ o84 (N_ ft (N_ zi (L_ hZ) Z_) (N_ gz (L_ iJ) Z_)) (N_ g8 (N_ gO (L_ Zv) Z_) (N_ gh (L_ iy) Z_))) (N_ fD (N_ fh (N_ zb (L_ i8) Z_) (N_ ZS (L_ iG) Z_)) (N_ l_ (N_ zb (L_ iR) Z_) (L_ zb))))))) (N_ W.boot_o_2 (N_ W.boot_o_4 (N_ W.boot_o_8 (N_ zi (N_ o68 (N_ fC (N_ l9 (L_ ZH) Z_) (N_ zb (L_ iQ) Z_)) (N_ zK (N_ lR (L_ ZC) Z_) Y1)) (N_ zK (N_ km (N_ gT (L_ zi) Z_) (N_ gx (L_ Zp) Z_)) (N_ g7 Y3 (N_ gg (L_ Zg) Z_)))) (N_ o60 (N_ o79 (N_ zK Y0 (N_ ZX (L_ zb) Z_)) (N_ kh (N_ zb (L_ Zw) Z_) (N_ zi (L_ iB) Z_))) (N_ o98 (N_ fk (N_ lV (L_ hG) Z_) (N_ ZU (L_ zb) Z_)) (N_ zi (N_ gJ (L_ zi) Z_) (L_ ZM))))) (N_ VU (N_ o56 (N_ zK (N_ ko (N_ l7 (L_ zb) Z_) (N_ zb (L_ iO) Z_)) (N_ fe (N_ zb (L_ ZA) Z_) (N_ ZP (L_ iD) Z_))) (N_ o94 (N_ zK (N_ zi (L_ hU) Z_) (N_ VT (L_ zb) Z_)) (N_ kd (N_ gL (L_ Zu) Z_) (L_ ge)))) (N_ o64 (N_ o83 (N_ fu (N_ zb (L_ ZF) Z_) (N_ zi (L_ iK) Z_)) (N_ zK (N_ Z1 (L_ zb) Z_) (N_ gi (L_ iz) Z_))) (N_ zK (N_ kj (N_ lT (L_ i9) Z_) (N_ zb (L_ Zj) Z_)) (N_ ka (N_ gG (L_ iS) Z_) (L_ ZK)))))) (N_ W.boot_o_6 (N_ W.boot_o_10 (N_ zb (N_ o70 (N_ zb (N_ gW (L_ zi) Z_) (N_ gE (L_ Zs) Z_)) (N_ zb (N_ zK (L_ y_) Z_) (N_ gp (L_ zb) Z_))) (N_ zb (N_ fo (N_ lX (L_ zb) Z_) (N_ zb (L_ zK) Z_)) (N_ zb (N_ zb (L_ iW) Z_) (L_ ZN)))) (N_ zi (N_ zb (N_ zb (N_ l5 (L_ h7) Z_) (N_ gA (L_ iM) Z_)) (N_ g9 (N_ gP (L_ zi) Z_) (N_ zb (L_ Zh) Z_))) (N_ fE (N_ zb (N_ zb (L_ ZD) Z_) (N_ zK (L_ iH) Z_)) (N_ zb (N_ ZZ (L_ zb) Z_) (L_ y_))))) (N_ o46 (N_ o58 (N_ zb (N_ fw (N_ zi (L_ h9) Z_) (N_ gC (L_ zi) Z_)) (N_ zb (N_ Z3 (L_ Zz) Z_) (N_ gk (L_ zb) Z_))) (N_ zb (N_ zb Y0 (N_ gq (L_ Zl) Z_)) (N_ gY (N_ zb (L_ iU) Z_) (L_ gc)))) (N_ o66 (N_ o85 (N_ zb (N_ lZ (L_ hW) Z_) (N_ zb (L_ iI) Z_)) (N_ zb (N_ gN (L_ iY) Z_) (N_ zb (L_ iw) Z_))) (N_ zb (N_ fg (N_ gQ (L_ i7) Z_) (N_ ZR (L_ iF) Z_)) (N_ zb Y3 (L_ ZJ)))))))
def vX:(@List @Stmt):=[My.top 18,My.top 19,My.top 20,My.top 21,My.top 22]
def oI:=N_ W.boot_o_0 (N_ W.boot_o_1 (N_ VX (N_ W.boot_o_7 (N_ zb (N_ kg Y2 (N_ z9 (L_ lS) Z_)) (N_ z9 (N_ kn (L_ zb) Z_) (L_ zi))) (N_ zK (N_ zi (N_ z9 (L_ l6) Z_) (L_ ki)) (N_ o97 (N_ zi (L_ gR) Z_) (L_ zb)))) (N_ zb (N_ o55 (N_ z9 (N_ kq (L_ l8) Z_) (L_ zi)) (N_ zi (N_ z9 (L_ zb) Z_) (L_ kf))) (N_ o63 (N_ o82 (N_ zi (L_ l4) Z_) (L_ z9)) (N_ z9 (N_ kl (L_ zi) Z_) (L_ gX))))) (N_ W.boot_o_5 (N_ W.boot_o_9 (N_ o53 (N_ o69 (N_ fB (L_ zb) Z_) (L_ ff)) (N_ o91 (N_ fq (L_ lY) Z_) (L_ g6))) (N_ zb (N_ o80 (N_ fv (L_ gU) Z_) (L_ fb)) (N_ o99 (N_ fj (L_ lU) Z_) (L_ kb)))) (N_ o45 (N_ o57 (N_ o76 (N_ fA (L_ zb) Z_) (L_ fc)) (N_ o95 (N_ fm (L_ lW) Z_) (L_ gZ))) (N_ zb (N_ o84 (N_ ft (L_ zi) Z_) (L_ g8)) (N_ fD (N_ fh (L_ zb) Z_) (L_ l_)))))) (N_ W.boot_o_2 (N_ W.boot_o_4 (N_ W.boot_o_8 (N_ zi (N_ o68 (N_ fC (L_ l9) Z_) (N_ zK (L_ lR) Z_)) (N_ zK (N_ km (L_ gT) Z_) (L_ g7))) (N_ o60 (N_ o79 (N_ zK (L_ zb) Z_) (L_ kh)) (N_ o98 (N_ fk (L_ lV) Z_) (L_ zi)))) (N_ VW (N_ o56 (N_ zK (N_ ko (L_ l7) Z_) (L_ fe)) (N_ o94 (N_ zK (L_ zi) Z_) (L_ kd))) (N_ o64 (N_ o83 (N_ fu (L_ zb) Z_) (L_ zK)) (N_ zK (N_ kj (L_ lT) Z_) (L_ ka))))) (N_ W.boot_o_6 (N_ W.boot_o_10 (N_ zb (N_ o70 (N_ zb (L_ gW) Z_) (L_ zb)) (N_ zb (N_ fo (L_ lX) Z_) (L_ zb))) (N_ zi (N_ zb (N_ zb (L_ l5) Z_) (L_ g9)) (N_ fE Y0 (L_ zb)))) (N_ o46 (N_ o58 (N_ zb (N_ fw (L_ zi) Z_) (L_ zb)) (N_ zb Y0 (L_ gY))) (N_ o66 (N_ o85 (N_ zb (L_ lZ) Z_) (L_ zb)) (N_ zb (N_ fg (L_ gQ) Z_) (L_ zb))))))
def qX:(@List @Stmt):=[My.top 0,My.top 1,My.top 2,My.top 3,My.top 4,My.top 5,My.top 6,My.top 7,My.top 8,My.top 9,My.top 10,My.top 11,My.top 12,My.top 13,My.top 14,My.top 15,My.top 16,My.top 17]
def mO:=N_ W.boot_o_0 (N_ W.boot_o_1 (N_ W.boot_o_3 (L_ W.boot_o_7) (L_ zb)) (N_ W.boot_o_5 (L_ W.boot_o_9) (L_ o45))) (N_ W.boot_o_2 (N_ W.boot_o_4 (L_ W.boot_o_8) (L_ zi)) (N_ W.boot_o_6 (L_ W.boot_o_10) (L_ o46)))
def mP:((x:@Params)→@Heap):=(fun x=>(@Heap.mk (@Array.mk @Obj [(@W.boot_o_0 x),(@W.boot_o_1 x),(@W.boot_o_2 x),(@W.boot_o_3 x),(@W.boot_o_4 x),(@W.boot_o_5 x),(@W.boot_o_6 x),(@W.boot_o_7 x),(@W.boot_o_8 x),(@W.boot_o_9 x),(@W.boot_o_10 x),(zb x),(zi x),(o45 x),(o46 x)]) (@Life.mk [] [] [] 0 (@List.nil (@Prod @Nat @Nat)) [] @Bool.false #[] [] 0 @Bool.false @Bool.false @Bool.false (0:Int) [(2000:Int),(10:Int),(10:Int)] @Bool.false 0 @Bool.true [] [] 0 @Bool.false)))
abbrev k3:=(@Life.mk [] [] [] 0 (@List.nil (@Prod @Nat @Nat)) [] @Bool.false #[] [] 0 @Bool.false @Bool.false @Bool.false (0:Int) [(2000:Int),(10:Int),(10:Int)] @Bool.false 0 @Bool.true [] [] 0 @Bool.false)
abbrev S_ (t:Params→W.BT) (n k:Nat) (w:World) (o:OsState):W.SharedT:=W.SharedT.mk (t w.params) n k3 g_ d_ k o
abbrev k0 (x0:World) (x1:OsState):=(@Shared.mk (@y4 x0.params) g_ d_ 1102 x1)
abbrev k1:=(@Prod (@Prod (@List (@Option @FnShape)) @Bool) (@Prod (@List (@Option @PyProof.Rows.PlainShape)) (@Prod (@List (@Option (@Prod @PyProof.Rows.PlainShape @Bool))) (@Prod (@Prod (@List (@Option @FnShape)) @Bool) (@List (@Prod (@Option (@Prod (@List (@Option @FnShape)) @Bool)) (@Option (@Prod @PyProof.Rows.PlainShape @Bool))))))))
abbrev k2:=(@W.OpenRow.toRowW (@W.OpenLaw.row @Challenge.rw_oddbases_k34_shared))
abbrev k4 (x0:World) (x1:OsState):=(@ite @Bool (@Eq @Bool @Bool.true @Bool.true) (@instDecidableEqBool @Bool.true @Bool.true) (@BEq.beq @Nat (@instBEqOfDecidableEq @Nat @instDecidableEqNat) (@Array.size @GenState (@Shared.gens (k0 x0 x1))) 0) (@Bool.not (@leftWithCleanup (@Shared.gens (k0 x0 x1)))))
abbrev k5:=(@Bool.true,((@pinGoodD (@PyProof.Rows.drecsOf @h_view_39)),((@PyProof.Rows.plainGoodE @h_view_39 (@W.looseW @h_view_39 [])),((@PyProof.Rows.plainGoodD @h_view_39 []),((@W.wideGood @h_view_39),(@W.clsGoodW @h_view_39 []))))))
abbrev k6:=(@List (@Prod (@Option (@Prod (@List (@Option @FnShape)) @Bool)) (@Option (@Prod @PyProof.Rows.PlainShape @Bool))))
abbrev k7 (x0:World) (x1:OsState):=(@Bool.and (@Bool.and (@Bool.and (@W.staticsOk (@importedModules (@Module.body (@Program.main (k2).1))) (@W.boot_heap x0.params) (@y4 x0.params)) (@W.namesBound (k2).1 (@y4 x0.params))) (@W.gensDone (k0 x0 x1))) (@W.laidKept (@W.boot_heap x0.params) (@y4 x0.params)))
abbrev k8:=(@Code.body (@W.behindTheImports (k2).1) @yw)
abbrev k9:=(@Prod (@Prod (@Option @Str) (@List (@Prod @Str @Value))) (@Prod @Bool (@Prod @Bool k1)))
abbrev k10 (x0:World) (x1:OsState):=(@PyProof.Rows.plainSeenE @h_view_39 (@W.looseW @h_view_39 []) (k0 x0 x1))
abbrev k11:=(@Eq.refl (@List @Addr) My.myAs)
abbrev k12:=(@importedModules (@Module.body (@Program.main (k2).1)))
abbrev k13 (x0:World) (x1:OsState):=(@pinSeenD @h_view_39 (@PyProof.Rows.drecsOf @h_view_39) (k0 x0 x1))
abbrev k14 (x0:World) (x1:OsState):=(@PyProof.Rows.plainSeenD @h_view_39 [] (k0 x0 x1))
abbrev k15:=(@Prod (@List (@Option @FnShape)) @Bool)
abbrev k16 (x0:World) (x1:OsState):=(@W.clsSeenW @h_view_39 [] (k0 x0 x1))
abbrev k17:=(@List.nil (@Prod @Str @W.WData))
abbrev k18 (x0:World) (x1:OsState):=(@W.wideSeen @h_view_39 (k0 x0 x1))
abbrev k19:=(@List (@Option (@Prod @PyProof.Rows.PlainShape @Bool)))
abbrev k20:=(@PyProof.Rows.plainGoodE @h_view_39 (@W.looseW @h_view_39 []))
abbrev k21:=(@Nat.add 12 (@Nat.add 1 (@Nat.add 1924 (@Nat.add 1721 (@Nat.add 1848 2)))))
abbrev k22 (x0:World) (x1:OsState):=(S_ oI 161 380 x0 x1)
abbrev k23 (x0:World) (x1:OsState):=(S_ oH 370 639 x0 x1)
abbrev k24:=(@PyProof.Rows.clssOf @h_view_39 (@W.looseW @h_view_39 []))
abbrev k25 (x0:World) (x1:OsState):=(S_ mO 15 187 x0 x1)
abbrev k26:=(@Prod @Flow (@Prod @W.SharedT (@Prod @Code @Pos)))
abbrev k27 (x0:World) (x1:OsState):=(@Shared.mk (@mP x0.params) g_ d_ 187 x1)
abbrev k28 (x0:World) (x1:OsState):=(@PyProof.Rows.tablesOk @h_view_39 (@Shared.heap (k0 x0 x1)))
abbrev k29 (x0:World) (x1:OsState):=(@PyProof.Rows.tabsOk @h_view_39 (k0 x0 x1))
abbrev k30:=(@PyProof.Rows.plainGoodD @h_view_39 [])
abbrev k31 (x0:World) (x1:OsState):=(@Heap.accountedOkI (@Shared.heap (k0 x0 x1)) k12)
abbrev k32 (x0:World) (x1:OsState):=(S_ oG 688 1102 x0 x1)
abbrev k33 (x0:World) (x1:OsState):=(@Heap.isNs (@Shared.heap (k0 x0 x1)) @mainGlobals)
abbrev k34 (x0:World) (x1:OsState):=(@Heap.isNs (@Shared.heap (k0 x0 x1)) @builtinsNs)
abbrev k35 (x0:World) (x1:OsState):=(@Shared.mk (@W.boot_heap x0.params) g_ @W.boot_drawn @W.boot_toks x1)
abbrev k36:=(@Thread.mk (@denote @treeTable k8) k8 (P_ 0 0 0 0) [(@W.topFrame (P_ 0 0 0 0))])
abbrev k37:=(@Prod @Flow (@Prod @Shared (@Prod @Code @Pos)))
abbrev kh0:=(@W.kHook @h_heap_39 My.myAs (fun x0=>(@id (@Eq (@List @Addr) My.myAs (@List.map (@Prod @Addr @Obj) @Addr (fun (x1:(@Prod @Addr @Obj))=>(@Prod.fst @Addr @Obj x1)) (@h_heap_39 x0))) k11)))
theorem pf_808:((x0:World)→(@Eq ((x1:OsState)→(@W.Hook.α kh0)) (fun x1=>(@W.Hook.obs kh0 (k0 x0 x1))) (fun x1=>(@W.Hook.val kh0 x0)))):=by intros; kernel_rfl
theorem pf_798:((x0:World)→(@Eq ((x1:OsState)→k6) (fun x1=>(k16 x0 x1)) (fun x1=>(@W.clsGoodW @h_view_39 [])))):=by intros; kernel_rfl
theorem pf_796:((x0:World)→(@Eq ((x1:OsState)→k15) (fun x1=>(k18 x0 x1)) (fun x1=>(@W.wideGood @h_view_39)))):=by intros; kernel_rfl
theorem pf_799:((x0:World)→((x1:OsState)→(@Eq (@Prod k15 k6) ((k18 x0 x1),(k16 x0 x1)) ((@W.wideGood @h_view_39),(@W.clsGoodW @h_view_39 []))))):=(fun x0=>(fun x1=>(@W.looks_pair k15 k6 (k18 x0 x1) (@W.wideGood @h_view_39) (k16 x0 x1) (@W.clsGoodW @h_view_39 []) ((fun x2=>(fun x3=>(congrFun (My.pf_796 x2) x3))) x0 x1) ((fun x2=>(fun x3=>(congrFun (My.pf_798 x2) x3))) x0 x1))))
theorem pf_794:((x0:World)→(@Eq ((x1:OsState)→k19) (fun x1=>(k14 x0 x1)) (fun x1=>k30))):=by intros; kernel_rfl
theorem pf_800:((x0:World)→((x1:OsState)→(@Eq (@Prod k19 (@Prod k15 k6)) ((k14 x0 x1),((k18 x0 x1),(k16 x0 x1))) (k30,((@W.wideGood @h_view_39),(@W.clsGoodW @h_view_39 [])))))):=(fun x0=>(fun x1=>(@W.looks_pair k19 (@Prod k15 k6) (k14 x0 x1) k30 ((k18 x0 x1),(k16 x0 x1)) ((@W.wideGood @h_view_39),(@W.clsGoodW @h_view_39 [])) ((fun x2=>(fun x3=>(congrFun (My.pf_794 x2) x3))) x0 x1) (@My.pf_799 x0 x1))))
theorem pf_792:((x0:World)→(@Eq ((x1:OsState)→(@List (@Option @PyProof.Rows.PlainShape))) (fun x1=>(k10 x0 x1)) (fun x1=>k20))):=by intros; kernel_rfl
theorem pf_801:((x0:World)→((x1:OsState)→(@Eq (@Prod (@List (@Option @PyProof.Rows.PlainShape)) (@Prod k19 (@Prod k15 k6))) ((k10 x0 x1),((k14 x0 x1),((k18 x0 x1),(k16 x0 x1)))) (k20,(k30,((@W.wideGood @h_view_39),(@W.clsGoodW @h_view_39 []))))))):=(fun x0=>(fun x1=>(@W.looks_pair (@List (@Option @PyProof.Rows.PlainShape)) (@Prod k19 (@Prod k15 k6)) (k10 x0 x1) k20 ((k14 x0 x1),((k18 x0 x1),(k16 x0 x1))) (k30,((@W.wideGood @h_view_39),(@W.clsGoodW @h_view_39 []))) ((fun x2=>(fun x3=>(congrFun (My.pf_792 x2) x3))) x0 x1) (@My.pf_800 x0 x1))))
theorem pf_790:((x0:World)→(@Eq ((x1:OsState)→k15) (fun x1=>(k13 x0 x1)) (fun x1=>(@pinGoodD (@PyProof.Rows.drecsOf @h_view_39))))):=by intros; kernel_rfl
theorem pf_802:((x0:World)→((x1:OsState)→(@Eq k1 ((k13 x0 x1),((k10 x0 x1),((k14 x0 x1),((k18 x0 x1),(k16 x0 x1))))) ((@pinGoodD (@PyProof.Rows.drecsOf @h_view_39)),(k20,(k30,((@W.wideGood @h_view_39),(@W.clsGoodW @h_view_39 [])))))))):=(fun x0=>(fun x1=>(@W.looks_pair k15 (@Prod (@List (@Option @PyProof.Rows.PlainShape)) (@Prod k19 (@Prod k15 k6))) (k13 x0 x1) (@pinGoodD (@PyProof.Rows.drecsOf @h_view_39)) ((k10 x0 x1),((k14 x0 x1),((k18 x0 x1),(k16 x0 x1)))) (k20,(k30,((@W.wideGood @h_view_39),(@W.clsGoodW @h_view_39 [])))) ((fun x2=>(fun x3=>(congrFun (My.pf_790 x2) x3))) x0 x1) (@My.pf_801 x0 x1))))
theorem pf_788:((x0:World)→(@Eq ((x1:OsState)→@Bool) (fun x1=>(k29 x0 x1)) (fun x1=>@Bool.true))):=by intros; kernel_rfl
theorem pf_803:((x0:World)→((x1:OsState)→(@Eq (@Prod @Bool k1) ((k29 x0 x1),((k13 x0 x1),((k10 x0 x1),((k14 x0 x1),((k18 x0 x1),(k16 x0 x1)))))) k5))):=(fun x0=>(fun x1=>(@W.looks_pair @Bool k1 (k29 x0 x1) @Bool.true ((k13 x0 x1),((k10 x0 x1),((k14 x0 x1),((k18 x0 x1),(k16 x0 x1))))) ((@pinGoodD (@PyProof.Rows.drecsOf @h_view_39)),(k20,(k30,((@W.wideGood @h_view_39),(@W.clsGoodW @h_view_39 []))))) ((fun x2=>(fun x3=>(congrFun (My.pf_788 x2) x3))) x0 x1) (@My.pf_802 x0 x1))))
theorem pf_786:((x0:World)→(@Eq ((x1:OsState)→@Bool) (fun x1=>(@Bool.and (@Bool.and (@Bool.and (@Bool.and (@Bool.and (@Bool.and (@Heap.keysOk (@Shared.heap (k0 x0 x1)) (@W.looseW @h_view_39 []) (@List.map @DefRec @Str (fun (x2:@DefRec)=>(@DefRec.name x2)) (@PyProof.Rows.recsOf @h_view_39)) (@List.map (@Prod @Str @PyData) @Str (fun (x2:(@Prod @Str @PyData))=>(@Prod.fst @Str @PyData x2)) (@PyProof.Rows.litsOf @h_view_39)) (@List.map @ClsRec @Str (fun (x2:@ClsRec)=>(@ClsRec.name x2)) k24)) (k31 x0 x1)) (k33 x0 x1)) (k34 x0 x1)) (k28 x0 x1)) ((fun (x2:@Shared)=>(@Bool.and (@W.xlAt @h_view_39 k17 x2) (@W.recOk (@W.RowW.records k2) x2))) (k0 x0 x1))) (k4 x0 x1))) (fun x1=>@Bool.true))):=by intros; kernel_rfl
theorem pf_804:((x0:World)→((x1:OsState)→(@Eq (@Prod @Bool (@Prod @Bool k1)) ((@Bool.and (@Bool.and (@Bool.and (@Bool.and (@Bool.and (@Bool.and (@Heap.keysOk (@Shared.heap (k0 x0 x1)) (@W.looseW @h_view_39 []) (@List.map @DefRec @Str (fun (x2:@DefRec)=>(@DefRec.name x2)) (@PyProof.Rows.recsOf @h_view_39)) (@List.map (@Prod @Str @PyData) @Str (fun (x2:(@Prod @Str @PyData))=>(@Prod.fst @Str @PyData x2)) (@PyProof.Rows.litsOf @h_view_39)) (@List.map @ClsRec @Str (fun (x2:@ClsRec)=>(@ClsRec.name x2)) k24)) (k31 x0 x1)) (k33 x0 x1)) (k34 x0 x1)) (k28 x0 x1)) ((fun (x2:@Shared)=>(@Bool.and (@W.xlAt @h_view_39 k17 x2) (@W.recOk (@W.RowW.records k2) x2))) (k0 x0 x1))) (k4 x0 x1)),((k29 x0 x1),((k13 x0 x1),((k10 x0 x1),((k14 x0 x1),((k18 x0 x1),(k16 x0 x1))))))) (@Bool.true,k5)))):=(fun x0=>(fun x1=>(@W.looks_pair @Bool (@Prod @Bool k1) (@Bool.and (@Bool.and (@Bool.and (@Bool.and (@Bool.and (@Bool.and (@Heap.keysOk (@Shared.heap (k0 x0 x1)) (@W.looseW @h_view_39 []) (@List.map @DefRec @Str (fun (x2:@DefRec)=>(@DefRec.name x2)) (@PyProof.Rows.recsOf @h_view_39)) (@List.map (@Prod @Str @PyData) @Str (fun (x2:(@Prod @Str @PyData))=>(@Prod.fst @Str @PyData x2)) (@PyProof.Rows.litsOf @h_view_39)) (@List.map @ClsRec @Str (fun (x2:@ClsRec)=>(@ClsRec.name x2)) k24)) (k31 x0 x1)) (k33 x0 x1)) (k34 x0 x1)) (k28 x0 x1)) ((fun (x2:@Shared)=>(@Bool.and (@W.xlAt @h_view_39 k17 x2) (@W.recOk (@W.RowW.records k2) x2))) (k0 x0 x1))) (k4 x0 x1)) @Bool.true ((k29 x0 x1),((k13 x0 x1),((k10 x0 x1),((k14 x0 x1),((k18 x0 x1),(k16 x0 x1)))))) k5 ((fun x2=>(fun x3=>(congrFun (My.pf_786 x2) x3))) x0 x1) (@My.pf_803 x0 x1))))
theorem pf_784:((x0:World)→(@Eq ((x1:OsState)→(@Prod (@Option @Str) (@List (@Prod @Str @Value)))) (fun x1=>(@Heap.bltView (@Shared.heap (k0 x0 x1)))) (fun x1=>@bltViewBooted))):=by intros; kernel_rfl
theorem pf_805:((x0:World)→((x1:OsState)→(@Eq k9 ((@Heap.bltView (@Shared.heap (k0 x0 x1))),((@Bool.and (@Bool.and (@Bool.and (@Bool.and (@Bool.and (@Bool.and (@Heap.keysOk (@Shared.heap (k0 x0 x1)) (@W.looseW @h_view_39 []) (@List.map @DefRec @Str (fun (x2:@DefRec)=>(@DefRec.name x2)) (@PyProof.Rows.recsOf @h_view_39)) (@List.map (@Prod @Str @PyData) @Str (fun (x2:(@Prod @Str @PyData))=>(@Prod.fst @Str @PyData x2)) (@PyProof.Rows.litsOf @h_view_39)) (@List.map @ClsRec @Str (fun (x2:@ClsRec)=>(@ClsRec.name x2)) k24)) (k31 x0 x1)) (k33 x0 x1)) (k34 x0 x1)) (k28 x0 x1)) ((fun (x2:@Shared)=>(@Bool.and (@W.xlAt @h_view_39 k17 x2) (@W.recOk (@W.RowW.records k2) x2))) (k0 x0 x1))) (k4 x0 x1)),((k29 x0 x1),((k13 x0 x1),((k10 x0 x1),((k14 x0 x1),((k18 x0 x1),(k16 x0 x1)))))))) (@bltViewBooted,(@Bool.true,k5))))):=(fun x0=>(fun x1=>(@W.looks_pair (@Prod (@Option @Str) (@List (@Prod @Str @Value))) (@Prod @Bool (@Prod @Bool k1)) (@Heap.bltView (@Shared.heap (k0 x0 x1))) @bltViewBooted ((@Bool.and (@Bool.and (@Bool.and (@Bool.and (@Bool.and (@Bool.and (@Heap.keysOk (@Shared.heap (k0 x0 x1)) (@W.looseW @h_view_39 []) (@List.map @DefRec @Str (fun (x2:@DefRec)=>(@DefRec.name x2)) (@PyProof.Rows.recsOf @h_view_39)) (@List.map (@Prod @Str @PyData) @Str (fun (x2:(@Prod @Str @PyData))=>(@Prod.fst @Str @PyData x2)) (@PyProof.Rows.litsOf @h_view_39)) (@List.map @ClsRec @Str (fun (x2:@ClsRec)=>(@ClsRec.name x2)) k24)) (k31 x0 x1)) (k33 x0 x1)) (k34 x0 x1)) (k28 x0 x1)) ((fun (x2:@Shared)=>(@Bool.and (@W.xlAt @h_view_39 k17 x2) (@W.recOk (@W.RowW.records k2) x2))) (k0 x0 x1))) (k4 x0 x1)),((k29 x0 x1),((k13 x0 x1),((k10 x0 x1),((k14 x0 x1),((k18 x0 x1),(k16 x0 x1))))))) (@Bool.true,k5) ((fun x2=>(fun x3=>(congrFun (My.pf_784 x2) x3))) x0 x1) (@My.pf_804 x0 x1))))
theorem pf_782:((x0:World)→(@Eq ((x1:OsState)→@PyProof.Rows.Seen) (fun x1=>(@PyProof.Rows.seen (@List.map @DefRec @Str (fun (x2:@DefRec)=>(@DefRec.name x2)) (@PyProof.Rows.recsOf @h_view_39)) (@PyProof.Rows.ownsOf @h_view_39) [] (@Shared.mk (@Shared.heap (k0 x0 x1)) #[] (@Shared.drawn (k0 x0 x1)) (@Shared.toks (k0 x0 x1)) (@Shared.os (k0 x0 x1))))) (fun x1=>(@PyProof.Rows.expectedOf @h_view_39)))):=by intros; kernel_rfl
theorem pf_806:((x0:World)→((x1:OsState)→(@Eq (@Prod @PyProof.Rows.Seen k9) (@W.openSeen @h_view_39 [] k12 (fun (x2:@Shared)=>(@Bool.and (@W.xlAt @h_view_39 k17 x2) (@W.recOk (@W.RowW.records k2) x2))) @Bool.true (k0 x0 x1)) (@W.openGood @h_view_39 [])))):=(fun x0=>(fun x1=>(@W.looks_pair @PyProof.Rows.Seen k9 (@PyProof.Rows.seen (@List.map @DefRec @Str (fun (x2:@DefRec)=>(@DefRec.name x2)) (@PyProof.Rows.recsOf @h_view_39)) (@PyProof.Rows.ownsOf @h_view_39) [] (@Shared.mk (@Shared.heap (k0 x0 x1)) #[] (@Shared.drawn (k0 x0 x1)) (@Shared.toks (k0 x0 x1)) (@Shared.os (k0 x0 x1)))) (@PyProof.Rows.expectedOf @h_view_39) ((@Heap.bltView (@Shared.heap (k0 x0 x1))),((@Bool.and (@Bool.and (@Bool.and (@Bool.and (@Bool.and (@Bool.and (@Heap.keysOk (@Shared.heap (k0 x0 x1)) (@W.looseW @h_view_39 []) (@List.map @DefRec @Str (fun (x2:@DefRec)=>(@DefRec.name x2)) (@PyProof.Rows.recsOf @h_view_39)) (@List.map (@Prod @Str @PyData) @Str (fun (x2:(@Prod @Str @PyData))=>(@Prod.fst @Str @PyData x2)) (@PyProof.Rows.litsOf @h_view_39)) (@List.map @ClsRec @Str (fun (x2:@ClsRec)=>(@ClsRec.name x2)) k24)) (k31 x0 x1)) (k33 x0 x1)) (k34 x0 x1)) (k28 x0 x1)) ((fun (x2:@Shared)=>(@Bool.and (@W.xlAt @h_view_39 k17 x2) (@W.recOk (@W.RowW.records k2) x2))) (k0 x0 x1))) (k4 x0 x1)),((k29 x0 x1),((k13 x0 x1),((k10 x0 x1),((k14 x0 x1),((k18 x0 x1),(k16 x0 x1)))))))) (@bltViewBooted,(@Bool.true,k5)) ((fun x2=>(fun x3=>(congrFun (My.pf_782 x2) x3))) x0 x1) (@My.pf_805 x0 x1))))
theorem pf_809:((x0:World)→((x1:OsState)→(@Eq (@Prod (@Prod @PyProof.Rows.Seen k9) (@W.Hook.α kh0)) ((@W.openSeen @h_view_39 [] k12 (fun (x2:@Shared)=>(@Bool.and (@W.xlAt @h_view_39 k17 x2) (@W.recOk (@W.RowW.records k2) x2))) @Bool.true (k0 x0 x1)),(@W.Hook.obs kh0 (k0 x0 x1))) ((@W.openGood @h_view_39 []),(@W.Hook.val kh0 x0))))):=(fun x0=>(fun x1=>(@W.looks_pair (@Prod @PyProof.Rows.Seen k9) (@W.Hook.α kh0) (@W.openSeen @h_view_39 [] k12 (fun (x2:@Shared)=>(@Bool.and (@W.xlAt @h_view_39 k17 x2) (@W.recOk (@W.RowW.records k2) x2))) @Bool.true (k0 x0 x1)) (@W.openGood @h_view_39 []) (@W.Hook.obs kh0 (k0 x0 x1)) (@W.Hook.val kh0 x0) (@My.pf_806 x0 x1) ((fun x2=>(fun x3=>(congrFun (My.pf_808 x2) x3))) x0 x1))))
theorem pf_780:((x0:World)→(@Eq ((x1:OsState)→@Bool) (fun x1=>(k7 x0 x1)) (fun x1=>@Bool.true))):=by intros; kernel_rfl
theorem pf_810:((x0:World)→((x1:OsState)→(@Eq (@Prod @Bool (@Prod (@Prod @PyProof.Rows.Seen k9) (@W.Hook.α kh0))) ((k7 x0 x1),((@W.openSeen @h_view_39 [] k12 (fun (x2:@Shared)=>(@Bool.and (@W.xlAt @h_view_39 k17 x2) (@W.recOk (@W.RowW.records k2) x2))) @Bool.true (k0 x0 x1)),(@W.Hook.obs kh0 (k0 x0 x1)))) (@Bool.true,((@W.openGood @h_view_39 []),(@W.Hook.val kh0 x0)))))):=(fun x0=>(fun x1=>(@W.looks_pair @Bool (@Prod (@Prod @PyProof.Rows.Seen k9) (@W.Hook.α kh0)) (k7 x0 x1) @Bool.true ((@W.openSeen @h_view_39 [] k12 (fun (x2:@Shared)=>(@Bool.and (@W.xlAt @h_view_39 k17 x2) (@W.recOk (@W.RowW.records k2) x2))) @Bool.true (k0 x0 x1)),(@W.Hook.obs kh0 (k0 x0 x1))) ((@W.openGood @h_view_39 []),(@W.Hook.val kh0 x0)) ((fun x2=>(fun x3=>(congrFun (My.pf_780 x2) x3))) x0 x1) (@My.pf_809 x0 x1))))
theorem pf_775:((x0:World)→(@Eq ((x1:OsState)→(@Option @Shared)) (fun x1=>(@W.topRun @treeTable (k2).1 x0 11 v_ 2 (@W.SharedT.abs (k32 x0 x1)) (@Thread.mk (@W.doneF @Flow.next) k8 (P_ 402 0 417 15) [(@W.topFrame (P_ 0 0 0 0))]))) (fun x1=>(@some @Shared (k0 x0 x1))))):=by intros; kernel_rfl
theorem pf_49:((x0:World)→(@Eq ((x1:OsState)→(@Option k37)) (fun x1=>(@W.segRun @treeTable (k2).1 x0 11 v_ 1 1 (k27 x0 x1) (@W.blockOf (@W.behindTheImports (k2).1) @yw k8 (P_ 0 0 0 0) [(@W.topFrame (P_ 0 0 0 0))]))) (fun x1=>(@some k37 (@Flow.next,((@W.SharedT.abs (k25 x0 x1)),(k8,(P_ 0 0 0 0)))))))):=by intros; kernel_rfl
theorem pf_47:((x0:World)→(@Eq ((x1:OsState)→(@Option (@Prod @Shared @Thread))) (fun x1=>(@W.topGo @treeTable (k2).1 x0 11 v_ 12 (k35 x0 x1) (@W.topStub (k2).1))) (fun x1=>(@some (@Prod @Shared @Thread) ((k27 x0 x1),k36))))):=by intros; kernel_rfl
theorem pf_220:((x0:World)→(@Eq ((x1:OsState)→(@Option k26)) (fun x1=>(@W.segRunT @treeTable (k2).1 x0 11 v_ 1 1924 (k25 x0 x1) (@W.piecesOf @qX @yw k8 (P_ 0 0 0 0) [(@W.topFrame (P_ 0 0 0 0))]))) (fun x1=>(@some k26 (@Flow.next,((k22 x0 x1),(k8,(P_ 43 0 46 17)))))))):=by intros; kernel_rfl
theorem pf_443:((x0:World)→(@Eq ((x1:OsState)→(@Option k26)) (fun x1=>(@W.segRunT @treeTable (k2).1 x0 11 v_ 1 1721 (k22 x0 x1) (@W.piecesOf @vX @yw k8 (P_ 43 0 46 17) [(@W.topFrame (P_ 0 0 0 0))]))) (fun x1=>(@some k26 (@Flow.next,((k23 x0 x1),(k8,(P_ 108 0 117 33)))))))):=by intros; kernel_rfl
theorem pf_773:((x0:World)→(@Eq ((x1:OsState)→(@Option k26)) (fun x1=>(@W.segRunT @treeTable (k2).1 x0 11 v_ 1 1848 (k23 x0 x1) (@W.piecesOf @wI @yw k8 (P_ 108 0 117 33) [(@W.topFrame (P_ 0 0 0 0))]))) (fun x1=>(@some k26 (@Flow.next,((k32 x0 x1),(k8,(P_ 402 0 417 15)))))))):=by intros; kernel_rfl
theorem pf_776:((x0:World)→((x1:OsState)→(@Eq (@Option @Shared) (@W.topRun @treeTable (k2).1 x0 11 v_ k21 (k35 x0 x1) (@W.topStub (k2).1)) (@some @Shared (k0 x0 x1))))):=(fun x0=>(fun x1=>(@W.go_top @treeTable (k2).1 x0 11 v_ 12 (@Nat.add 1 (@Nat.add 1924 (@Nat.add 1721 (@Nat.add 1848 2)))) (k35 x0 x1) (k27 x0 x1) (k0 x0 x1) (@W.topStub (k2).1) k36 (congrFun (My.pf_47 x0) x1) (@W.piece_block @treeTable (k2).1 x0 11 v_ @yw (P_ 0 0 0 0) 1 (@Nat.add 1924 (@Nat.add 1721 (@Nat.add 1848 2))) (k27 x0 x1) (@W.SharedT.abs (k25 x0 x1)) (k0 x0 x1) (@W.behindTheImports (k2).1) k8 (P_ 0 0 0 0) (P_ 0 0 0 0) (congrFun (My.pf_49 x0) x1) (@W.piece_app @treeTable (k2).1 x0 11 v_ @yw (P_ 0 0 0 0) 1924 (@Nat.add 1721 (@Nat.add 1848 2)) (@W.SharedT.abs (k25 x0 x1)) (@W.SharedT.abs (k22 x0 x1)) (k0 x0 x1) @qX (@HAppend.hAppend (@List @Stmt) (@List @Stmt) (@List @Stmt) (@instHAppendOfAppend (@List @Stmt) (@List.instAppend @Stmt)) @vX (@HAppend.hAppend (@List @Stmt) (@List @Stmt) (@List @Stmt) (@instHAppendOfAppend (@List @Stmt) (@List.instAppend @Stmt)) @wI [])) k8 (P_ 0 0 0 0) (P_ 43 0 46 17) (My.sg_ (congrFun (My.pf_220 x0) x1)) (@W.piece_app @treeTable (k2).1 x0 11 v_ @yw (P_ 0 0 0 0) 1721 (@Nat.add 1848 2) (@W.SharedT.abs (k22 x0 x1)) (@W.SharedT.abs (k23 x0 x1)) (k0 x0 x1) @vX (@HAppend.hAppend (@List @Stmt) (@List @Stmt) (@List @Stmt) (@instHAppendOfAppend (@List @Stmt) (@List.instAppend @Stmt)) @wI []) k8 (P_ 43 0 46 17) (P_ 108 0 117 33) (My.sg_ (congrFun (My.pf_443 x0) x1)) (@W.piece_app @treeTable (k2).1 x0 11 v_ @yw (P_ 0 0 0 0) 1848 2 (@W.SharedT.abs (k23 x0 x1)) (@W.SharedT.abs (k32 x0 x1)) (k0 x0 x1) @wI [] k8 (P_ 108 0 117 33) (P_ 402 0 417 15) (My.sg_ (congrFun (My.pf_773 x0) x1)) (congrFun (My.pf_775 x0) x1))))))))
theorem pf_778:((x0:World)→(@Eq (@Prod @Bool (@Prod @Nat (@Option @Value))) ((@Bool.and (@Heap.isNs (@W.boot_heap x0.params) @mainGlobals) (@BEq.beq @Nat (@instBEqOfDecidableEq @Nat @instDecidableEqNat) (@Array.size @GenState g_) 0)),((@Array.size @Obj (@Heap.objs (@W.boot_heap x0.params))),(@Heap.nsMap (@W.boot_heap x0.params) @mainGlobals (.ofString "__annotations__")))) (@Bool.true,(11,v_)))):=by intros; kernel_rfl
theorem pf_43:((x0:@Shared)→(@Eq (@Option @Shared) (@fenceModules? (k2).1 x0) (@some @Shared x0))):=by intros; kernel_rfl
theorem pf_42:(@Eq @Program (@W.opening (k2).1) (@W.plainProg (@Scope.names (@Module.scope (@Program.main (k2).1))))):=by intros; kernel_rfl
theorem left:(@W.LeftO (k2).1 @h_view_39 [] (fun (x0:@Shared)=>(@Bool.and (@W.xlAt @h_view_39 k17 x0) (@W.recOk (@W.RowW.records k2) x0))) (@W.Hook.α kh0) (@W.Hook.obs kh0) (@W.Hook.val kh0) 11074 @Bool.true):=(@W.LeftO.of_pieces (k2).1 @h_view_39 [] (fun (x0:@Shared)=>(@Bool.and (@W.xlAt @h_view_39 k17 x0) (@W.recOk (@W.RowW.records k2) x0))) (@W.Hook.α kh0) (@W.Hook.obs kh0) (@W.Hook.val kh0) 11074 @Bool.true @W.boot_heap @y4 g_ g_ @W.boot_drawn d_ @W.boot_toks 1102 11 v_ k21 (@W.boot_open (k2).1 11074 @My.pf_42 (@of_decide_eq_true (@Eq @Bool (@Nat.ble 600 11074) @Bool.true) (@instDecidableEqBool (@Nat.ble 600 11074) @Bool.true) (@id (@Eq @Bool (@Decidable.decide (@Eq @Bool (@Nat.ble 600 11074) @Bool.true) (@instDecidableEqBool (@Nat.ble 600 11074) @Bool.true)) @Bool.true) (@Eq.refl @Bool @Bool.true))) @My.pf_43) @My.pf_778 @My.pf_776 (@of_decide_eq_true (@Eq @Bool (@Nat.ble k21 11074) @Bool.true) (@instDecidableEqBool (@Nat.ble k21 11074) @Bool.true) (@id (@Eq @Bool (@Decidable.decide (@Eq @Bool (@Nat.ble k21 11074) @Bool.true) (@instDecidableEqBool (@Nat.ble k21 11074) @Bool.true)) @Bool.true) (@Eq.refl @Bool @Bool.true))) (fun x0=>(@funext @OsState (fun x1=>(@Prod @Bool (@Prod (@Prod @PyProof.Rows.Seen k9) (@W.Hook.α kh0)))) (fun x1=>((k7 x0 x1),((@W.openSeen @h_view_39 [] k12 (fun (x2:@Shared)=>(@Bool.and (@W.xlAt @h_view_39 k17 x2) (@W.recOk (@W.RowW.records k2) x2))) @Bool.true (k0 x0 x1)),(@W.Hook.obs kh0 (k0 x0 x1))))) (fun x1=>(@Bool.true,((@W.openGood @h_view_39 []),(@W.Hook.val kh0 x0)))) (fun x1=>(@My.pf_810 x0 x1)))))
end My
end
theorem My.myE:∀ P,My.myAs=(My.h_heap_39 P).map (·.1):=fun _=>by kernel_rfl
set_option maxRecDepth 100000
set_option maxHeartbeats 4000000
namespace OD
open PySem PySem.Spec PyProof.Rows L2
abbrev St:=L2.St
noncomputable def Zx (X:Cx):Hp:=if X.stack.length=X.outer.length∨X.fn ""=false then (fun _=>none) else X.H₀
theorem mY {CX:CXT} {P:Program} {w:World} {K:PySem.W.Frag} {mg:Str→Option Value} {base:Heap} {N:List Str} {qual:Str} {scope:Scope} {f:Addr} {cd:Value} {A:Around} {outer:List Env} {s:Shared} {H:Hp} {E:XK}:Zx (yn CX P w K mg base N qual scope f cd A outer s H E)=H:=if_neg (fun z=>z.elim (Nat.succ_ne_self _) (fun z=>Bool.noConfusion z))
theorem vy {X:Cx} (h:X.stack.length≠X.outer.length) (hf:X.fn ""=true:=by rfl):Zx X=X.H₀:=if_neg (fun z=>z.elim h (fun z=>by rw [hf] at z; cases z))
variable {Z:Hp}
inductive Dt where
 | non | bl (b:Bool) | int (i:Int) | str (x:Str) | tup (ds:List Dt) | lst (ds:List Dt) | scr (ns:List Int) | way (C:Addr) (f:Str) (n:Int) | exc (C:Addr)
def df (a C:Addr):Heap→Prop:=fun h=>∃ o,h.get? a=some o∧o.cls=.ref C
mutual
def Is (K:PySem.W.Frag) (H:Hp):Dt→V→Prop
 | .non,v=>v=.non
 | .bl b,v=>v=.bl b
 | .int i,v=>v=.int i
 | .str x,v=>v=.str x
 | .tup ds,v=>∃ a xs,v=.ref a∧H a=some (.tup xs)∧AllIs K H ds xs
 | .lst ds,v=>∃ a xs,v=.ref a∧H a=some (.lst xs)∧AllIs K H ds xs
 | .scr ns,v=>∃ a,v=.ref a∧SqL K H a (ns.map V.int)
 | .way C f n,v=>∃ a dx,v=.ref a∧H a=some (.ins C dx [(f,.int n)])
 | .exc C,v=>∃ a,v=.ref a∧H a=some (.ext (df a C))
def AllIs (K:PySem.W.Frag) (H:Hp):List Dt→List V→Prop
 | [],xs=>xs=[]
 | d::ds,xs=>∃ x r,xs=x::r∧Is K H d x∧AllIs K H ds r
end
variable {K:PySem.W.Frag} {H H' H1 H2:Hp}
theorem is_non {v:V}:Is K H .non v↔v=.non:=by unfold Is; exact Iff.rfl
theorem is_bl {b:Bool} {v:V}:Is K H (.bl b) v↔v=.bl b:=by unfold Is; exact Iff.rfl
theorem is_int {i:Int} {v:V}:Is K H (.int i) v↔v=.int i:=by unfold Is; exact Iff.rfl
theorem is_str {x:Str} {v:V}:Is K H (.str x) v↔v=.str x:=by unfold Is; exact Iff.rfl
theorem is_tup {ds:List Dt} {v:V}:Is K H (.tup ds) v↔∃ a xs,v=.ref a∧H a=some (.tup xs)∧AllIs K H ds xs:=by
 constructor
 ·intro h; unfold Is at h; exact h
 ·intro h; unfold Is; exact h
theorem is_lst {ds:List Dt} {v:V}:Is K H (.lst ds) v↔∃ a xs,v=.ref a∧H a=some (.lst xs)∧AllIs K H ds xs:=by
 constructor
 ·intro h; unfold Is at h; exact h
 ·intro h; unfold Is; exact h
theorem is_scr {ns:List Int} {v:V}:Is K H (.scr ns) v↔∃ a,v=.ref a∧SqL K H a (ns.map V.int):=by
 constructor
 ·intro h; unfold Is at h; exact h
 ·intro h; unfold Is; exact h
theorem is_way {C:Addr} {f:Str} {n:Int} {v:V}:Is K H (.way C f n) v↔∃ a dx,v=.ref a∧H a=some (.ins C dx [(f,.int n)]):=by
 constructor
 ·intro h; unfold Is at h; exact h
 ·intro h; unfold Is; exact h
theorem is_exc {C:Addr} {v:V}:Is K H (.exc C) v↔∃ a,v=.ref a∧H a=some (.ext (df a C)):=by
 constructor
 ·intro h; unfold Is at h; exact h
 ·intro h; unfold Is; exact h
theorem allIs_nil {xs:List V}:AllIs K H [] xs↔xs=[]:=by unfold AllIs; exact Iff.rfl
theorem allIs_cons {d:Dt} {ds:List Dt} {xs:List V}:AllIs K H (d::ds) xs↔∃ x r,xs=x::r∧Is K H d x∧AllIs K H ds r:=by
 constructor
 ·intro h; unfold AllIs at h; exact h
 ·intro h; unfold AllIs; exact h
mutual
theorem Is.mono0 (s:Same H H'):∀ {d:Dt} {v:V},Is K H d v→Is K H' d v
 | .non,_,h=>is_non.mpr (is_non.mp h)
 | .bl _,_,h=>is_bl.mpr (is_bl.mp h)
 | .int _,_,h=>is_int.mpr (is_int.mp h)
 | .str _,_,h=>is_str.mpr (is_str.mp h)
 | .tup ds,_,h=>by
  obtain ⟨a,xs,e,h1,h2⟩:=is_tup.mp h
  exact is_tup.mpr ⟨a,xs,e,s _ _ h1,AllIs.mono0 s h2⟩
 | .lst ds,_,h=>by
  obtain ⟨a,xs,e,h1,h2⟩:=is_lst.mp h
  exact is_lst.mpr ⟨a,xs,e,s _ _ h1,AllIs.mono0 s h2⟩
 | .scr ns,_,h=>by
  obtain ⟨a,e,h1⟩:=is_scr.mp h
  exact is_scr.mpr ⟨a,e,s.seq h1⟩
 | .way C f n,_,h=>by
  obtain ⟨a,dx,e,h1⟩:=is_way.mp h
  exact is_way.mpr ⟨a,dx,e,s _ _ h1⟩
 | .exc C,_,h=>by
  obtain ⟨a,e,h1⟩:=is_exc.mp h
  exact is_exc.mpr ⟨a,e,s _ _ h1⟩
theorem AllIs.mono0 (s:Same H H'):∀ {ds:List Dt} {xs:List V},AllIs K H ds xs→AllIs K H' ds xs
 | [],_,h=>allIs_nil.mpr (allIs_nil.mp h)
 | d::ds,_,h=>by
  obtain ⟨x,r,e,h1,h2⟩:=allIs_cons.mp h
  exact allIs_cons.mpr ⟨x,r,e,Is.mono0 s h1,AllIs.mono0 s h2⟩
end
theorem AllIs.length:∀ {ds:List Dt} {xs:List V},AllIs K H ds xs→ds.length=xs.length
 | [],_,h=>by rw [allIs_nil.mp h]; rfl
 | d::ds,_,h=>by
  obtain ⟨x,r,rfl,_,h2⟩:=allIs_cons.mp h
  rw [List.length_cons,List.length_cons,AllIs.length h2]
theorem AllIs.get:∀ {ds:List Dt} {xs:List V} {i:Nat} {d:Dt},AllIs K H ds xs→ds[i]? = some d→∃ v,xs[i]? = some v∧Is K H d v
 | [],_,_,_,_,e=>by simp at e
 | d::ds,_,0,d',h,e=>by
  obtain ⟨x,r,rfl,h1,h2⟩:=allIs_cons.mp h
  simp at e; subst e
  exact ⟨x,rfl,h1⟩
 | d::ds,_,i+1,d',h,e=>by
  obtain ⟨x,r,rfl,h1,h2⟩:=allIs_cons.mp h
  obtain ⟨v,e1,e2⟩:=AllIs.get (i:=i) h2 (by simpa using e)
  exact ⟨v,by simpa using e1,e2⟩
theorem AllIs.get':∀ {ds:List Dt} {xs:List V} {i:Nat} {v:V},AllIs K H ds xs→xs[i]? = some v→∃ d,ds[i]? = some d∧Is K H d v
 | [],_,_,_,h,e=>by rw [allIs_nil.mp h] at e; simp at e
 | d::ds,_,0,v,h,e=>by
  obtain ⟨x,r,rfl,h1,h2⟩:=allIs_cons.mp h
  simp at e; subst e
  exact ⟨d,rfl,h1⟩
 | d::ds,_,i+1,v,h,e=>by
  obtain ⟨x,r,rfl,h1,h2⟩:=allIs_cons.mp h
  obtain ⟨v,e1,e2⟩:=AllIs.get' (i:=i) h2 (by simpa using e)
  exact ⟨v,by simpa using e1,e2⟩
theorem AllIs.append:∀ {ds es:List Dt} {xs ys:List V},AllIs K H ds xs→AllIs K H es ys→AllIs K H (ds++es) (xs++ys)
 | [],_,_,_,h,h'=>by rw [allIs_nil.mp h]; exact h'
 | d::ds,_,_,_,h,h'=>by
  obtain ⟨x,r,rfl,h1,h2⟩:=allIs_cons.mp h
  exact allIs_cons.mpr ⟨x,_,rfl,h1,AllIs.append h2 h'⟩
theorem AllIs.drop:∀ {ds:List Dt} {xs:List V} (n:Nat),AllIs K H ds xs→AllIs K H (ds.drop n) (xs.drop n)
 | _,_,0,h=>h
 | [],_,n+1,h=>by rw [allIs_nil.mp h]; exact allIs_nil.mpr rfl
 | d::ds,_,n+1,h=>by
  obtain ⟨x,r,rfl,h1,h2⟩:=allIs_cons.mp h
  exact AllIs.drop n h2
theorem AllIs.take:∀ {ds:List Dt} {xs:List V} (n:Nat),AllIs K H ds xs→AllIs K H (ds.take n) (xs.take n)
 | _,_,0,_=>allIs_nil.mpr rfl
 | [],_,n+1,h=>by rw [allIs_nil.mp h]; exact allIs_nil.mpr rfl
 | d::ds,_,n+1,h=>by
  obtain ⟨x,r,rfl,h1,h2⟩:=allIs_cons.mp h
  exact allIs_cons.mpr ⟨x,_,rfl,h1,AllIs.take n h2⟩
theorem AllIs.ints:∀ {ns:List Int},AllIs K H (ns.map Dt.int) (ns.map V.int)
 | []=>allIs_nil.mpr rfl
 | n::ns=>allIs_cons.mpr ⟨.int n,_,rfl,is_int.mpr rfl,AllIs.ints⟩
theorem AllIs.atI {ds:List Dt} {xs:List V} {i:Int} {d:Dt} (h:AllIs K H ds xs) (e:L2.atI ds i=some d):∃ v,L2.atI xs i=some v∧Is K H d v:=by
 unfold L2.atI at e ⊢
 rw [← h.length]
 cases q:ixN ds.length i with
 | none=>rw [q] at e; cases e
 | some j=>
  rw [q] at e
  exact h.get e
theorem AllIs.one {d:Dt} {xs:List V} (h:AllIs K H [d] xs):∃ v,xs=[v]∧Is K H d v:=by
 obtain ⟨x,r,rfl,h1,h2⟩:=allIs_cons.mp h
 rw [allIs_nil.mp h2]
 exact ⟨x,rfl,h1⟩
theorem AllIs.two {d e:Dt} {xs:List V} (h:AllIs K H [d,e] xs):∃ v u,xs=[v,u]∧Is K H d v∧Is K H e u:=by
 obtain ⟨x,r,rfl,h1,h2⟩:=allIs_cons.mp h
 obtain ⟨u,rfl,h3⟩:=h2.one
 exact ⟨x,u,rfl,h1,h3⟩
theorem zI {p:Addr} (h:H p=none) (o:HO):Same H (upd H p o):=fun b u q=>by rw [zw (zS q h)]; exact q
structure Vw where
 g:Hp
 h:Hp
 sub:Same g h
structure Le (W W':Vw):Prop where
 g:Same W.g W'.g
 h:Same W.h W'.h
 n:∀ a,W.h a≠none→W.g a=none→W'.g a=none
theorem Le.refl (W:Vw):Le W W:=⟨Same.refl _,Same.refl _,fun _ _ h=>h⟩
theorem Le.trans {W W1 W2:Vw} (a:Le W W1) (b:Le W1 W2):Le W W2:=
 ⟨a.g.trans b.g,a.h.trans b.h,fun c h1 h2=>b.n c (fun z=>h1 (a.h.free z)) (a.n c h1 h2)⟩
theorem Is.mono {W W':Vw} {d:Dt} {v:V} (h:Is K W.g d v) (s:Le W W'):Is K W'.g d v:=Is.mono0 s.g h
theorem AllIs.mono {W W':Vw} {d:List Dt} {v:List V} (h:AllIs K W.g d v) (s:Le W W'):AllIs K W'.g d v:=AllIs.mono0 s.g h
def Vw.new (W:Vw) (p:Addr) (o:HO):Vw:=⟨upd W.g p o,upd W.h p o,fun b u q=>by
 by_cases e:b=p
 ·subst e; rw [zu] at q ⊢; exact q
 ·rw [zw e] at q ⊢; exact W.sub _ _ q⟩
theorem vU {W:Vw} {p:Addr} (hp:W.h p=none) (o:HO):Le W (W.new p o):=
 ⟨zI (W.sub.free hp) o,zI hp o,fun a h1 h2=>by
  have:a≠p:=fun e=>h1 (e ▸ hp)
  show upd W.g p o a=none
  rw [zw this]; exact h2⟩
def Vw.mine (W:Vw) (p:Addr) (o:HO) (hp:W.g p=none):Vw:=⟨W.g,upd W.h p o,fun b u q=>by
 have:b≠p:=fun e=>by rw [e,hp] at q; cases q
 rw [zw this]; exact W.sub _ _ q⟩
theorem rW {W:Vw} {p:Addr} (hp:W.h p=none) (o:HO):Le W (W.mine p o (W.sub.free hp)):=
 ⟨Same.refl _,zI hp o,fun _ _ h=>h⟩
def Vw.frz (W:Vw) (p:Addr) (o:HO) (hp:W.h p=some o):Vw:=⟨upd W.g p o,W.h,fun b u q=>by
 by_cases e:b=p
 ·subst e; rw [zu] at q; rw [hp]; exact q
 ·rw [zw e] at q; exact W.sub _ _ q⟩
inductive Sl where | none | some (d:Dt) | own (ds:List Dt) | arg (a:Addr) (ds:List Dt)
abbrev DS:=List Sl
structure Rl (K:PySem.W.Frag) (Z F:Hp) (W:Vw) (ρ:DS) (σ:St):Prop where
 len:ρ.length=σ.length
 at_:∀ (i:Nat) (d:Dt),ρ[i]? = some (.some d)→∃ v,σ[i]? = some (some v)∧Is K W.g d v
 ow:∀ (i:Nat) (ds:List Dt),ρ[i]? = some (.own ds)→∃ a xs,σ[i]? = some (some (.ref a))∧W.h a=some (.lst xs)∧W.g a=none∧F a=none∧AllIs K W.g ds xs
 ne:∀ (i j:Nat) (ds es:List Dt),i≠j→ρ[i]? = some (.own ds)→ρ[j]? = some (.own es)→σ[i]?≠σ[j]?
 fr:Same F W.h
 z:Same Z F
 ar:∀ (i:Nat) (a:Addr) (ds:List Dt),ρ[i]? = some (.arg a ds)→(∃ xs,σ[i]? = some (some (.ref a))∧W.h a=some (.lst xs)∧W.g a=none∧F a=none∧AllIs K W.g ds xs)∧(∀ (j:Nat) (es:List Dt),ρ[j]? = some (.own es)→σ[j]?≠some (some (.ref a)))∧∀ (j:Nat) (b:Addr) (es:List Dt),ρ[j]? = some (.arg b es)→j=i
variable {F:Hp} {W W':Vw}
theorem Rl.mono {ρ:DS} {σ:St} (r:Rl K Z F W ρ σ) (s:Le W W'):Rl K Z F W' ρ σ:=
 ⟨r.len,fun i d e=>let ⟨v,h1,h2⟩:=r.at_ i d e; ⟨v,h1,h2.mono s⟩,
  fun i ds e=>let ⟨a,xs,h1,h2,h3,h4,h5⟩:=r.ow i ds e; ⟨a,xs,h1,s.h _ _ h2,s.n a (by rw [h2]; intro z; cases z) h3,h4,h5.mono s⟩,r.ne,r.fr.trans s.h,r.z,
  fun i a ds e=>let ⟨⟨xs,h1,h2,h3,h4,h5⟩,k1,k2⟩:=r.ar i a ds e; ⟨⟨xs,h1,s.h _ _ h2,s.n a (by rw [h2]; intro z; cases z) h3,h4,h5.mono s⟩,k1,k2⟩⟩
theorem zk {α:Type} {l:List α} {i j:Nat} {x y:α} (q:(l.set i x)[j]? = some y):(i=j∧i<l.length∧x=y)∨(i≠j∧l[j]? = some y):=by
 by_cases hij:i=j
 ·subst hij
  by_cases hl:i<l.length
  ·rw [List.getElem?_set_self hl] at q
   exact .inl ⟨rfl,hl,Option.some.inj q⟩
  ·rw [List.getElem?_eq_none (by rw [List.length_set]; omega)] at q
   cases q
 ·rw [List.getElem?_set_ne hij] at q
  exact .inr ⟨hij,q⟩
theorem Rl.set {ρ:DS} {σ:St} (r:Rl K Z F W ρ σ) {d:Dt} {v:V} (i:Nat) (h:Is K W.g d v):Rl K Z F W (ρ.set i (.some d)) (σ.set i (some v)):=by
 refine ⟨by rw [List.length_set,List.length_set]; exact r.len,fun j e q=>?_,fun j ds q=>?_,fun j k ds es hjk q1 q2=>?_,r.fr,r.z,fun j a ds q=>?_⟩
 ·rcases zk q with ⟨rfl,hl,e1⟩ | ⟨hij,q⟩
  ·cases e1
   exact ⟨v,by rw [List.getElem?_set_self (by rw [← r.len]; exact hl)],h⟩
  ·rw [List.getElem?_set_ne hij]
   exact r.at_ j e q
 ·rcases zk q with ⟨_,_,e1⟩ | ⟨hij,q⟩
  ·cases e1
  ·rw [List.getElem?_set_ne hij]
   exact r.ow j ds q
 ·rcases zk q1 with ⟨_,_,e1⟩ | ⟨hij,q1⟩
  ·cases e1
  rcases zk q2 with ⟨_,_,e1⟩ | ⟨hik,q2⟩
  ·cases e1
  rw [List.getElem?_set_ne hij,List.getElem?_set_ne hik]
  exact r.ne j k ds es hjk q1 q2
 ·rcases zk q with ⟨_,_,e1⟩ | ⟨hij,q⟩
  ·cases e1
  obtain ⟨⟨xs,h1,h2⟩,k1,k2⟩:=r.ar j a ds q
  refine ⟨⟨xs,by rw [List.getElem?_set_ne hij]; exact h1,h2⟩,fun k es q'=>?_,fun k c es q'=>?_⟩
  ·rcases zk q' with ⟨_,_,e1⟩ | ⟨hik,q'⟩
   ·cases e1
   rw [List.getElem?_set_ne hik]
   exact k1 k es q'
  ·rcases zk q' with ⟨_,_,e1⟩ | ⟨hik,q'⟩
   ·cases e1
   exact k2 k c es q'
theorem Rl.own {ρ:DS} {σ:St} (r:Rl K Z F W ρ σ) (s:Le W W') {p:Addr} {xs:List V} {ds:List Dt} (i:Nat) (h0:W.h p=none) (h1:W'.h p=some (.lst xs)) (h2:W'.g p=none) (h3:AllIs K W'.g ds xs):
  Rl K Z F W' (ρ.set i (.own ds)) (σ.set i (some (.ref p))):=by
 have r':=r.mono s
 have nep:∀ (j:Nat) (es:List Dt),ρ[j]? = some (Sl.own es)→σ[j]?≠some (some (V.ref p)):=fun j es q z=>by
  obtain ⟨a,ys,e1,e2,_⟩:=r.ow j es q
  rw [z] at e1
  cases e1
  rw [h0] at e2
  cases e2
 refine ⟨by rw [List.length_set,List.length_set]; exact r.len,fun j e q=>?_,fun j es q=>?_,fun j k es es' hjk q1 q2=>?_,r'.fr,r.z,fun j a fs q=>?_⟩
 ·rcases zk q with ⟨_,_,e1⟩ | ⟨hij,q⟩
  ·cases e1
  ·rw [List.getElem?_set_ne hij]
   exact r'.at_ j e q
 ·rcases zk q with ⟨rfl,hl,e1⟩ | ⟨hij,q⟩
  ·cases e1
   exact ⟨p,xs,by rw [List.getElem?_set_self (by rw [← r.len]; exact hl)],h1,h2,r.fr.free h0,h3⟩
  ·rw [List.getElem?_set_ne hij]
   exact r'.ow j es q
 ·rcases zk q1 with ⟨rfl,hl,e1⟩ | ⟨hij,q1⟩
  ·rcases zk q2 with ⟨rfl,_,_⟩ | ⟨hik,q2⟩
   ·exact absurd rfl hjk
   ·rw [List.getElem?_set_self (by rw [← r.len]; exact hl),List.getElem?_set_ne hik]
    exact fun z=>nep k es' q2 z.symm
  ·rcases zk q2 with ⟨rfl,hl,_⟩ | ⟨hik,q2⟩
   ·rw [List.getElem?_set_self (by rw [← r.len]; exact hl),List.getElem?_set_ne hij]
    exact nep j es q1
   ·rw [List.getElem?_set_ne hij,List.getElem?_set_ne hik]
    exact r.ne j k es es' hjk q1 q2
 ·rcases zk q with ⟨_,_,e1⟩ | ⟨hij,q⟩
  ·cases e1
  obtain ⟨⟨ys,g1,g2⟩,k1,k2⟩:=r'.ar j a fs q
  obtain ⟨⟨_,_,g3,_⟩,_,_⟩:=r.ar j a fs q
  refine ⟨⟨ys,by rw [List.getElem?_set_ne hij]; exact g1,g2⟩,fun k es q'=>?_,fun k c es q'=>?_⟩
  ·rcases zk q' with ⟨rfl,hl,e1⟩ | ⟨hik,q'⟩
   ·rw [List.getElem?_set_self (by rw [← r.len]; exact hl)]
    intro z
    cases z
    rw [h0] at g3
    cases g3
   ·rw [List.getElem?_set_ne hik]
    exact k1 k es q'
  ·rcases zk q' with ⟨_,_,e1⟩ | ⟨hik,q'⟩
   ·cases e1
   exact k2 k c es q'
theorem Rl.put {ρ:DS} {σ:St} (r:Rl K Z F W ρ σ) {i:Nat} {ds es:List Dt} {a:Addr} {ys:List V} (hi:ρ[i]? = some (.own ds)) (ha:σ[i]? = some (some (.ref a))) (hg:W.g a=none) (hF:F a=none) (h3:AllIs K W.g es ys):
  Rl K Z F (W.mine a (.lst ys) hg) (ρ.set i (.own es)) σ:=by
 have hl:i<ρ.length:=by
  rcases Nat.lt_or_ge i ρ.length with h | h
  ·exact h
  ·rw [List.getElem?_eq_none h] at hi; cases hi
 have other:∀ j fs,j≠i→ρ[j]? = some (.own fs)→σ[j]?≠some (some (.ref a)):=fun j fs hj q z=>r.ne j i fs ds hj q hi (z.trans ha.symm)
 refine ⟨by rw [List.length_set]; exact r.len,fun j e q=>?_,fun j fs q=>?_,fun j k fs fs' hjk q1 q2=>?_,fun p o q=>?_,r.z,fun j c fs q=>?_⟩
 ·rcases zk q with ⟨_,_,e1⟩ | ⟨hij,q⟩
  ·cases e1
  ·exact r.at_ j e q
 ·rcases zk q with ⟨rfl,_,e1⟩ | ⟨hij,q⟩
  ·cases e1
   exact ⟨a,ys,ha,zu,hg,hF,h3⟩
  ·obtain ⟨b,xs,e1,e2,e3,e4,e5⟩:=r.ow j fs q
   have hb:b≠a:=fun z=>other j fs (fun z=>hij z.symm) q (z ▸ e1)
   exact ⟨b,xs,e1,(zw hb).trans e2,e3,e4,e5⟩
 ·have k1:∃ gs,ρ[j]? = some (.own gs):=by
   rcases zk q1 with ⟨rfl,_,_⟩ | ⟨_,q⟩
   ·exact ⟨_,hi⟩
   ·exact ⟨_,q⟩
  have k2:∃ gs,ρ[k]? = some (.own gs):=by
   rcases zk q2 with ⟨rfl,_,_⟩ | ⟨_,q⟩
   ·exact ⟨_,hi⟩
   ·exact ⟨_,q⟩
  obtain ⟨_,k1⟩:=k1
  obtain ⟨_,k2⟩:=k2
  exact r.ne j k _ _ hjk k1 k2
 ·have e:p≠a:=fun e=>by rw [e,hF] at q; cases q
  exact (zw (H:=W.h) (o:=.lst ys) e).trans (r.fr p o q)
 ·rcases zk q with ⟨_,_,e1⟩ | ⟨hij,q⟩
  ·cases e1
  obtain ⟨⟨ys',g1,g2,g3,g4,g5⟩,k1,k2⟩:=r.ar j c fs q
  have hc:c≠a:=fun z=>k1 i ds hi (by rw [z]; exact ha)
  refine ⟨⟨ys',g1,(zw hc).trans g2,g3,g4,g5⟩,fun k es' q'=>?_,fun k c' es' q'=>?_⟩
  ·rcases zk q' with ⟨rfl,_,_⟩ | ⟨_,q'⟩
   ·exact k1 i ds hi
   ·exact k1 k es' q'
  ·rcases zk q' with ⟨_,_,e1⟩ | ⟨hik,q'⟩
   ·cases e1
   exact k2 k c' es' q'
theorem Rl.frz {ρ:DS} {σ:St} (r:Rl K Z F W ρ σ) {i:Nat} {ds:List Dt} {a:Addr} {xs:List V} (hi:ρ[i]? = some (.own ds)) (ha:σ[i]? = some (some (.ref a))) (hh:W.h a=some (.lst xs)) (hg:W.g a=none) (h3:AllIs K W.g ds xs):
  Rl K Z F (W.frz a _ hh) (ρ.set i (.some (.lst ds))) σ:=by
 have sg:Same W.g (upd W.g a (.lst xs)):=zI hg _
 have other:∀ j fs,j≠i→ρ[j]? = some (.own fs)→σ[j]?≠some (some (.ref a)):=fun j fs hj q z=>r.ne j i fs ds hj q hi (z.trans ha.symm)
 refine ⟨by rw [List.length_set]; exact r.len,fun j e q=>?_,fun j fs q=>?_,fun j k fs fs' hjk q1 q2=>?_,r.fr,r.z,fun j c fs q=>?_⟩
 ·rcases zk q with ⟨rfl,_,e1⟩ | ⟨hij,q⟩
  ·cases e1
   exact ⟨_,ha,is_lst.mpr ⟨a,xs,rfl,zu,AllIs.mono0 sg h3⟩⟩
  ·obtain ⟨v,e1,e2⟩:=r.at_ j e q
   exact ⟨v,e1,Is.mono0 sg e2⟩
 ·rcases zk q with ⟨_,_,e1⟩ | ⟨hij,q⟩
  ·cases e1
  ·obtain ⟨b,ys,e1,e2,e3,e4,e5⟩:=r.ow j fs q
   have hb:b≠a:=fun z=>other j fs (fun z=>hij z.symm) q (z ▸ e1)
   exact ⟨b,ys,e1,e2,(zw hb).trans e3,e4,AllIs.mono0 sg e5⟩
 ·rcases zk q1 with ⟨_,_,e1⟩ | ⟨_,q1⟩
  ·cases e1
  rcases zk q2 with ⟨_,_,e1⟩ | ⟨_,q2⟩
  ·cases e1
  exact r.ne j k _ _ hjk q1 q2
 ·rcases zk q with ⟨_,_,e1⟩ | ⟨hij,q⟩
  ·cases e1
  obtain ⟨⟨ys',g1,g2,g3,g4,g5⟩,k1,k2⟩:=r.ar j c fs q
  have hc:c≠a:=fun z=>k1 i ds hi (by rw [z]; exact ha)
  refine ⟨⟨ys',g1,g2,(zw hc).trans g3,g4,AllIs.mono0 sg g5⟩,fun k es' q'=>?_,fun k c' es' q'=>?_⟩
  ·rcases zk q' with ⟨_,_,e1⟩ | ⟨_,q'⟩
   ·cases e1
   ·exact k1 k es' q'
  ·rcases zk q' with ⟨_,_,e1⟩ | ⟨hik,q'⟩
   ·cases e1
   exact k2 k c' es' q'
def z_ (n:Nat) (ds:List Dt):DS:=ds.map Sl.some++List.replicate (n - ds.length) Sl.none
theorem Rl.start {N:List Str} {ds:List Dt} {vs:List V} (h:AllIs K W.g ds vs) (hz:Same Z W.h):Rl K Z W.h W (z_ N.length ds) (L2.start N vs):=by
 have hl:=h.length
 have cls:∀ (i:Nat) (y:Sl),(z_ N.length ds)[i]? = some y→(∃ d,ds[i]? = some d∧y=.some d)∨y=.none:=fun i y e=>by
  unfold z_ at e
  by_cases hi:i<ds.length
  ·rw [List.getElem?_append_left (by rw [List.length_map]; exact hi),List.getElem?_map] at e
   cases q:ds[i]? with
   | none=>rw [q] at e; cases e
   | some d'=>
    rw [q] at e
    exact .inl ⟨d',rfl,(Option.some.inj e).symm⟩
  ·rw [List.getElem?_append_right (by rw [List.length_map]; omega),List.getElem?_replicate] at e
   split at e
   ·exact .inr (Option.some.inj e).symm
   ·cases e
 refine ⟨by unfold L2.start z_; rw [List.length_append,List.length_append,List.length_map,List.length_map,List.length_replicate,List.length_replicate,hl],fun i d e=>?_,fun i es e=>?_,fun i j es fs _ e _=>?_,Same.refl _,hz,fun i a es e=>?_⟩
 ·rcases cls i _ e with ⟨d',q,e1⟩ | e1
  ·cases e1
   obtain ⟨v,h1,h2⟩:=h.get q
   refine ⟨v,?_,h2⟩
   have hi:i<ds.length:=by
    rcases Nat.lt_or_ge i ds.length with h | h
    ·exact h
    ·rw [List.getElem?_eq_none h] at q; cases q
   unfold L2.start
   rw [List.getElem?_append_left (by rw [List.length_map,← hl]; exact hi),List.getElem?_map,h1]
   rfl
  ·cases e1
 ·rcases cls i _ e with ⟨d',q,e1⟩ | e1
  ·cases e1
  ·cases e1
 ·rcases cls i _ e with ⟨d',q,e1⟩ | e1
  ·cases e1
  ·cases e1
 ·rcases cls i _ e with ⟨d',q,e1⟩ | e1
  ·cases e1
  ·cases e1
abbrev DTE:=DS→(Dt→Prop)→Prop
abbrev DTT:=DS→(Bool→Prop)→Prop
abbrev DTA:=DS→(List Dt→Prop)→Prop
def LiE (K:PySem.W.Frag) (Z:Hp) (te:TE) (t:DTE):Prop:=
 ∀ {F:Hp} (ρ:DS) (σ:St) (H:Vw) (Q:Dt→Prop),Rl K Z F H ρ σ→t ρ Q→∀ R:VK,(∀ d v H',Le H H'→Is K H'.g d v→Q d→R v H'.h)→te σ H.h R
def LiT (K:PySem.W.Frag) (Z:Hp) (te:TT) (t:DTT):Prop:=
 ∀ {F:Hp} (ρ:DS) (σ:St) (H:Vw) (Q:Bool→Prop),Rl K Z F H ρ σ→t ρ Q→∀ R:Bool→Hp→Prop,(∀ d H',Le H H'→Q d→R d H'.h)→te σ H.h R
def LiA (K:PySem.W.Frag) (Z:Hp) (te:TA) (t:DTA):Prop:=
 ∀ {F:Hp} (ρ:DS) (σ:St) (H:Vw) (Q:List Dt→Prop),Rl K Z F H ρ σ→t ρ Q→∀ R:List V→Hp→Prop,(∀ d v H',Le H H'→AllIs K H'.g d v→Q d→R v H'.h)→te σ H.h R
def DE (X:Cx) (e:Expr) (t:DTE):Prop:=∃ te,PE X e te∧LiE X.K (Zx X) te t
def DT (X:Cx) (e:Expr) (t:DTT):Prop:=∃ te,PT X e te∧LiT X.K (Zx X) te t
def DW (X:Cx) (e:Expr) (t:DTT):Prop:=∃ te,PW X e te∧LiT X.K (Zx X) te t
def DA (X:Cx) (es:List Expr) (t:DTA):Prop:=∃ te,PA X es te∧LiA X.K (Zx X) te t
theorem DW.dt {X:Cx} {e:Expr} {t:DTT} (h:DW X e t):DT X e t:=let ⟨te,h1,h2⟩:=h; ⟨te,h1.pt,h2⟩
def V_ (i:Nat):DTE:=fun ρ Q=>∃ d,ρ[i]? = some (.some d)∧Q d
def dC (d:Dt):DTE:=fun _ Q=>Q d
section
variable {X:Cx} {a b c:Expr} {ta tb tc:DTE} {pos:Pos}
theorem dv (i:Nat) {x:Str} {pos:Pos} (hN:X.N[i]? = some x:=by rfl) (hv:Vis X.env.scope x:=by first | exact Or.inl rfl | exact Or.inr (Or.inl rfl) | exact Or.inr (Or.inr rfl)) (hd:(x == ("__debug__":Str))=false:=by decide)
  (hcd:(x == ("__classdict__":Str))=false:=by decide):DE X (.Name x pos) (V_ i):=
 ⟨jO i,z8 hN hv hd hcd,fun ρ σ H Q r h R k=>by
  obtain ⟨d,e,q⟩:=h
  obtain ⟨v,h1,h2⟩:=r.at_ i d e
  exact ⟨v,h1,k d v H (Le.refl H) h2 q⟩⟩
theorem lic {v:V} {d:Dt} (h:∀ H:Vw,Is K H.g d v):LiE K Z (tC v) (dC d):=fun ρ σ H Q r q R k=>k d v H (Le.refl H) (h H) q
theorem zc {i j pos}:DE X (.Constant (.int i) j pos) (dC (.int i)):=⟨_,og,lic fun _=>is_int.mpr rfl⟩
theorem wz {b j pos}:DE X (.Constant (.bool b) j pos) (dC (.bl b)):=⟨_,Xk,lic fun _=>is_bl.mpr rfl⟩
theorem tT {j pos}:DE X (.Constant .none j pos) (dC .non):=⟨_,ce,lic fun _=>is_non.mpr rfl⟩
theorem tS {x j pos}:DE X (.Constant (.str x) j pos) (dC (.str x)):=⟨_,ca,lic fun _=>is_str.mpr rfl⟩
def DOp (X:Cx) (f:Value→Value→Sem Value) (g:Dt→Dt→(Dt→Prop)→Prop):Prop:=
 ∃ r,OpR X f r∧∀ (H:Vw) (x y:V) (d e:Dt) (Q:Dt→Prop),Is X.K H.g d x→Is X.K H.g e y→g d e Q→∀ R:VK,(∀ d v H',Le H H'→Is X.K H'.g d v→Q d→R v H'.h)→r x y H.h R
def dOp (g:Dt→Dt→(Dt→Prop)→Prop) (ta tb:DTE):DTE:=fun ρ Q=>ta ρ fun d=>tb ρ fun e=>g d e Q
theorem Yb {te tf:TE} {r:R2} {g:Dt→Dt→(Dt→Prop)→Prop} (ha:LiE K Z te ta) (hb:LiE K Z tf tb)
  (hg:∀ (H:Vw) (x y:V) (d e:Dt) (Q:Dt→Prop),Is K H.g d x→Is K H.g e y→g d e Q→∀ R:VK,(∀ d v H',Le H H'→Is K H'.g d v→Q d→R v H'.h)→r x y H.h R):LiE K Z (tOp r te tf) (dOp g ta tb):=
 fun ρ σ H Q rl h R k=>ha ρ σ H _ rl h _ fun d v H1 s1 i1 q1=>hb ρ σ H1 _ (rl.mono s1) q1 _ fun e u H2 s2 i2 q2=>
  hg H2 v u d e Q (i1.mono s2) i2 q2 R fun d' v' H3 s3 i3 q3=>k d' v' H3 ((s1.trans s2).trans s3) i3 q3
theorem zh {op:Operator} {g:Dt→Dt→(Dt→Prop)→Prop} (ho:DOp X (binaryOp op) g) (ha:DE X a ta) (hb:DE X b tb):DE X (.BinOp a op b pos) (dOp g ta tb):=by
 obtain ⟨r,h1,h2⟩:=ho
 obtain ⟨te,p1,l1⟩:=ha
 obtain ⟨tf,p2,l2⟩:=hb
 exact ⟨_,eV h1 p1 p2,Yb l1 l2 h2⟩
theorem tU {op:CmpOp} {g:Dt→Dt→(Dt→Prop)→Prop} (ho:DOp X (compareOp op) g) (ha:DE X a ta) (hb:DE X b tb) (hm:behindInMarks op b=false):DE X (.Compare a [op] [b] pos) (dOp g ta tb):=by
 obtain ⟨r,h1,h2⟩:=ho
 obtain ⟨te,p1,l1⟩:=ha
 obtain ⟨tf,p2,l2⟩:=hb
 exact ⟨_,ig h1 p1 p2 hm,Yb l1 l2 h2⟩
def ui (t:DTE):DTT:=fun ρ Q=>t ρ fun d=>∃ k,d=.bl k∧Q k
theorem rT {te:TE} {t:DTE} (h:LiE K Z te t):LiT K Z (lj te) (ui t):=fun ρ σ H Q r q R k=>
 h ρ σ H _ r q _ fun d v H1 s1 i1 ⟨b,e,qb⟩=>by
  subst e
  exact ⟨b,is_bl.mp i1,k b H1 s1 qb⟩
theorem zo {op:CmpOp} {g:Dt→Dt→(Dt→Prop)→Prop} (ho:DOp X (compareOp op) g) (ha:DE X a ta) (hb:DE X b tb) (hm:behindInMarks op b=false):DT X (.Compare a [op] [b] pos) (ui (dOp g ta tb)):=by
 obtain ⟨r,h1,h2⟩:=ho
 obtain ⟨te,p1,l1⟩:=ha
 obtain ⟨tf,p2,l2⟩:=hb
 exact ⟨_,jZ h1 p1 p2 hm,rT (Yb l1 l2 h2)⟩
theorem zP {e:Expr} {t:DTE} (h:DE X e t) (he:∀ yA,isTrue e X.env yA=(do let v ← yA; standAt e.pos; holding [v] (truthy v)):=by intro _; rfl):DT X e (ui t):=by
 obtain ⟨te,p,l⟩:=h
 exact ⟨_,dX p he,rT l⟩
def jl (g g':Dt→Dt→(Dt→Prop)→Prop) (ta tb tc:DTE):DTE:=fun ρ Q=>ta ρ fun d=>tb ρ fun e=>g d e fun z=>∃ k,z=.bl k∧(if k=true then tc ρ fun w=>g' e w Q else Q (.bl false))
theorem fF {te tf tg:TE} {r r':R2} {g g':Dt→Dt→(Dt→Prop)→Prop} (ha:LiE K Z te ta) (hb:LiE K Z tf tb) (hc:LiE K Z tg tc)
  (hg:∀ (H:Vw) (x y:V) (d e:Dt) (Q:Dt→Prop),Is K H.g d x→Is K H.g e y→g d e Q→∀ R:VK,(∀ d v H',Le H H'→Is K H'.g d v→Q d→R v H'.h)→r x y H.h R)
  (hg':∀ (H:Vw) (x y:V) (d e:Dt) (Q:Dt→Prop),Is K H.g d x→Is K H.g e y→g' d e Q→∀ R:VK,(∀ d v H',Le H H'→Is K H'.g d v→Q d→R v H'.h)→r' x y H.h R):LiE K Z (ln r r' te tf tg) (jl g g' ta tb tc):=
 fun ρ σ H Q rl h R k=>ha ρ σ H _ rl h _ fun d v H1 s1 i1 q1=>hb ρ σ H1 _ (rl.mono s1) q1 _ fun e u H2 s2 i2 q2=>
  hg H2 v u d e _ (i1.mono s2) i2 q2 _ fun d' v' H3 s3 i3 ⟨z,ez,q3⟩=>by
   subst ez
   refine ⟨z,is_bl.mp i3,?_⟩
   cases z with
   | false=>exact k _ _ H3 ((s1.trans s2).trans s3) (is_bl.mpr rfl) q3
   | true=>exact hc ρ σ H3 _ (rl.mono ((s1.trans s2).trans s3)) q3 _ fun w x H4 s4 i4 q4=>hg' H4 u x e w Q (i2.mono (s3.trans s4)) i4 q4 R fun d5 v5 H5 s5 i5 q5=>k d5 v5 H5 (((s1.trans s2).trans (s3.trans s4)).trans s5) i5 q5
theorem pf {op op':CmpOp} {g g':Dt→Dt→(Dt→Prop)→Prop} (ho:DOp X (compareOp op) g) (ho':DOp X (compareOp op') g') (ha:DE X a ta) (hb:DE X b tb) (hc:DE X c tc)
  (hm:lastMarks [op,op'] [b,c]=false:=by with_unfolding_all rfl):DT X (.Compare a [op,op'] [b,c] pos) (ui (jl g g' ta tb tc)):=by
 obtain ⟨r,h1,h2⟩:=ho
 obtain ⟨r',h3,h4⟩:=ho'
 obtain ⟨te,p1,l1⟩:=ha
 obtain ⟨tf,p2,l2⟩:=hb
 obtain ⟨tg,p3,l3⟩:=hc
 exact ⟨_,lF h1 h3 p1 p2 p3 hm,rT (fF l1 l2 l3 h2 h4)⟩
variable {tA tB:DTT} {zX:List Expr}
def YI (t u:DTT):DTT:=fun ρ Q=>t ρ fun c=>if c=true then u ρ Q else Q false
def dOr (t u:DTT):DTT:=fun ρ Q=>t ρ fun c=>if c=true then Q true else u ρ Q
def Uk (t:DTT):DTT:=fun ρ Q=>t ρ fun c=>Q (!c)
theorem yx (ha:DT X a tA):DW X (.BoolOp .And [a] pos) tA:=let ⟨_,p,l⟩:=ha; ⟨_,jY p,l⟩
theorem w9 (ha:DT X a tA):DW X (.BoolOp .Or [a] pos) tA:=let ⟨_,p,l⟩:=ha; ⟨_,dU p,l⟩
theorem yy (ha:DT X a tA) (hb:DW X (.BoolOp .And (b::zX) pos) tB):DW X (.BoolOp .And (a::b::zX) pos) (YI tA tB):=by
 obtain ⟨te,p1,l1⟩:=ha
 obtain ⟨tf,p2,l2⟩:=hb
 refine ⟨_,dW p1 p2,fun ρ σ H Q r h R k=>l1 ρ σ H _ r h _ fun c H1 s1 q1=>?_⟩
 cases c with
 | true=>exact l2 ρ σ H1 Q (r.mono s1) q1 R fun d H2 s2 q2=>k d H2 (s1.trans s2) q2
 | false=>exact k _ H1 s1 q1
theorem xW (ha:DT X a tA) (hb:DW X (.BoolOp .Or (b::zX) pos) tB):DW X (.BoolOp .Or (a::b::zX) pos) (dOr tA tB):=by
 obtain ⟨te,p1,l1⟩:=ha
 obtain ⟨tf,p2,l2⟩:=hb
 refine ⟨_,Xh p1 p2,fun ρ σ H Q r h R k=>l1 ρ σ H _ r h _ fun c H1 s1 q1=>?_⟩
 cases c with
 | false=>exact l2 ρ σ H1 Q (r.mono s1) q1 R fun d H2 s2 q2=>k d H2 (s1.trans s2) q2
 | true=>exact k _ H1 s1 q1
theorem yN (ha:DT X a tA):DT X (.UnaryOp .Not a pos) (Uk tA):=by
 obtain ⟨te,p1,l1⟩:=ha
 exact ⟨_,dY p1,fun ρ σ H Q r h R k=>l1 ρ σ H _ r h _ fun c H1 s1 q1=>k _ H1 s1 q1⟩
def Vj (ta tb:DTE):DTE:=fun ρ Q=>ta ρ fun d=>∃ c,d=.bl c∧if c=true then tb ρ Q else Q (.bl false)
def Uj (ta tb:DTE):DTE:=fun ρ Q=>ta ρ fun d=>∃ c,d=.bl c∧if c=true then Q (.bl true) else tb ρ Q
def WT (ta:DTE):DTE:=fun ρ Q=>ta ρ fun d=>∃ c,d=.bl c∧Q (.bl (!c))
theorem qd {op} {t:DTE} (h:DE X a t):DE X (.BoolOp op [a] pos) t:=let ⟨_,p,l⟩:=h; ⟨_,cb p,l⟩
theorem tV (ha:DE X a ta) (hb:DE X (.BoolOp .And (b::zX) pos) tb):DE X (.BoolOp .And (a::b::zX) pos) (Vj ta tb):=by
 obtain ⟨te,p1,l1⟩:=ha
 obtain ⟨tf,p2,l2⟩:=hb
 refine ⟨_,cg p1 p2,fun ρ σ H Q r h R k=>l1 ρ σ H _ r h _ fun d v H1 s1 i1 ⟨c,e,q1⟩=>?_⟩
 subst e
 refine ⟨c,is_bl.mp i1,?_⟩
 cases c with
 | true=>exact l2 ρ σ H1 Q (r.mono s1) q1 R fun d v H2 s2 i2 q2=>k d v H2 (s1.trans s2) i2 q2
 | false=>exact k _ _ H1 s1 (is_bl.mpr rfl) q1
theorem WL (ha:DE X a ta) (hb:DE X (.BoolOp .Or (b::zX) pos) tb):DE X (.BoolOp .Or (a::b::zX) pos) (Uj ta tb):=by
 obtain ⟨te,p1,l1⟩:=ha
 obtain ⟨tf,p2,l2⟩:=hb
 refine ⟨_,Xj p1 p2,fun ρ σ H Q r h R k=>l1 ρ σ H _ r h _ fun d v H1 s1 i1 ⟨c,e,q1⟩=>?_⟩
 subst e
 refine ⟨c,is_bl.mp i1,?_⟩
 cases c with
 | false=>exact l2 ρ σ H1 Q (r.mono s1) q1 R fun d v H2 s2 i2 q2=>k d v H2 (s1.trans s2) i2 q2
 | true=>exact k _ _ H1 s1 (is_bl.mpr rfl) q1
theorem Yx (ha:DE X a ta):DE X (.UnaryOp .Not a pos) (WT ta):=by
 obtain ⟨te,p1,l1⟩:=ha
 refine ⟨_,cc p1,fun ρ σ H Q r h R k=>l1 ρ σ H _ r h _ fun d v H1 s1 i1 ⟨c,e,q1⟩=>?_⟩
 subst e
 exact ⟨c,is_bl.mp i1,k _ _ H1 s1 (is_bl.mpr rfl) q1⟩
end
section
variable {X:Cx} {a b c:Expr} {ta tb tc:DTE} {pos:Pos}
def gI (g:Int→Int→Dt):Dt→Dt→(Dt→Prop)→Prop:=fun d e Q=>∃ i j,d=.int i∧e=.int j∧Q (g i j)
def gIC (C:Int→Int→Prop) (g:Int→Int→Dt):Dt→Dt→(Dt→Prop)→Prop:=fun d e Q=>∃ i j,d=.int i∧e=.int j∧C i j∧Q (g i j)
theorem jc {f:Value→Value→Sem Value} {g:Int→Int→Int} (h:OpR X f (rI0 fun i j=>.int (g i j))):DOp X f (gI fun i j=>.int (g i j)):=by
 refine ⟨_,h,fun H x y d e Q i1 i2 q R k=>?_⟩
 obtain ⟨i,j,rfl,rfl,q⟩:=q
 exact ⟨i,j,is_int.mp i1,is_int.mp i2,k _ _ H (Le.refl H) (is_int.mpr rfl) q⟩
theorem qa {f:Value→Value→Sem Value} {g:Int→Int→Bool} (h:OpR X f (rI0 fun i j=>.bl (g i j))):DOp X f (gI fun i j=>.bl (g i j)):=by
 refine ⟨_,h,fun H x y d e Q i1 i2 q R k=>?_⟩
 obtain ⟨i,j,rfl,rfl,q⟩:=q
 exact ⟨i,j,is_int.mp i1,is_int.mp i2,k _ _ H (Le.refl H) (is_bl.mpr rfl) q⟩
theorem tR {f:Value→Value→Sem Value} {C:Int→Int→Prop} {g:Int→Int→Int} (h:OpR X f (rI C fun i j=>.int (g i j))):DOp X f (gIC C fun i j=>.int (g i j)):=by
 refine ⟨_,h,fun H x y d e Q i1 i2 q R k=>?_⟩
 obtain ⟨i,j,rfl,rfl,hc,q⟩:=q
 exact ⟨i,j,is_int.mp i1,is_int.mp i2,hc,k _ _ H (Le.refl H) (is_int.mpr rfl) q⟩
theorem ij:OpR X (binaryOp .Mult) (rI IntMulOk fun i j=>.int (i*j)):=opI fun _ _ _ _ _ _ _ hc q=>mul_int q hc
theorem zC:DOp X (binaryOp .Add) (gI fun i j=>.int (i+j)):=jc cn
theorem zN:DOp X (binaryOp .Sub) (gI fun i j=>.int (i - j)):=jc cj
theorem z4:DOp X (binaryOp .Mult) (gIC IntMulOk fun i j=>.int (i*j)):=tR ij
theorem xp:DOp X (binaryOp .FloorDiv) (gIC n0 fun i j=>.int (i.fdiv j)):=tR lP
def jJ (_ j:Int):Prop:=j≠0
theorem yB:DOp X (binaryOp .Mod) (gIC jJ fun i j=>.int (i.fmod j)):=tR (C:=jJ) ik
theorem jq {c n:Int} (h:(n != 0 && decide (n.natAbs<1073741824))=true):n0 c n:=by
 rw [Bool.and_eq_true,bne_iff_ne,decide_eq_true_iff] at h
 exact h
theorem du {c n:Int} (h:(n != 0)=true):jJ c n:=bne_iff_ne.mp h
theorem Vk {c n:Int} (h:(decide (0≤n) && (decide (n≤1000000) && decide (c.natAbs<18446744073709551616)))=true):YR c n:=by
 rw [Bool.and_eq_true,Bool.and_eq_true,decide_eq_true_iff,decide_eq_true_iff,decide_eq_true_iff] at h
 exact h
theorem Ws {c n:Int} (h:decide (n.natAbs<9223372036854775808)=true):IntMulOk c n:=by
 rw [decide_eq_true_iff] at h
 exact .of_right (intBits_le_64 (by omega) (by omega))
theorem Z8 {c n:Int} (h:decide (n.natAbs<9223372036854775808)=true):IntMulOk n c:=by
 rw [decide_eq_true_iff] at h
 exact .of_left (intBits_le_64 (by omega) (by omega))
theorem Xw:DOp X (binaryOp .Pow) (gIC YR fun i j=>.int (i ^ j.toNat)):=tR cm
theorem sH:DOp X (compareOp .Lt) (gI fun i j=>.bl (decide (i<j))):=qa Xn
theorem cq:DOp X (compareOp .LtE) (gI fun i j=>.bl (decide (i≤j))):=qa Xo
theorem rR:DOp X (compareOp .Gt) (gI fun i j=>.bl (decide (j<i))):=qa Xp
theorem iq:DOp X (compareOp .GtE) (gI fun i j=>.bl (decide (j≤i))):=qa Xq
def YD (ta:DTE):DTE:=fun ρ Q=>ta ρ fun d=>∃ i,d=.int i∧Q (.int (-i))
theorem ya (ha:DE X a ta):DE X (.UnaryOp .USub a pos) (YD ta):=by
 obtain ⟨te,p1,l1⟩:=ha
 refine ⟨_,Xi dH p1,fun ρ σ H Q r h R k=>l1 ρ σ H _ r h _ fun d v H1 s1 i1 ⟨i,e,q1⟩=>?_⟩
 subst e
 exact ⟨i,is_int.mp i1,k _ _ H1 s1 (is_int.mpr rfl) q1⟩
def Ul:DTA:=fun _ Q=>Q []
def Vc (te:DTE) (t:DTA):DTA:=fun ρ Q=>te ρ fun d=>t ρ fun ds=>Q (d::ds)
variable {es:List Expr} {t:DTA}
theorem zf:DA X [] Ul:=⟨_,yf,fun ρ σ H Q r h R k=>k [] [] H (Le.refl H) (allIs_nil.mpr rfl) h⟩
theorem za (ha:DE X a ta) (hr:DA X es t) (hs:starEach (a::es) X.env=(false,eval a X.env)::starEach es X.env:=by rfl):DA X (a::es) (Vc ta t):=by
 obtain ⟨te,p1,l1⟩:=ha
 obtain ⟨tf,p2,l2⟩:=hr
 exact ⟨_,zE p1 p2 hs,fun ρ σ H Q r h R k=>l1 ρ σ H _ r h _ fun d v H1 s1 i1 q1=>l2 ρ σ H1 _ (r.mono s1) q1 _ fun ds vs H2 s2 i2 q2=>
  k (d::ds) (v::vs) H2 (s1.trans s2) (allIs_cons.mpr ⟨v,vs,rfl,i1.mono s2,i2⟩) q2⟩
def Ub (t:DTA):DTE:=fun ρ Q=>t ρ fun ds=>Nat.ble ds.length 1000=true∧Q (.tup ds)
def WX (t:DTA):DTE:=fun ρ Q=>t ρ fun ds=>Nat.ble ds.length 1000=true∧Q (.lst ds)
theorem zy {x1} (h:DA X es t):DE X (.Tuple es x1 pos) (Ub t):=by
 obtain ⟨te,p1,l1⟩:=h
 refine ⟨_,oe p1,fun ρ σ H Q r h R k=>l1 ρ σ H _ r h _ fun ds vs H1 s1 i1 ⟨hl,q1⟩=>⟨?_,fun p hp=>?_⟩⟩
 ·rw [← i1.length]; exact Nat.le_trans (Nat.le_of_ble_eq_true hl) (by decide)
 ·have s:=vU hp (.tup vs)
  exact k _ _ _ (s1.trans s) (is_tup.mpr ⟨p,vs,rfl,zu,i1.mono s⟩) q1
theorem va (h:DA X es t):DE X (.List es pos) (WX t):=by
 obtain ⟨te,p1,l1⟩:=h
 refine ⟨_,lN p1,fun ρ σ H Q r h R k=>l1 ρ σ H _ r h _ fun ds vs H1 s1 i1 ⟨hl,q1⟩=>⟨?_,fun p hp=>?_⟩⟩
 ·rw [← i1.length]; exact Nat.le_trans (Nat.le_of_ble_eq_true hl) (by decide)
 ·have s:=vU hp (.lst vs)
  exact k _ _ _ (s1.trans s) (is_lst.mpr ⟨p,vs,rfl,zu,i1.mono s⟩) q1
def ng:Dt→Option (List Dt)
 | .tup ds=>some ds
 | .lst ds=>some ds
 | .scr ns=>some (ns.map .int)
 | _=>none
theorem pT {H:Vw} {d:Dt} {v:V} {ds:List Dt} (h:Is K H.g d v) (e:ng d=some ds):∃ a xs,v=.ref a∧(SqL K H.h a xs∨SqT K H.h a xs)∧AllIs K H.g ds xs:=by
 cases d with
 | tup es=>
  obtain rfl:es=ds:=Option.some.inj e
  obtain ⟨a,xs,rfl,h1,h2⟩:=is_tup.mp h
  exact ⟨a,xs,rfl,.inr (.of (H.sub _ _ h1)),h2⟩
 | lst es=>
  obtain rfl:es=ds:=Option.some.inj e
  obtain ⟨a,xs,rfl,h1,h2⟩:=is_lst.mp h
  exact ⟨a,xs,rfl,.inl (.of (H.sub _ _ h1)),h2⟩
 | scr ns=>
  obtain rfl:ns.map Dt.int=ds:=Option.some.inj e
  obtain ⟨a,rfl,h1⟩:=is_scr.mp h
  exact ⟨a,_,rfl,.inl (H.sub.seq h1),AllIs.ints⟩
 | _=>cases e
def dIx (ta tb:DTE):DTE:=fun ρ Q=>ta ρ fun d=>tb ρ fun e=>∃ ds i d',ng d=some ds∧e=.int i∧atI ds i=some d'∧Q d'
theorem zr (ha:DE X a ta) (hb:DE X b tb) (hs:vw b):DE X (.Subscript a b pos) (dIx ta tb):=by
 obtain ⟨te,p1,l1⟩:=ha
 obtain ⟨tf,p2,l2⟩:=hb
 refine ⟨_,nn oB p1 p2 hs,fun ρ σ H Q r h R k=>l1 ρ σ H _ r h _ fun d v H1 s1 i1 q1=>l2 ρ σ H1 _ (r.mono s1) q1 _ fun e u H2 s2 i2 q2=>?_⟩
 obtain ⟨ds,i,d',e1,e2,e3,q⟩:=q2
 subst e2
 obtain ⟨p,xs,e4,h1,h2⟩:=pT (i1.mono s2) e1
 obtain ⟨w,e5,h3⟩:=h2.atI e3
 rcases h1 with h1 | h1
 ·exact .inl ⟨p,xs,i,w,e4,is_int.mp i2,h1,e5,k d' w H2 (s1.trans s2) h3 q⟩
 ·exact .inr (.inl ⟨p,xs,i,w,e4,is_int.mp i2,h1,e5,k d' w H2 (s1.trans s2) h3 q⟩)
def Up (t:DTE):DTE:=fun ρ Q=>t ρ fun d=>∃ ds,ng d=some ds∧Q (.int ds.length)
theorem yD {p:Pos} (hg:Gl X "len") (hm:X.mg "len"=none) (ha:DE X a ta) (hs:starEach [a] X.env=(false,eval a X.env)::starEach [] X.env:=by rfl) (hpl:(backTo pos (starEach [] X.env)).any (·.1)=false:=by rfl):
  DE X (.Call (.Name "len" p) [a] [] pos) (Up ta):=by
 obtain ⟨te,p1,l1⟩:=ha
 refine ⟨_,yK xT hg hm PySem.boot_len (zE p1 yf hs) (by decide) (by decide) hs hpl,fun ρ σ H Q r h R k=>l1 ρ σ H _ r h _ fun d v H1 s1 i1 ⟨ds,e,q⟩=>?_⟩
 obtain ⟨a,xs,rfl,h1,h2⟩:=pT i1 e
 exact ⟨a,xs,rfl,h1,by rw [← h2.length]; exact k _ _ H1 s1 (is_int.mpr rfl) q⟩
def jo (xs:List Dt) (lo hi:Option Int):List Dt:=(xs.drop (HT.sIx xs.length 0 lo)).take (HT.sIx xs.length xs.length hi - HT.sIx xs.length 0 lo)
theorem AllIs.cut {G:Hp} {ds:List Dt} {xs:List V} (h:AllIs K G ds xs) (lo hi:Option Int):AllIs K G (jo ds lo hi) (oV xs lo hi):=by
 unfold jo oV
 rw [← h.length]
 exact (h.drop _).take _
abbrev DTO:=DS→(Option Int→Prop)→Prop
def DO (X:Cx) (e:Option Expr) (t:DTO):Prop:=∃ te,PO X e te∧∀ {F:Hp} (ρ:DS) (σ:St) (H:Vw) (Q:Option Int→Prop),Rl X.K (Zx X) F H ρ σ→t ρ Q→∀ R:Option Int→Hp→Prop,(∀ o H',Le H H'→Q o→R o H'.h)→te σ H.h R
def WS (t:DTE):DTO:=fun ρ Q=>t ρ fun d=>∃ i,d=.int i∧Q (some i)
theorem nJ (ha:DE X a ta):DO X (some a) (WS ta):=by
 obtain ⟨te,p1,l1⟩:=ha
 refine ⟨_,j4 p1,fun ρ σ H Q r h R k=>l1 ρ σ H _ r h _ fun d v H1 s1 i1 ⟨i,e,q⟩=>?_⟩
 subst e
 exact ⟨i,is_int.mp i1,k _ H1 s1 q⟩
def w4:Dt→Option (List Dt)
 | .lst ds=>some ds
 | .scr ns=>some (ns.map .int)
 | _=>none
theorem nu {H:Vw} {d:Dt} {v:V} {ds:List Dt} (h:Is K H.g d v) (e:w4 d=some ds):∃ a xs,v=.ref a∧SqL K H.h a xs∧AllIs K H.g ds xs:=by
 cases d with
 | lst es=>
  obtain rfl:es=ds:=Option.some.inj e
  obtain ⟨a,xs,rfl,h1,h2⟩:=is_lst.mp h
  exact ⟨a,xs,rfl,.of (H.sub _ _ h1),h2⟩
 | scr ns=>
  obtain rfl:ns.map Dt.int=ds:=Option.some.inj e
  obtain ⟨a,rfl,h1⟩:=is_scr.mp h
  exact ⟨a,_,rfl,H.sub.seq h1,AllIs.ints⟩
 | _=>cases e
def dSl (te:DTE) (tl th:DTO):DTE:=fun ρ Q=>te ρ fun d=>tl ρ fun l=>th ρ fun u=>∃ ds,w4 d=some ds∧Q (.lst (jo ds l u))
theorem jh {lo hi:Option Expr} {tl th:DTO} {p2:Pos} (ha:DE X a ta) (hl:DO X lo tl) (hu:DO X hi th):DE X (.Subscript a (.Slice lo hi none p2) pos) (dSl ta tl th):=by
 obtain ⟨te,p1,l1⟩:=ha
 obtain ⟨tf,p2,l2⟩:=hl
 obtain ⟨tg,p3,l3⟩:=hu
 refine ⟨_,lL jP p1 p2 p3,fun ρ σ H Q r h R k=>l1 ρ σ H _ r h _ fun d v H1 s1 i1 q1=>l2 ρ σ H1 _ (r.mono s1) q1 _ fun l H2 s2 q2=>l3 ρ σ H2 _ (r.mono (s1.trans s2)) q2 _ fun u H3 s3 ⟨ds,e,q⟩=>?_⟩
 obtain ⟨a,xs,rfl,h1,h2⟩:=nu (i1.mono (s2.trans s3)) e
 refine ⟨a,xs,rfl,h1,fun p hp=>?_⟩
 have s:=vU hp (.lst (oV xs l u))
 exact k _ _ _ (((s1.trans s2).trans s3).trans s) (is_lst.mpr ⟨p,_,rfl,zu,(h2.cut l u).mono s⟩) q
end
def LiF (K:PySem.W.Frag) (Z:Hp) (te:TE) (t:DTE):Prop:=
 ∀ {F:Hp} (ρ:DS) (σ:St) (H:Vw) (Q:Dt→Prop),Rl K Z F H ρ σ→t ρ Q→∀ R:VK,
  (∀ es p xs H',Le H H'→H.h p=none→H'.h p=some (.lst xs)→H'.g p=none→AllIs K H'.g es xs→Q (.lst es)→R (.ref p) H'.h)→te σ H.h R
def DF (X:Cx) (e:Expr) (t:DTE):Prop:=∃ te,PE X e te∧LiF X.K (Zx X) te t
theorem vV {H H':Vw} {p:Addr} {o:HO} (s:Le H H') (h0:H.h p=none) (h1:H'.h p=some o) (h2:H'.g p=none):Le H (H'.frz p o h1):=
 ⟨s.g.trans (zI h2 o),s.h,fun a z1 z2=>by
  have:a≠p:=fun e=>z1 (e ▸ h0)
  show upd H'.g p o a=none
  rw [zw this]; exact s.n a z1 z2⟩
section
variable {X:Cx} {a b c e:Expr} {ta tb tc:DTE} {t:DTA} {pos p0 p1 p2:Pos} {es:List Expr}
theorem DF.de {t:DTE} (h:DF X e t):DE X e t:=by
 obtain ⟨te,p,l⟩:=h
 exact ⟨te,p,fun ρ σ H Q r h R k=>l ρ σ H Q r h R fun es q xs H' s h0 h1 h2 i z=>k (.lst es) (.ref q) (H'.frz q _ h1) (vV s h0 h1 h2) (is_lst.mpr ⟨q,xs,rfl,zu,AllIs.mono0 (zI h2 _) i⟩) z⟩
theorem w_ (h:DA X es t):DF X (.List es pos) (WX t):=by
 obtain ⟨te,p1,l1⟩:=h
 refine ⟨_,lN p1,fun ρ σ H Q r h R k=>l1 ρ σ H _ r h _ fun ds vs H1 s1 i1 ⟨hl,q1⟩=>⟨?_,fun p hp=>?_⟩⟩
 ·rw [← i1.length]; exact Nat.le_trans (Nat.le_of_ble_eq_true hl) (by decide)
 ·exact k ds p vs (H1.mine p (.lst vs) (H1.sub.free hp)) (s1.trans (rW hp _)) (s1.h.free hp) zu (H1.sub.free hp) i1 q1
theorem AllIs.rep {G:Hp} {ds:List Dt} {xs:List V} (h:AllIs K G ds xs):∀ k:Nat,AllIs K G (List.replicate k ds).flatten (List.replicate k xs).flatten
 | 0=>allIs_nil.mpr rfl
 | k+1=>by
  rw [List.replicate_succ,List.replicate_succ,List.flatten_cons,List.flatten_cons]
  exact h.append (h.rep k)
def V5:Dt→Dt→(Dt→Prop)→Prop:=fun d e Q=>∃ ds k,d=.lst ds∧e=.int k∧-16000000≤k∧k≤16000000∧ds.length*k.toNat≤16000000∧Q (.lst (List.replicate k.toNat ds).flatten)
theorem Yv (ha:DE X a ta) (hb:DE X b tb):DF X (.BinOp a .Mult b pos) (dOp V5 ta tb):=by
 obtain ⟨te,p1,l1⟩:=ha
 obtain ⟨tf,p2,l2⟩:=hb
 refine ⟨_,eV ck p1 p2,fun ρ σ H Q r h R k=>l1 ρ σ H _ r h _ fun d v H1 s1 i1 q1=>l2 ρ σ H1 _ (r.mono s1) q1 _ fun e u H2 s2 i2 q2=>?_⟩
 obtain ⟨ds,n,rfl,rfl,hn1,hn2,hl,q⟩:=q2
 obtain ⟨l,xs,rfl,h1,a1⟩:=is_lst.mp (i1.mono s2)
 refine ⟨l,n,xs,rfl,is_int.mp i2,H2.sub _ _ h1,by omega,by omega,by rw [← a1.length]; exact Nat.le_trans hl (by decide),fun p hp=>?_⟩
 exact k _ p _ (H2.mine p _ (H2.sub.free hp)) ((s1.trans s2).trans (rW hp _)) ((s1.trans s2).h.free hp) zu (H2.sub.free hp) (a1.rep _) q
def WY (ta:DTE):DTE:=fun ρ Q=>ta ρ fun d=>∃ ds,ng d=some ds∧Q (.lst ds)
theorem uM (hg:Gl X "list") (hm:X.mg "list"=none) (ha:DE X a ta) (hs:starEach [a] X.env=(false,eval a X.env)::starEach [] X.env:=by rfl) (hpl:(backTo pos (starEach [] X.env)).any (·.1)=false:=by rfl):
  DF X (.Call (.Name "list" p0) [a] [] pos) (WY ta):=by
 obtain ⟨te,p1,l1⟩:=ha
 refine ⟨_,mw qe hg hm PyProof.Rows.boot_list (zE p1 yf hs) (by decide) (by decide) hs hpl,fun ρ σ H Q r h R k=>l1 ρ σ H _ r h _ fun d v H1 s1 i1 ⟨ds,e,q⟩=>?_⟩
 obtain ⟨a,xs,rfl,h1,h2⟩:=pT i1 e
 exact ⟨a,xs,rfl,h1,fun p hp=>k _ p _ (H1.mine p _ (H1.sub.free hp)) (s1.trans (rW hp _)) (s1.h.free hp) zu (H1.sub.free hp) h2 q⟩
variable {i:Nat} {x:Str}
def dq (i:Nat):DTE:=fun ρ Q=>∃ ds,ρ[i]? = some (.own ds)∧Q (.int ds.length)
theorem wM (i:Nat) (hg:Gl X "len") (hm:X.mg "len"=none) (hN:X.N[i]? = some x:=by rfl) (hv:Vis X.env.scope x:=by first | exact Or.inl rfl | exact Or.inr (Or.inl rfl) | exact Or.inr (Or.inr rfl)) (hd:(x == ("__debug__":Str))=false:=by decide)
  (hcd:(x == ("__classdict__":Str))=false:=by decide) (hs:starEach [.Name x p1] X.env=(false,eval (.Name x p1) X.env)::starEach [] X.env:=by rfl) (hpl:(backTo pos (starEach [] X.env)).any (·.1)=false:=by rfl):
  DE X (.Call (.Name "len" p0) [.Name x p1] [] pos) (dq i):=by
 refine ⟨_,yK xT hg hm PySem.boot_len (zE (z8 hN hv hd hcd) yf hs) (by decide) (by decide) hs hpl,fun ρ σ H Q r h R k=>?_⟩
 obtain ⟨ds,e,q⟩:=h
 obtain ⟨a,xs,e1,e2,e3,e4,e5⟩:=r.ow i ds e
 exact ⟨.ref a,e1,a,xs,rfl,.inl (.of e2),by rw [← e5.length]; exact k _ _ H (Le.refl H) (is_int.mpr rfl) q⟩
def YF (i:Nat) (tb:DTE):DTE:=fun ρ Q=>∃ ds,ρ[i]? = some (.own ds)∧tb ρ fun e=>∃ k d,e=.int k∧atI ds k=some d∧Q d
theorem oS (i:Nat) (hb:DE X b tb) (hs:vw b) (hN:X.N[i]? = some x:=by rfl) (hv:Vis X.env.scope x:=by first | exact Or.inl rfl | exact Or.inr (Or.inl rfl) | exact Or.inr (Or.inr rfl)) (hd:(x == ("__debug__":Str))=false:=by decide)
  (hcd:(x == ("__classdict__":Str))=false:=by decide):DE X (.Subscript (.Name x p1) b pos) (YF i tb):=by
 obtain ⟨tf,p2,l2⟩:=hb
 refine ⟨_,nn ix_list (z8 hN hv hd hcd) p2 hs,fun ρ σ H Q r h R k=>?_⟩
 obtain ⟨ds,e,h⟩:=h
 obtain ⟨a,xs,e1,e2,e3,e4,e5⟩:=r.ow i ds e
 refine ⟨.ref a,e1,l2 ρ σ H _ r h _ fun e u H2 s2 i2 ⟨n,d,en,ed,q⟩=>?_⟩
 subst en
 obtain ⟨v,ev,iv⟩:=e5.atI ed
 exact ⟨a,xs,n,v,rfl,is_int.mp i2,.of (s2.h _ _ e2),ev,k d v H2 s2 (iv.mono s2) q⟩
def dm (i:Nat):DTT:=fun ρ Q=>∃ ds,ρ[i]? = some (.own ds)∧Q (!ds.isEmpty)
theorem uj {G:Hp} {ds:List Dt} {xs:List V} (h:AllIs K G ds xs):(!xs.isEmpty)=!ds.isEmpty:=by
 cases ds with
 | nil=>rw [allIs_nil.mp h]; rfl
 | cons d ds=>obtain ⟨x,r,rfl,_⟩:=allIs_cons.mp h; rfl
theorem fR (i:Nat) (hN:X.N[i]? = some x:=by rfl) (hv:Vis X.env.scope x:=by first | exact Or.inl rfl | exact Or.inr (Or.inl rfl) | exact Or.inr (Or.inr rfl)) (hd:(x == ("__debug__":Str))=false:=by decide)
  (hcd:(x == ("__classdict__":Str))=false:=by decide) (he:∀ yA,isTrue (.Name x p1) X.env yA=(do let v ← yA; standAt (Expr.Name x p1).pos; holding [v] (truthy v)):=by intro _; rfl):DT X (.Name x p1) (dm i):=by
 refine ⟨_,qF (z8 hN hv hd hcd) he,fun ρ σ H Q r h R k=>?_⟩
 obtain ⟨ds,e,q⟩:=h
 obtain ⟨a,xs,e1,e2,e3,e4,e5⟩:=r.ow i ds e
 exact ⟨.ref a,e1,!ds.isEmpty,.inl ⟨xs,.of e2,(uj e5).symm⟩,k _ H (Le.refl H) q⟩
def Uc (ta:DTE):DTT:=fun ρ Q=>ta ρ fun d=>∃ ds,w4 d=some ds∧Q (!ds.isEmpty)
theorem Yq (ha:DE X a ta) (he:∀ yA,isTrue a X.env yA=(do let v ← yA; standAt a.pos; holding [v] (truthy v)):=by intro _; rfl):DT X a (Uc ta):=by
 obtain ⟨te,p1,l1⟩:=ha
 refine ⟨_,qF p1 he,fun ρ σ H Q r h R k=>l1 ρ σ H _ r h _ fun d v H1 s1 i1 ⟨ds,e,q⟩=>?_⟩
 obtain ⟨a,xs,rfl,h1,h2⟩:=nu i1 e
 exact ⟨!ds.isEmpty,.inl ⟨xs,h1,(uj h2).symm⟩,k _ H1 s1 q⟩
def fz:Sl→Sl
 | .own ds=>.some (.lst ds)
 | .arg _ ds=>.some (.lst ds)
 | s=>s
open Classical in
theorem Rl.bor {ρ:DS} {σ:St} (r:Rl K Z F W ρ σ):∃ W':Vw,W'.h=W.h∧Same W.g W'.g∧Rl K Z F W' (ρ.map fz) σ∧∀ a o,W'.g a=some o→W.g a=some o∨∃ xs,o=.lst xs:=by
 let ow:Addr→Prop:=fun a=>∃ (i:Nat) (ds:List Dt),(ρ[i]? = some (Sl.own ds)∧σ[i]? = some (some (V.ref a)))∨ρ[i]? = some (Sl.arg a ds)
 have own_at:∀ a,ow a→W.g a=none:=fun a ⟨i,ds,h⟩=>by
  rcases h with ⟨e,ea⟩ | e
  ·obtain ⟨b,xs,e1,_,e3,_⟩:=r.ow i ds e
   rw [ea] at e1
   cases e1
   exact e3
  ·exact (r.ar i a ds e).1.choose_spec.2.2.1
 let g:Hp:=fun a=>if ow a then W.h a else W.g a
 have gs:Same W.g g:=fun b o q=>by
  show (if ow b then W.h b else W.g b)=some o
  by_cases hb:ow b
  ·rw [own_at b hb] at q; cases q
  ·rw [if_neg hb]; exact q
 have sub:Same g W.h:=fun b o q=>by
  have q':(if ow b then W.h b else W.g b)=some o:=q
  by_cases hb:ow b
  ·rw [if_pos hb] at q'; exact q'
  ·rw [if_neg hb] at q'; exact W.sub _ _ q'
 have cls:∀ (i:Nat) (y:Sl),(ρ.map fz)[i]? = some y→(∃ d,ρ[i]? = some (.some d)∧y=.some d)∨(∃ ds,(ρ[i]? = some (.own ds)∨∃ a,ρ[i]? = some (.arg a ds))∧y=.some (.lst ds))∨y=.none:=fun i y e=>by
  rw [List.getElem?_map] at e
  cases q:ρ[i]? with
  | none=>rw [q] at e; cases e
  | some z=>
   rw [q] at e
   have e':=(Option.some.inj e).symm
   cases z with
   | none=>exact .inr (.inr e')
   | some d=>exact .inl ⟨d,rfl,e'⟩
   | own ds=>exact .inr (.inl ⟨ds,.inl rfl,e'⟩)
   | arg a ds=>exact .inr (.inl ⟨ds,.inr ⟨a,rfl⟩,e'⟩)
 have gl:∀ a o,g a=some o→W.g a=some o∨∃ xs,o=HO.lst xs:=fun a o q=>by
  have q':(if ow a then W.h a else W.g a)=some o:=q
  by_cases hb:ow a
  ·rw [if_pos hb] at q'
   obtain ⟨i,ds,h⟩:=hb
   rcases h with ⟨e,ea⟩ | e
   ·obtain ⟨b,xs,e1,e2,_⟩:=r.ow i ds e
    rw [ea] at e1
    cases e1
    rw [e2] at q'
    exact .inr ⟨xs,(Option.some.inj q').symm⟩
   ·obtain ⟨⟨xs,_,e2,_⟩,_,_⟩:=r.ar i a ds e
    rw [e2] at q'
    exact .inr ⟨xs,(Option.some.inj q').symm⟩
  ·rw [if_neg hb] at q'
   exact .inl q'
 refine ⟨⟨g,W.h,sub⟩,rfl,gs,⟨by rw [List.length_map]; exact r.len,fun i d e=>?_,fun i ds e=>?_,fun i j ds es _ e _=>?_,r.fr,r.z,fun i a ds e=>?_⟩,gl⟩
 ·rcases cls i _ e with ⟨d',q,e1⟩ | ⟨ds,q,e1⟩ | e1
  ·cases e1
   obtain ⟨v,h1,h2⟩:=r.at_ i d q
   exact ⟨v,h1,Is.mono0 gs h2⟩
  ·cases e1
   rcases q with q | ⟨b,q⟩
   ·obtain ⟨b,xs,e1,e2,e3,e4,e5⟩:=r.ow i ds q
    have hb:ow b:=⟨i,ds,.inl ⟨q,e1⟩⟩
    exact ⟨_,e1,is_lst.mpr ⟨b,xs,rfl,(if_pos hb).trans e2,AllIs.mono0 gs e5⟩⟩
   ·obtain ⟨⟨xs,e1,e2,e3,e4,e5⟩,_,_⟩:=r.ar i b ds q
    have hb:ow b:=⟨i,ds,.inr q⟩
    exact ⟨_,e1,is_lst.mpr ⟨b,xs,rfl,(if_pos hb).trans e2,AllIs.mono0 gs e5⟩⟩
  ·cases e1
 ·rcases cls i _ e with ⟨d',q,e1⟩ | ⟨ds,q,e1⟩ | e1 <;> cases e1
 ·rcases cls i _ e with ⟨d',q,e1⟩ | ⟨ds,q,e1⟩ | e1 <;> cases e1
 ·rcases cls i _ e with ⟨d',q,e1⟩ | ⟨ds,q,e1⟩ | e1 <;> cases e1
theorem vq {H W' H1:Vw} (e:W'.h=H.h) (s1:Le W' H1) (sg:Same H.g W'.g):∃ H2:Vw,H2.h=H1.h∧H2.g=H.g∧Le H H2:=
 ⟨⟨H.g,H1.h,(sg.trans s1.g).trans H1.sub⟩,rfl,rfl,Same.refl _,e ▸ s1.h,fun _ _ h=>h⟩
def Vd (t:DTT):DTT:=fun ρ Q=>t (ρ.map fz) Q
theorem Yr {t:DTT} (h:DT X e t):DT X e (Vd t):=by
 obtain ⟨te,p,l⟩:=h
 refine ⟨te,p,fun ρ σ H Q r hq R k=>?_⟩
 obtain ⟨W',e,sg,r',_⟩:=r.bor
 have:=l (ρ.map fz) σ W' Q r' hq R fun b H1 s1 q1=>by
  obtain ⟨H2,e2,_,s2⟩:=vq e s1 sg
  rw [← e2]
  exact k b H2 s2 q1
 rw [e] at this
 exact this
def uZ:Dt→Bool
 | .non=>true | .bl _=>true | .int _=>true | .str _=>true | _=>false
theorem nh {G G':Hp} {d:Dt} {v:V} (h:uZ d=true) (i:Is K G d v):Is K G' d v:=by
 cases d with
 | non=>exact is_non.mpr (is_non.mp i)
 | bl b=>exact is_bl.mpr (is_bl.mp i)
 | int b=>exact is_int.mpr (is_int.mp i)
 | str b=>exact is_str.mpr (is_str.mp i)
 | _=>cases h
end
abbrev DSp:=List Dt→(Dt→Prop)→Prop
def zq (K:PySem.W.Frag) (S:DSp):Sp:=fun vs H Q _=>∃ (W:Vw) (ds:List Dt) (Qd:Dt→Prop),W.h=H∧AllIs K W.g ds vs∧S ds Qd∧∀ d v W',Le W W'→Is K W'.g d v→Qd d→Q v W'.h
def xV (K:PySem.W.Frag) (S:DSp):Sp:=fun vs H Q _=>∃ (W:Vw) (ds:List Dt) (Qd:Dt→Prop),W.h=H∧AllIs K W.g ds vs∧S ds Qd∧
 ∀ es p xs W',Le W W'→W.h p=none→W'.h p=some (.lst xs)→W'.g p=none→AllIs K W'.g es xs→Qd (.lst es)→Q (.ref p) W'.h
structure DOk (P:Program) (w:World) (K:PySem.W.Frag) (mg:Str→Option Value) (base:Heap) (n:Nat) (x:Str) (S:DSp):Prop where
 ex:∃ f fd ps,mg x=some (.ref f)∧PySem.W.keepIn K (.ref f)=true∧Binds K fd ps []∧FnOk P w K mg base CX0 n f fd ps (zq K S)
structure FOk (P:Program) (w:World) (K:PySem.W.Frag) (mg:Str→Option Value) (base:Heap) (n:Nat) (x:Str) (S:DSp):Prop where
 ex:∃ f fd ps,mg x=some (.ref f)∧PySem.W.keepIn K (.ref f)=true∧Binds K fd ps []∧FnOk P w K mg base CX0 n f fd ps (xV K S)
structure MOk (P:Program) (w:World) (K:PySem.W.Frag) (mg:Str→Option Value) (base:Heap) (n:Nat) (C:Addr) (m:Str) (S:DSp):Prop where
 cl:Cls K C
 ex:∃ f fd ps,eJ K C m f∧Binds K fd ps []∧FnOk P w K mg base CX0 n f fd ps (zq K S)
structure FMOk (P:Program) (w:World) (K:PySem.W.Frag) (mg:Str→Option Value) (base:Heap) (n:Nat) (C:Addr) (m:Str) (S:DSp):Prop where
 cl:Cls K C
 ex:∃ f fd ps,eJ K C m f∧Binds K fd ps []∧FnOk P w K mg base CX0 n f fd ps (xV K S)
section
variable {X:Cx} {a b c e o:Expr} {ta tb tc:DTE} {pos p apos:Pos} {es:List Expr} {t:DTA} {n:Nat} {x m:Str} {S:DSp}
def jm (S:DSp) (t:DTA):DTE:=fun ρ Q=>t ρ fun ds=>S ds Q
theorem zl (G:DOk X.prog X.w X.K X.mg X.base n x S) (hr:Room n X.A) (hg:Gl X x) (ha:DA X (e::es) t) (hdb:(x == ("__debug__":Str))=false:=by decide)
  (he:starEach (e::es) X.env=(false,eval e X.env)::starEach es X.env:=by rfl) (hpl:(backTo pos (starEach es X.env)).any (·.1)=false:=by rfl):DE X (.Call (.Name x p) (e::es) [] pos) (jm S t):=by
 obtain ⟨f,fd,ps,hm,hk,hb,F⟩:=G.ex
 obtain ⟨te,p1,l1⟩:=ha
 refine ⟨_,xL F hr hg hm hk hb .nil tu p1 hdb he hpl,fun ρ σ H Q r h R k=>l1 ρ σ H _ r h _ fun ds vs H1 s1 i1 q1=>?_⟩
 rw [List.append_nil]
 exact ⟨H1,ds,Q,rfl,i1,q1,fun d v H2 s2 i2 q2=>k d v H2 (s1.trans s2) i2 q2⟩
theorem uN (G:FOk X.prog X.w X.K X.mg X.base n x S) (hr:Room n X.A) (hg:Gl X x) (ha:DA X (e::es) t) (hdb:(x == ("__debug__":Str))=false:=by decide)
  (he:starEach (e::es) X.env=(false,eval e X.env)::starEach es X.env:=by rfl) (hpl:(backTo pos (starEach es X.env)).any (·.1)=false:=by rfl):DF X (.Call (.Name x p) (e::es) [] pos) (jm S t):=by
 obtain ⟨f,fd,ps,hm,hk,hb,F⟩:=G.ex
 obtain ⟨te,p1,l1⟩:=ha
 refine ⟨_,xL F hr hg hm hk hb .nil tu p1 hdb he hpl,fun ρ σ H Q r h R k=>l1 ρ σ H _ r h _ fun ds vs H1 s1 i1 q1=>?_⟩
 rw [List.append_nil]
 exact ⟨H1,ds,Q,rfl,i1,q1,fun es p xs H2 s2 h0 h1 h2 i2 q2=>k es p xs H2 (s1.trans s2) (s1.h.free h0) h1 h2 i2 q2⟩
def lm (X:Cx) (n:Nat) (m:Str) (ta:TE) (t:TA):TE:=fun σ H Q=>ta σ H fun x H1=>∃ a dx fs C f fd ps sp,x=.ref a∧H1 a=some (.ins C dx fs)∧fs.lookup m=none∧Cls X.K C∧eJ X.K C m f∧Binds X.K fd ps []∧
 FnOk X.prog X.w X.K X.mg X.base CX0 n f fd ps sp∧t σ H1 fun vs H2=>sp (x::vs) H2 Q E0
theorem lM {pl:Sem Bool} {te:TE} {tt:TA} (he:PE X o te) (hr:Room n X.A) (ha:PA X (e::es) tt)
  (hst:starEach (e::es) X.env=(false,eval e X.env)::starEach es X.env:=by rfl) (hpl:(backTo pos (starEach es X.env)).any (·.1)=false:=by rfl)
  (ht:eval (.Call (.Attribute o m apos) (e::es) [] pos) X.env=(do
   let ov ← eval o X.env
   standAt apos.atName
   let (f,first) ← holding [ov] (getMethod ov m pl)
   callWith pos f first (backTo pos (starEach (e::es) X.env)) (backToKw pos (keywordEach [] X.env))):=by rfl):
  PE X (.Call (.Attribute o m apos) (e::es) [] pos) (lm X n m te tt):=by
 intro pins s σ H Q I h
 refine PySem.W.methodCall_KW (pl:=pl) (thn (he pins s σ H _ I h) fun u s1 ⟨x,H1,I1,rx,a,dx,fs,C,f,fd,ps,sp,ex,ea,l,c,hm,hb,F,q⟩=>?_) ht
 subst ex
 obtain rfl:u=Value.ref a:=rx
 refine tM I1 ea c hm l ?_
 refine PySem.W.callWith_K (first:=[.ref a]) (h₀:=X.base) I.ok.mod.kin hm.kp (thn (ha pos pins s1 σ H1 _ I1 q) fun us s2 ⟨vs,H2,I2,r,q2⟩=>⟨I2.kIn,?_⟩) hst hpl
 exact p7 (us:=.ref a::us) (vs:=.ref a::vs) (dvs:=[]) (E:=E0) F hr hb .nil tu I2 (.cons rfl r) (by rw [List.append_nil]; exact q2)
theorem mv {pl:Sem Bool} {te:TE} (he:PE X o te) (hr:Room n X.A)
  (ht:eval (.Call (.Attribute o m apos) [] [] pos) X.env=(do
   let ov ← eval o X.env
   standAt apos.atName
   let (f,first) ← holding [ov] (getMethod ov m pl)
   callWith pos f first (backTo pos (starEach [] X.env)) (backToKw pos (keywordEach [] X.env))):=by rfl):
  PE X (.Call (.Attribute o m apos) [] [] pos) (lm X n m te YY):=by
 intro pins s σ H Q I h
 refine PySem.W.methodCall_KW (pl:=pl) (thn (he pins s σ H _ I h) fun u s1 ⟨x,H1,I1,rx,a,dx,fs,C,f,fd,ps,sp,ex,ea,l,c,hm,hb,F,q⟩=>?_) ht
 subst ex
 obtain rfl:u=Value.ref a:=rx
 refine tM I1 ea c hm l ?_
 exact PySem.W.callWith_K0 (first:=[.ref a]) I1.kIn hm.kp (p7 (us:=[.ref a]) (vs:=[.ref a]) (dvs:=[]) (E:=E0) F hr hb .nil tu I1 (.cons rfl .nil) q)
def WV (X:Cx) (n:Nat) (m:Str) (ta:DTE) (t:DTA):DTE:=fun ρ Q=>ta ρ fun d=>∃ C f k S,d=.way C f k∧(m == f)=false∧MOk X.prog X.w X.K X.mg X.base n C m S∧t ρ fun ds=>S (d::ds) Q
theorem xg {pl:Sem Bool} (hr:Room n X.A) (he:DE X o ta) (ha:DA X (e::es) t)
  (hst:starEach (e::es) X.env=(false,eval e X.env)::starEach es X.env:=by rfl) (hpl:(backTo pos (starEach es X.env)).any (·.1)=false:=by rfl)
  (ht:eval (.Call (.Attribute o m apos) (e::es) [] pos) X.env=(do
   let ov ← eval o X.env
   standAt apos.atName
   let (f,first) ← holding [ov] (getMethod ov m pl)
   callWith pos f first (backTo pos (starEach (e::es) X.env)) (backToKw pos (keywordEach [] X.env))):=by rfl):
  DE X (.Call (.Attribute o m apos) (e::es) [] pos) (WV X n m ta t):=by
 obtain ⟨te,p0,l0⟩:=he
 obtain ⟨tt,p1,l1⟩:=ha
 refine ⟨_,lM (pl:=pl) p0 hr p1 hst hpl ht,fun ρ σ H Q r h R k=>l0 ρ σ H _ r h _ fun d v H1 s1 i1 ⟨C,f,z,S,ed,hne,M,q1⟩=>?_⟩
 subst ed
 obtain ⟨a,dx,rfl,ha⟩:=is_way.mp i1
 obtain ⟨g,fd,ps,hm,hb,F⟩:=M.ex
 refine ⟨a,dx,_,C,g,fd,ps,_,rfl,H1.sub _ _ ha,by simp [List.lookup,hne],M.cl,hm,hb,F,l1 ρ σ H1 _ (r.mono s1) q1 _ fun ds vs H2 s2 i2 q2=>?_⟩
 exact ⟨H2,_,Q,rfl,allIs_cons.mpr ⟨_,_,rfl,i1.mono s2,i2⟩,q2,fun d v H3 s3 i3 q3=>k d v H3 ((s1.trans s2).trans s3) i3 q3⟩
def YE (X:Cx) (n:Nat) (m:Str) (ta:DTE):DTE:=fun ρ Q=>ta ρ fun d=>∃ C f k S,d=.way C f k∧(m == f)=false∧MOk X.prog X.w X.K X.mg X.base n C m S∧S [d] Q
theorem pj {pl:Sem Bool} (hr:Room n X.A) (he:DE X o ta)
  (ht:eval (.Call (.Attribute o m apos) [] [] pos) X.env=(do
   let ov ← eval o X.env
   standAt apos.atName
   let (f,first) ← holding [ov] (getMethod ov m pl)
   callWith pos f first (backTo pos (starEach [] X.env)) (backToKw pos (keywordEach [] X.env))):=by rfl):
  DE X (.Call (.Attribute o m apos) [] [] pos) (YE X n m ta):=by
 obtain ⟨te,p0,l0⟩:=he
 refine ⟨_,mv (pl:=pl) p0 hr ht,fun ρ σ H Q r h R k=>l0 ρ σ H _ r h _ fun d v H1 s1 i1 ⟨C,f,z,S,ed,hne,M,q1⟩=>?_⟩
 subst ed
 obtain ⟨a,dx,rfl,ha⟩:=is_way.mp i1
 obtain ⟨g,fd,ps,hm,hb,F⟩:=M.ex
 refine ⟨a,dx,_,C,g,fd,ps,_,rfl,H1.sub _ _ ha,by simp [List.lookup,hne],M.cl,hm,hb,F,?_⟩
 exact ⟨H1,_,Q,rfl,allIs_cons.mpr ⟨_,_,rfl,i1,allIs_nil.mpr rfl⟩,q1,fun d v H3 s3 i3 q3=>k d v H3 (s1.trans s3) i3 q3⟩
def Uu (K:PySem.W.Frag) (f:Str) (ta:DTE):DTE:=fun ρ Q=>ta ρ fun d=>∃ C g k,d=.way C g k∧(f == g)=true∧Cls K C∧NoAttr K C f∧Q (.int k)
theorem zG {f:Str} (ha:DE X a ta) (hb:attributeBase a f X.env (eval a X.env)=eval a X.env:=by rfl):DE X (.Attribute a f pos) (Uu X.K f ta):=by
 obtain ⟨te,p1,l1⟩:=ha
 refine ⟨_,cf p1 hb,fun ρ σ H Q r h R k=>l1 ρ σ H _ r h _ fun d v H1 s1 i1 ⟨C,g,z,ed,hfg,hc,hn,q1⟩=>?_⟩
 subst ed
 obtain ⟨p,dx,rfl,hp⟩:=is_way.mp i1
 exact ⟨p,C,dx,_,.int z,rfl,H1.sub _ _ hp,hc,hn,by simp [List.lookup,hfg],k _ _ H1 s1 (is_int.mpr rfl) q1⟩
def xb (C:Addr) (f:Str) (ok:Int→Prop):Sp:=fun vs H Q _=>∃ p dx i,vs=[.ref p,.int i]∧H p=some (.ins C dx [])∧ok i∧∀ H':Hp,H' p=some (.ins C dx [(f,.int i)])→(∀ b o,H b=some o→b≠p→H' b=some o)→Q .non H'
structure KOk (P:Program) (w:World) (K:PySem.W.Frag) (mg:Str→Option Value) (base:Heap) (n:Nat) (x:Str) (C:Addr) (f:Str) (ok:Int→Prop):Prop where
 ex:∃ g fd ps,mg x=some (.ref C)∧Mk K C g∧Binds K fd ps []∧FnOk P w K mg base CX0 n g fd ps (xb C f ok)
def WW (C:Addr) (f:Str) (ok:Int→Prop) (t:DTA):DTE:=fun ρ Q=>t ρ fun ds=>∃ i,ds=[.int i]∧ok i∧Q (.way C f i)
theorem wL {C:Addr} {f:Str} {ok:Int→Prop} (G:KOk X.prog X.w X.K X.mg X.base n x C f ok) (hr:Room (n+1) X.A) (hg:Gl X x) (ha:DA X (e::es) t) (hdb:(x == ("__debug__":Str))=false:=by decide)
  (he:starEach (e::es) X.env=(false,eval e X.env)::starEach es X.env:=by rfl) (hpl:(backTo pos (starEach es X.env)).any (·.1)=false:=by rfl):DE X (.Call (.Name x p) (e::es) [] pos) (WW C f ok t):=by
 obtain ⟨g,fd,ps,hm,M,hb,F⟩:=G.ex
 obtain ⟨te,p1,l1⟩:=ha
 refine ⟨_,j7 M F hr hg hm hb .nil tu p1 hdb he hpl,fun ρ σ H Q r h R k=>l1 ρ σ H _ r h _ fun ds vs H1 s1 i1 ⟨i,ed,hok,q1⟩ y dy ny ndy ne=>?_⟩
 subst ed
 obtain ⟨v,rfl,hv⟩:=i1.one
 obtain rfl:=is_int.mp hv
 refine ⟨y,dy,i,rfl,zu,hok,fun H' e1 e2=>⟨rfl,?_⟩⟩
 have keep:Same H1.h H':=fun b o hb=>e2 b o (by rw [zw (zS hb ny),zw (zS hb ndy)]; exact hb) (zS hb ny)
 have gy:H1.g y=none:=H1.sub.free ny
 exact k _ _ ⟨upd H1.g y (.ins C dy [(f,.int i)]),H',fun b u q=>by
   by_cases e:b=y
   ·subst e; rw [zu] at q; rw [e1]; exact q
   ·rw [zw e] at q; exact keep _ _ (H1.sub _ _ q)⟩
  (s1.trans ⟨zI gy _,keep,fun a z1 z2=>by
   have:a≠y:=fun e=>z1 (e ▸ ny)
   show upd H1.g y _ a=none
   rw [zw this]; exact z2⟩) (is_way.mpr ⟨y,dy,rfl,zu⟩) q1
structure eK (K:PySem.W.Frag):Prop where
 ib:PySem.W.kitOne K (.type "int") (.type "bool")=some false
 it:PySem.W.kitOne K (.type "int") (.type "tuple")=some false
 il:PySem.W.kitOne K (.type "int") (.type "list")=some false
 bi:PySem.W.kitOne K (.type "bool") (.type "int")=some true
 bt:PySem.W.kitOne K (.type "bool") (.type "tuple")=some false
 bl:PySem.W.kitOne K (.type "bool") (.type "list")=some false
 ti:PySem.W.kitOne K (.type "tuple") (.type "int")=some false
 tb:PySem.W.kitOne K (.type "tuple") (.type "bool")=some false
 tl:PySem.W.kitOne K (.type "tuple") (.type "list")=some false
 li:PySem.W.kitOne K (.type "list") (.type "int")=some false
 lb:PySem.W.kitOne K (.type "list") (.type "bool")=some false
 lt:PySem.W.kitOne K (.type "list") (.type "tuple")=some false
theorem vh {K:PySem.W.Frag} {t:Value}:PySem.W.kitOne K t t=some true:=by
 unfold PySem.W.kitOne
 rw [if_pos (beq_self_eq_true t)]
theorem Yc {K:PySem.W.Frag} {t c:String} {b:Bool} (h1:(Value.type t == Value.type c)=false) (h2:PySem.W.kitMeta c=true) (h3:(fastBuiltinMro t).map (·.contains (Value.type c))=some b):PySem.W.kitOne K (.type t) (.type c)=some b:=by
 unfold PySem.W.kitOne PySem.W.kitCls
 rw [if_neg (by rw [h1]; decide)]
 show (if PySem.W.kitMeta c=true then PySem.W.subIn K (.type t) (.type c) else none)=some b
 rw [if_pos h2]
 exact h3
theorem VZ (K:PySem.W.Frag):eK K:=by
 constructor <;> exact Yc (by decide +kernel) (by decide +kernel) (by decide +kernel)
inductive TyN where | int | bool | tuple | list
def TyN.str:TyN→String
 | .int=>"int" | .bool=>"bool" | .tuple=>"tuple" | .list=>"list"
def Wz:Dt→TyN→Option Bool
 | .int _,.int=>some true | .int _,.bool=>some false | .int _,.tuple=>some false | .int _,.list=>some false
 | .bl _,.int=>some true | .bl _,.bool=>some true | .bl _,.tuple=>some false | .bl _,.list=>some false
 | .tup _,.int=>some false | .tup _,.bool=>some false | .tup _,.tuple=>some true | .tup _,.list=>some false
 | .lst _,.int=>some false | .lst _,.bool=>some false | .lst _,.tuple=>some false | .lst _,.list=>some true
 | _,_=>none
theorem Yk {H:Vw} {d:Dt} {v:V} {T:TyN} {b:Bool} (kt:eK K) (h:Is K H.g d v) (e:Wz d T=some b):∃ tv,vb K H.h v tv∧PySem.W.kitOne K tv (.type T.str)=some b:=by
 cases d with
 | int i=>
  obtain rfl:=is_int.mp h
  refine ⟨_,.int i,?_⟩
  cases T <;> (obtain rfl:=Option.some.inj e; first | exact vh | exact kt.ib | exact kt.it | exact kt.il)
 | bl i=>
  obtain rfl:=is_bl.mp h
  refine ⟨_,.bl i,?_⟩
  cases T <;> (obtain rfl:=Option.some.inj e; first | exact vh | exact kt.bi | exact kt.bt | exact kt.bl)
 | tup ds=>
  obtain ⟨a,xs,rfl,h1,_⟩:=is_tup.mp h
  refine ⟨_,.tup (H.sub _ _ h1),?_⟩
  cases T <;> (obtain rfl:=Option.some.inj e; first | exact vh | exact kt.ti | exact kt.tb | exact kt.tl)
 | lst ds=>
  obtain ⟨a,xs,rfl,h1,_⟩:=is_lst.mp h
  refine ⟨_,.lst (H.sub _ _ h1),?_⟩
  cases T <;> (obtain rfl:=Option.some.inj e; first | exact vh | exact kt.li | exact kt.lb | exact kt.lt)
 | _=>cases T <;> cases e
theorem jr:CallR X (.builtin "isinstance") (fun xs H Q=>∃ v T tv b,xs=[v,.ty T]∧vb X.K H v tv∧PySem.W.kitOne X.K tv (.type T)=some b∧Q (.bl b) H):=by
 intro pins s σ H xs us Q I r h
 obtain ⟨v,T,tv,b,rfl,hty,hk,q⟩:=h
 cases r with
 | cons r1 r2=>
  cases r2 with
  | cons r3 r4=>
   cases r4
   cases r3
   exact sR I r1 hty hk fun tk=>⟨.bl b,H,I.tok _,rfl,q⟩
def Uq (T:TyN) (ta:DTE):DTE:=fun ρ Q=>ta ρ fun d=>∃ b,Wz d T=some b∧Q (.bl b)
theorem xS {T:TyN} {y:Str} {p':Pos} (kt:eK X.K) (hm:X.mg "isinstance"=none) (hmc:X.mg y=none) (hv:bootBuiltins y=some (.type T.str)) (ha:DE X a ta)
  (hg:Gl X "isinstance":=by rfl) (hgc:Gl X y:=by rfl) (hny:y≠"__name__":=by decide) (hdy:(y == ("__debug__":Str))=false:=by decide)
  (hs:starEach [a,.Name y p'] X.env=(false,eval a X.env)::starEach [.Name y p'] X.env:=by rfl) (hs2:starEach [.Name y p'] X.env=(false,eval (.Name y p') X.env)::starEach [] X.env:=by rfl)
  (hpl:(backTo pos (starEach [.Name y p'] X.env)).any (·.1)=false:=by rfl):
  DE X (.Call (.Name "isinstance" p) [a,.Name y p'] [] pos) (Uq T ta):=by
 obtain ⟨te,p1,l1⟩:=ha
 have pc:PE X (.Name y p') (tC (.ty T.str)):=ii hgc hmc hv rfl hny hdy
 refine ⟨_,yK jr hg hm boot_isinstance (zE p1 (zE pc yf hs2) hs) (by decide) (by decide) hs hpl,fun ρ σ H Q r h R k=>l1 ρ σ H _ r h _ fun d v H1 s1 i1 ⟨b,e,q⟩=>?_⟩
 obtain ⟨tv,h1,h2⟩:=Yk kt i1 e
 exact ⟨v,T.str,tv,b,rfl,h1,h2,k _ _ H1 s1 (is_bl.mpr rfl) q⟩
end
structure DEnds where
 nx:DS→Prop
 rt:Dt→Prop
 bk:DS→Prop:=fun _=>False
 ct:DS→Prop:=fun _=>False
abbrev DTS:=DEnds→DS→Prop
structure At (K:PySem.W.Frag) (Z:Hp) (W0:Vw) (G:Hp) (W:Vw) (ρ:DS) (σ:St):Prop where
 le:Le W0 W
 gs:Same G W.g
 rl:Rl K Z W0.h W ρ σ
inductive Fr where | d | l | t (a b:Bool)
def NewL (K:PySem.W.Frag) (F:Hp) (W:Vw) (d:Dt) (v:V):Prop:=∃ es p xs,d=.lst es∧v=.ref p∧F p=none∧W.h p=some (.lst xs)∧W.g p=none∧AllIs K W.g es xs
def Prt (K:PySem.W.Frag) (F:Hp) (W:Vw) (b:Bool) (d:Dt) (v:V):Prop:=match b with
 | false=>Is K W.g d v
 | true=>NewL K F W d v∨uZ d=true∧Is K W.g d v
def Tld (K:PySem.W.Frag) (F:Hp) (W:Vw):Fr→Dt→V→Prop
 | .d,d,v=>Is K W.g d v
 | .l,d,v=>NewL K F W d v
 | .t a b,d,v=>∃ d1 d2 q u1 u2,d=.tup [d1,d2]∧v=.ref q∧W.g q=some (.tup [u1,u2])∧Prt K F W a d1 u1∧Prt K F W b d2 u2∧(∀ es fs,a=true→b=true→d1=.lst es→d2=.lst fs→u1≠u2)
structure Sim (K:PySem.W.Frag) (Z:Hp) (fr:Fr) (W0:Vw) (G:Hp) (D:DEnds) (D':Ends):Prop where
 nx:∀ ρ σ W',At K Z W0 G W' ρ σ→D.nx ρ→D'.nx σ W'.h
 tl:∀ d v W',Le W0 W'→Tld K W0.h W' fr d v→D.rt d→D'.rt v W'.h
 bk:∀ ρ σ W',At K Z W0 G W' ρ σ→D.bk ρ→D'.bk σ W'.h
 ct:∀ ρ σ W',At K Z W0 G W' ρ σ→D.ct ρ→D'.ct σ W'.h
theorem NewL.le {F G:Hp} {W:Vw} {d:Dt} {v:V} (h:NewL K F W d v) (z:∀ p,F p=none→G p=none):NewL K G W d v:=
 let ⟨es,p,xs,h1,h2,h3,h4⟩:=h; ⟨es,p,xs,h1,h2,z p h3,h4⟩
theorem Sim.rf {Z:Hp} {fr:Fr} {W0:Vw} {G:Hp} {D:DEnds} {D':Ends} (s:Sim K Z fr W0 G D D') (hf:fr=.d∨fr=.l) (es:List Dt) (p:Addr) (xs:List V) (W':Vw) (le:Le W0 W') (h0:W0.h p=none) (h1:W'.h p=some (.lst xs)) (h2:W'.g p=none) (h3:AllIs K W'.g es xs) (q:D.rt (.lst es)):D'.rt (.ref p) W'.h:=by
 rcases hf with rfl | rfl
 ·exact s.tl (.lst es) (.ref p) (W'.frz p _ h1) (vV le h0 h1 h2) (is_lst.mpr ⟨p,xs,rfl,zu,AllIs.mono0 (zI h2 _) h3⟩) q
 ·exact s.tl (.lst es) (.ref p) W' le ⟨es,p,xs,rfl,rfl,h0,h1,h2,h3⟩ q
section
variable {W0:Vw} {G G':Hp} {ρ:DS} {σ:St} {fr:Fr}
theorem At.step (a:At K Z W0 G W ρ σ) (s:Le W W'):At K Z W0 G W' ρ σ:=⟨a.le.trans s,a.gs.trans s.g,a.rl.mono s⟩
theorem At.set (a:At K Z W0 G W ρ σ) {d:Dt} {v:V} (i:Nat) (h:Is K W.g d v):At K Z W0 G W (ρ.set i (.some d)) (σ.set i (some v)):=⟨a.le,a.gs,a.rl.set i h⟩
theorem At.weak (a:At K Z W0 G W ρ σ) (s:Same G' G):At K Z W0 G' W ρ σ:=⟨a.le,s.trans a.gs,a.rl⟩
theorem At.own (a:At K Z W0 G W ρ σ) (s:Le W W') {p:Addr} {xs:List V} {ds:List Dt} (i:Nat) (h0:W.h p=none) (h1:W'.h p=some (.lst xs)) (h2:W'.g p=none) (h3:AllIs K W'.g ds xs):
  At K Z W0 G W' (ρ.set i (.own ds)) (σ.set i (some (.ref p))):=⟨a.le.trans s,a.gs.trans s.g,a.rl.own s i h0 h1 h2 h3⟩
theorem At.put (at_:At K Z W0 G W ρ σ) {i:Nat} {ds es:List Dt} {a:Addr} {ys:List V} (hi:ρ[i]? = some (.own ds)) (ha:σ[i]? = some (some (.ref a))) (hg:W.g a=none) (hF:W0.h a=none) (h3:AllIs K W.g es ys):
  At K Z W0 G (W.mine a (.lst ys) hg) (ρ.set i (.own es)) σ:=
 ⟨⟨at_.le.g,fun b o q=>by
   have:b≠a:=fun e=>by rw [e,hF] at q; cases q
   show upd W.h a _ b=some o
   rw [zw this]; exact at_.le.h _ _ q,at_.le.n⟩,at_.gs,at_.rl.put hi ha hg hF h3⟩
theorem At.frz (at_:At K Z W0 G W ρ σ) {i:Nat} {ds:List Dt} {a:Addr} {xs:List V} (hi:ρ[i]? = some (.own ds)) (ha:σ[i]? = some (some (.ref a))) (hh:W.h a=some (.lst xs)) (hg:W.g a=none) (hF:W0.h a=none) (h3:AllIs K W.g ds xs):
  At K Z W0 G (W.frz a _ hh) (ρ.set i (.some (.lst ds))) σ:=
 ⟨vV at_.le hF hh hg,at_.gs.trans (zI hg _),at_.rl.frz hi ha hh hg h3⟩
theorem Sim.weak {D:DEnds} {D':Ends} (h:Sim K Z fr W0 G' D D') (s:Same G' G):Sim K Z fr W0 G D D':=
 ⟨fun ρ σ W' a=>h.nx ρ σ W' (a.weak s),h.tl,fun ρ σ W' a=>h.bk ρ σ W' (a.weak s),fun ρ σ W' a=>h.ct ρ σ W' (a.weak s)⟩
end
def LiS (K:PySem.W.Frag) (Z:Hp) (fr:Fr) (ts:TS) (t:DTS):Prop:=∀ (W0:Vw) (G:Hp) (ρ:DS) (σ:St) (W:Vw) (D:DEnds) (D':Ends),At K Z W0 G W ρ σ→Sim K Z fr W0 G D D'→t D ρ→ts D' σ W.h
def DSt (X:Cx) (fr:Fr) (st:Stmt) (t:DTS):Prop:=∃ ts,PS X st ts∧LiS X.K (Zx X) fr ts t
def DSs (X:Cx) (fr:Fr) (sts:List Stmt) (t:DTS):Prop:=∃ ts,PSs X sts ts∧LiS X.K (Zx X) fr ts t
def WU:DTS:=fun D ρ=>D.nx ρ
def Uf (t u:DTS):DTS:=fun D ρ=>t { D with nx:=u D } ρ
def WR (te:DTE):DTS:=fun D ρ=>te ρ D.rt
def WQ (i:Nat):DTS:=fun D ρ=>∃ ds,ρ[i]? = some (.own ds)∧D.rt (.lst ds)
def Ue (i:Nat) (te:DTE):DTS:=fun D ρ=>te ρ fun d=>D.nx (ρ.set i (.some d))
def WN (i:Nat) (te:DTE):DTS:=fun D ρ=>te ρ fun d=>∃ ds,d=.lst ds∧D.nx (ρ.set i (.own ds))
def Ur (c:DTT) (t u:DTS):DTS:=fun D ρ=>c ρ fun b=>if b=true then t D ρ else u D ρ
def Vb (te:DTE):DTS:=fun D ρ=>te ρ fun _=>D.nx ρ
def YC:DTS:=fun _ _=>False
def Ua (i j:Nat) (te:DTE):DTS:=fun D ρ=>te ρ fun d=>∃ a b,d=.tup [a,b]∧D.nx ((ρ.set i (.some a)).set j (.some b))
def W8 (j:Nat) (te:DTE) (tb:DTS):DTS:=fun D ρ=>te ρ fun d=>∃ (ds:List Dt) (Pv:Nat→DS→Prop),w4 d=some ds∧Pv 0 ρ∧
 (∀ i e ρ',ds[i]? = some e→Pv i ρ'→tb { D with nx:=Pv (i+1),ct:=Pv (i+1),bk:=D.nx } (ρ'.set j (.some e)))∧∀ ρ',Pv ds.length ρ'→D.nx ρ'
def W7 (j:Nat) (te:DTE) (tb:DTS):DTS:=fun D ρ=>te ρ fun d=>∃ (n:Int) (Pv:Nat→DS→Prop),d=.int n∧-(2 ^ 62)≤n∧n<2 ^ 62∧Pv 0 ρ∧
 (∀ (i:Nat) ρ',i<n.toNat→Pv i ρ'→tb { D with nx:=Pv (i+1),ct:=Pv (i+1),bk:=D.nx } (ρ'.set j (.some (.int i))))∧∀ ρ',Pv n.toNat ρ'→D.nx ρ'
def YG (j:Nat) (ta:DTA) (tb:DTS):DTS:=fun D ρ=>ta ρ fun ds=>∃ (m n:Int) (Pv:Nat→DS→Prop),ds=[.int m,.int n]∧-(2 ^ 62)≤m∧m<2 ^ 62∧-(2 ^ 62)≤n∧n<2 ^ 62∧Pv 0 ρ∧
 (∀ (i:Nat) ρ',i<(n - m).toNat→Pv i ρ'→tb { D with nx:=Pv (i+1),ct:=Pv (i+1),bk:=D.nx } (ρ'.set j (.some (.int (m+i)))))∧∀ ρ',Pv (n - m).toNat ρ'→D.nx ρ'
def oT (c:DTT) (tb:DTS):DTS:=fun D ρ=>∃ Pv:Nat→DS→Prop,(∃ m,Pv m ρ)∧∀ m ρ',Pv m ρ'→
 c ρ' fun b=>if b=true then tb { D with nx:=fun ρ2=>∃ m',m'<m∧Pv m' ρ2,ct:=fun ρ2=>∃ m',m'<m∧Pv m' ρ2,bk:=D.nx } ρ' else D.nx ρ'
section
variable {X:Cx} {fr:Fr} {st:Stmt} {zX:List Stmt} {t u:DTS} {e:Expr} {te:DTE} {pos p0 p1 p2:Pos}
theorem zn:DSs X fr [] WU:=⟨_,nk,fun W0 G ρ σ W D D' a s h=>s.nx ρ σ W a h⟩
theorem zd (h1:DSt X fr st t) (h2:DSs X fr zX u):DSs X fr (st::zX) (Uf t u):=by
 obtain ⟨ts,p1,l1⟩:=h1
 obtain ⟨us,p2,l2⟩:=h2
 exact ⟨_,xt p1 p2,fun W0 G ρ σ W D D' a s h=>l1 W0 G ρ σ W { D with nx:=u D } { D' with nx:=us D' } a ⟨fun ρ' σ' W' a' q=>l2 W0 G ρ' σ' W' D D' a' s q,s.tl,s.bk,s.ct⟩ h⟩
theorem ze (h:DSt X fr st t):DSs X fr [st] t:=let ⟨_,p,l⟩:=h; ⟨_,xK p,l⟩
def Ut (i:Nat) (t:DTS):DTS:=fun D ρ=>∃ ds,ρ[i]? = some (.own ds)∧t D (ρ.set i (.some (.lst ds)))
theorem vp (i:Nat) (h:DSs X fr zX t):DSs X fr zX (Ut i t):=by
 obtain ⟨ts,p,l⟩:=h
 refine ⟨ts,p,fun W0 G ρ σ W D D' a s h=>?_⟩
 obtain ⟨ds,e,q⟩:=h
 obtain ⟨b,xs,e1,e2,e3,e4,e5⟩:=a.rl.ow i ds e
 exact l W0 G _ σ (W.frz b _ e2) D D' (a.frz e e1 e2 e3 e4 e5) s q
theorem zj (h:DE X e te):DSt X .d (.Return (some e) pos) (WR te):=by
 obtain ⟨tt,p,l⟩:=h
 exact ⟨_,tj p,fun W0 G ρ σ W D D' a s h=>l ρ σ W _ a.rl h _ fun d v W1 s1 i1 q1=>s.tl d v W1 (a.le.trans s1) i1 q1⟩
theorem uK (h:DF X e te) (hf:fr=.d∨fr=.l:=by first | exact .inl rfl | exact .inr rfl):DSt X fr (.Return (some e) pos) (WR te):=by
 obtain ⟨tt,p,l⟩:=h
 exact ⟨_,tj p,fun W0 G ρ σ W D D' a s h=>l ρ σ W _ a.rl h _ fun es q xs W1 s1 h0 h1 h2 i1 q1=>s.rf hf es q xs W1 (a.le.trans s1) (a.le.h.free h0) h1 h2 i1 q1⟩
theorem uJ (i:Nat) {x:Str} (hN:X.N[i]? = some x:=by rfl) (hv:Vis X.env.scope x:=by first | exact Or.inl rfl | exact Or.inr (Or.inl rfl) | exact Or.inr (Or.inr rfl)) (hd:(x == ("__debug__":Str))=false:=by decide)
  (hcd:(x == ("__classdict__":Str))=false:=by decide) (hf:fr=.d∨fr=.l:=by first | exact .inl rfl | exact .inr rfl):DSt X fr (.Return (some (.Name x p0)) pos) (WQ i):=by
 refine ⟨_,tj (z8 hN hv hd hcd),fun W0 G ρ σ W D D' a s h=>?_⟩
 obtain ⟨ds,e,q⟩:=h
 obtain ⟨b,xs,e1,e2,e3,e4,e5⟩:=a.rl.ow i ds e
 exact ⟨.ref b,e1,s.rf hf ds b xs W a.le e4 e2 e3 e5 q⟩
theorem nH (h:DE X e te) (hs:swapsWith e none pos.line X.env=pure false:=by rfl):DSt X fr (.Expr e pos) (Vb te):=by
 obtain ⟨tt,p,l⟩:=h
 exact ⟨_,xf p hs,fun W0 G ρ σ W D D' a s h=>l ρ σ W _ a.rl h _ fun d v W1 s1 i1 q1=>s.nx ρ σ W1 (a.step s1) q1⟩
theorem zp {i:Nat} {x:Str} {pos':Pos} (hN:X.N.Nodup) (hi:X.N[i]? = some x) (hx:Loc X.env.scope x) (h:DE X e te) (hs:swapsWith e (some (.Name x pos')) pos.line X.env=pure false:=by rfl) (hf:X.fn x=true∨X.env.scope.names.lookup x=some .local:=by first | exact .inl rfl | exact .inr rfl | assumption):
  DSt X fr (.Assign [.Name x pos'] e pos) (Ue i te):=by
 obtain ⟨tt,p,l⟩:=h
 exact ⟨_,rC hN hi hx p hs hf,fun W0 G ρ σ W D D' a s h=>l ρ σ W _ a.rl h _ fun d v W1 s1 i1 q1=>s.nx _ _ W1 ((a.step s1).set i i1) q1⟩
theorem yT {i:Nat} {x:Str} {pos':Pos} (hN:X.N.Nodup) (hi:X.N[i]? = some x) (hx:Loc X.env.scope x) (h:DF X e te) (hs:swapsWith e (some (.Name x pos')) pos.line X.env=pure false:=by rfl) (hf:X.fn x=true∨X.env.scope.names.lookup x=some .local:=by first | exact .inl rfl | exact .inr rfl | assumption):
  DSt X fr (.Assign [.Name x pos'] e pos) (WN i te):=by
 obtain ⟨tt,p,l⟩:=h
 refine ⟨_,rC hN hi hx p hs hf,fun W0 G ρ σ W D D' a s h=>l ρ σ W _ a.rl h _ fun es q xs W1 s1 h0 h1 h2 i1 ⟨ds,ed,q1⟩=>?_⟩
 cases ed
 exact s.nx _ _ W1 (a.own s1 i h0 h1 h2 i1) q1
theorem zx {c:Expr} {a b:List Stmt} {tc:DTT} (hc:DT X c tc) (ha:DSs X fr a t) (hb:DSs X fr b u):DSt X fr (.If c a b pos) (Ur tc t u):=by
 obtain ⟨t0,p0,l0⟩:=hc
 obtain ⟨t1,p1,l1⟩:=ha
 obtain ⟨t2,p2,l2⟩:=hb
 refine ⟨_,eU p0 p1 p2,fun W0 G ρ σ W D D' a s h=>l0 ρ σ W _ a.rl h _ fun k W1 s1 q1=>?_⟩
 cases k with
 | true=>exact l1 W0 G ρ σ W1 D D' (a.step s1) s q1
 | false=>exact l2 W0 G ρ σ W1 D D' (a.step s1) s q1
theorem y7:DSt X fr st YC:=⟨_,lI,fun _ _ _ _ _ _ _ _ _ h=>h.elim⟩
theorem oR {i j:Nat} {x y:Str} {px py pt:Pos} {kt:Nat} (hc:X.calm=true) (hN:X.N.Nodup) (hi:X.N[i]? = some x) (hj:X.N[j]? = some y) (hx:Loc X.env.scope x) (hy:Loc X.env.scope y) (h:DE X e te)
  (hf:X.fn x=true∨X.env.scope.names.lookup x=some .local:=by first | exact .inl rfl | exact .inr rfl | assumption) (hf2:X.fn y=true∨X.env.scope.names.lookup y=some .local:=by first | exact .inl rfl | exact .inr rfl | assumption)
  (hs:swapsWithSole [.Tuple [.Name x px,.Name y py] kt pt] e pos.line X.env=pure false:=by rfl) (hw:swappedStores [.Tuple [.Name x px,.Name y py] kt pt] e X.env=pure none:=by rfl):
  DSt X fr (.Assign [.Tuple [.Name x px,.Name y py] kt pt] e pos) (Ua i j te):=by
 obtain ⟨tt,p,l⟩:=h
 refine ⟨_,lJ p (p9 hc (xu (yG hN hi hx hf) (xu (yG hN hj hy hf2) rF))) hs hw,fun W0 G ρ σ W D D' at_ s h=>l ρ σ W _ at_.rl h _ fun d v W1 s1 i1 ⟨a,b,ed,q1⟩=>?_⟩
 subst ed
 obtain ⟨q,xs,rfl,hq,ha⟩:=is_tup.mp i1
 obtain ⟨v1,v2,rfl,h1,h2⟩:=ha.two
 refine ⟨q,_,rfl,.of (W1.sub _ _ hq),rfl,v1,[v2],rfl,v2,[],rfl,rfl,?_⟩
 exact s.nx _ _ W1 (((at_.step s1).set i h1).set j h2) q1
def InL (K:PySem.W.Frag) (Z:Hp) (W0 W1:Vw) (Pv:DS→Prop) (σ:St) (H:Hp):Prop:=∃ (ρ:DS) (W:Vw),W.h=H∧At K Z W0 W1.g W ρ σ∧Pv ρ
theorem yV {K:PySem.W.Frag} {W0 W1:Vw} {G:Hp} {D:DEnds} {D':Ends} {Pv:DS→Prop} (s:Sim K Z fr W0 G D D') (hg:Same G W1.g):
  Sim K Z fr W0 W1.g { D with nx:=Pv,ct:=Pv,bk:=D.nx } { D' with nx:=InL K Z W0 W1 Pv,ct:=InL K Z W0 W1 Pv,bk:=D'.nx }:=
 ⟨fun ρ3 σ3 W3 a3 q3=>⟨ρ3,W3,rfl,a3,q3⟩,s.tl,fun ρ3 σ3 W3 a3 q3=>s.nx ρ3 σ3 W3 (a3.weak hg) q3,fun ρ3 σ3 W3 a3 q3=>⟨ρ3,W3,rfl,a3,q3⟩⟩
theorem At.now {K:PySem.W.Frag} {W0:Vw} {G:Hp} {W:Vw} {ρ:DS} {σ:St} (a:At K Z W0 G W ρ σ):At K Z W0 W.g W ρ σ:=⟨a.le,Same.refl _,a.rl⟩
theorem k_ {j:Nat} {x:Str} {iter:Expr} {body:List Stmt} {tb:DTS} {px:Pos} (hc:X.calm=true) (hN:X.N.Nodup) (hi:X.N[j]? = some x) (hx:Loc X.env.scope x) (hp:PassesOwn (model X.prog X.w) X.A X.env X.xe)
  (h:DE X iter te) (hb:DSs X fr body tb) (hs:∀ x,foldedSetIterable iter X.env x=pure x:=by intro _; rfl)
  (hf:X.fn x=true∨X.env.scope.names.lookup x=some .local:=by first | exact .inl rfl | exact .inr rfl | assumption):DSt X fr (.For (.Name x px) iter body [] pos) (W8 j te tb):=by
 obtain ⟨tt,p,l⟩:=h
 obtain ⟨tbs,p2,l2⟩:=hb
 refine ⟨_,vN hp hc (nl p) (yG hN hi hx hf) p2 hs,fun W0 G ρ σ W D D' at_ s h=>l ρ σ W _ at_.rl h _ fun d v W1 s1 i1 ⟨ds,Pv,el,h0,ht,hd⟩=>?_⟩
 have hg:Same G W1.g:=at_.gs.trans s1.g
 have hq:∃ a xs,v=.ref a∧(∀ W2:Vw,Same W1.g W2.g→SqL X.K W2.h a xs)∧AllIs X.K W1.g ds xs:=by
  cases d with
  | lst es=>
   obtain rfl:es=ds:=Option.some.inj el
   obtain ⟨a,xs,rfl,h1,h2⟩:=is_lst.mp i1
   exact ⟨a,xs,rfl,fun W2 s2=>.of (W2.sub _ _ (s2 _ _ h1)),h2⟩
  | scr ns=>
   obtain rfl:ns.map Dt.int=ds:=Option.some.inj el
   obtain ⟨a,rfl,h1⟩:=is_scr.mp i1
   exact ⟨a,_,rfl,fun W2 s2=>W2.sub.seq (s2.seq h1),AllIs.ints⟩
  | _=>cases el
 obtain ⟨a,xs,rfl,hq,ha⟩:=hq
 refine ⟨a,rfl,⟨xs,hq W1 (Same.refl _)⟩,qZ (K:=X.K) (a:=a) (xs:=xs) (fun i=>InL X.K (Zx X) W0 W1 (Pv i)) ⟨ρ,W1,rfl,(at_.step s1).now,h0⟩ (fun i σ' H' _ ⟨_,W2,e2,a2,_⟩=>e2 ▸ hq W2 a2.gs) ?_ ?_⟩
 ·rintro i x σ' _ hi ⟨ρ',W2,rfl,a2,hp2⟩
  obtain ⟨e,he,ie⟩:=ha.get' hi
  exact l2 W0 W1.g _ _ W2 { D with nx:=Pv (i+1),ct:=Pv (i+1),bk:=D.nx } _ (a2.set j (Is.mono0 a2.gs ie)) (yV s hg) (ht i e ρ' he hp2)
 ·rintro σ' _ ⟨ρ',W2,rfl,a2,hp2⟩
  exact s.nx ρ' σ' W2 (a2.weak hg) (hd ρ' (by rw [ha.length]; exact hp2))
theorem uL {j:Nat} {x:Str} {a:Expr} {body:List Stmt} {tb:DTS} {px p0 pos1:Pos} (hc:X.calm=true) (hN:X.N.Nodup) (hi:X.N[j]? = some x) (hx:Loc X.env.scope x) (hp:PassesOwn (model X.prog X.w) X.A X.env X.xe)
  (hg:Gl X "range") (hm:X.mg "range"=none) (h:DE X a te) (hb:DSs X fr body tb) (hs:∀ x,foldedSetIterable (.Call (.Name "range" p0) [a] [] pos1) X.env x=pure x:=by intro _; rfl)
  (hst:starEach [a] X.env=[(false,eval a X.env)]:=by rfl) (hst2:starEach [a] X.env=(false,eval a X.env)::starEach [] X.env:=by rfl)
  (hf:X.fn x=true∨X.env.scope.names.lookup x=some .local:=by first | exact .inl rfl | exact .inr rfl | assumption):DSt X fr (.For (.Name x px) (.Call (.Name "range" p0) [a] [] pos1) body [] pos) (W7 j te tb):=by
 obtain ⟨tt,p,l⟩:=h
 obtain ⟨tbs,p2,l2⟩:=hb
 refine ⟨_,vN hp hc (mt hg hm (zE p yf hst2) hst) (yG hN hi hx hf) p2 hs,fun W0 G ρ σ W D D' at_ s h=>l ρ σ W _ at_.rl h _ fun d v W1 s1 i1 ⟨n,Pv,ed,n1,n2,h0,ht,hd⟩=>?_⟩
 subst ed
 have hg:Same G W1.g:=at_.gs.trans s1.g
 refine ⟨n,by rw [is_int.mp i1],n1,n2,sT (lo:=0) (n:=n.toNat) (fun i=>InL X.K (Zx X) W0 W1 (Pv i)) ⟨ρ,W1,rfl,(at_.step s1).now,h0⟩ ?_ ?_⟩
 ·rintro i σ' _ hi ⟨ρ',W2,rfl,a2,hp2⟩
  have ez:(0:Int)+(i:Int)=(i:Int):=Int.zero_add _
  rw [ez]
  exact l2 W0 W1.g _ _ W2 { D with nx:=Pv (i+1),ct:=Pv (i+1),bk:=D.nx } _ (a2.set j (is_int.mpr rfl)) (yV s hg) (ht i ρ' hi hp2)
 ·rintro σ' _ ⟨ρ',W2,rfl,a2,hp2⟩
  exact s.nx ρ' σ' W2 (a2.weak hg) (hd ρ' hp2)
theorem wy {c:Expr} {body:List Stmt} {tc:DTT} {tb:DTS} (hp:PassesOwn (model X.prog X.w) X.A X.env X.xe) (hc:DT X c tc) (hb:DSs X fr body tb):DSt X fr (.While c body [] pos) (oT tc tb):=by
 obtain ⟨t0,p0,l0⟩:=hc
 obtain ⟨tbs,p2,l2⟩:=hb
 refine ⟨_,lG hp p0 p2,fun W0 G ρ σ W D D' at_ s h=>?_⟩
 obtain ⟨Pv,⟨m0,h0⟩,ht⟩:=h
 refine ⟨fun m=>InL X.K (Zx X) W0 W (Pv m),⟨m0,ρ,W,rfl,at_.now,h0⟩,?_⟩
 rintro m σ' _ ⟨ρ',W2,rfl,a2,hp2⟩
 refine l0 ρ' σ' W2 _ a2.rl (ht m ρ' hp2) _ fun b W3 s3 q3=>?_
 have a3:=a2.step s3
 cases b with
 | true=>
  refine ⟨InL X.K (Zx X) W0 W (fun ρ2=>∃ m',m'<m∧Pv m' ρ2),fun σ4 H4 ⟨ρ4,W4,e4,a4,m',hm,p4⟩=>⟨m',hm,ρ4,W4,e4,a4,p4⟩,?_⟩
  exact l2 W0 W.g _ _ W3 { D with nx:=fun ρ2=>∃ m',m'<m∧Pv m' ρ2,ct:=fun ρ2=>∃ m',m'<m∧Pv m' ρ2,bk:=D.nx } _ a3 (yV s at_.gs) q3
 | false=>exact s.nx ρ' σ' W3 (a3.weak at_.gs) q3
variable {i:Nat} {x:Str}
def Uw (i:Nat) (te:DTE):DTS:=fun D ρ=>∃ ds,ρ[i]? = some (.own ds)∧te ρ fun d=>ds.length≤100000∧D.nx (ρ.set i (.own (ds++[d])))
theorem xR (i:Nat) (h:DE X e te) (hN:X.N[i]? = some x:=by rfl) (hv:Vis X.env.scope x:=by first | exact Or.inl rfl | exact Or.inr (Or.inl rfl) | exact Or.inr (Or.inr rfl)) (hd:(x == ("__debug__":Str))=false:=by decide)
  (hcd:(x == ("__classdict__":Str))=false:=by decide) (hst:starEach [e] X.env=(false,eval e X.env)::starEach [] X.env:=by rfl) (hpl:(backTo p2 (starEach [] X.env)).any (·.1)=false:=by rfl)
  (hfew:((backTo p2 (starEach [e] X.env)).all (fun x=>!x.1) && (backToKw p2 (keywordEach [] X.env)).all (fun x=>x.1.isSome)
   && decide ([e].length+([]:List Keyword).length+(if ([]:List Keyword).isEmpty then 0 else 1)<30))=true:=by rfl)
  (hbase:attributeBase (.Name x p0) "append" X.env (eval (.Name x p0) X.env)=eval (.Name x p0) X.env:=by rfl) (hline:(p1.endLine == p2.line)=true:=by rfl)
  (hs:swapsWith (.Call (.Attribute (.Name x p0) "append" p1) [e] [] p2) none pos.line X.env=pure false:=by rfl):
  DSt X fr (.Expr (.Call (.Attribute (.Name x p0) "append" p1) [e] [] p2) pos) (Uw i te):=by
 obtain ⟨tt,p,l⟩:=h
 refine ⟨_,xf (nq PySem.F.plainAttrs_list PySem.F.slot_list_append PySem.F.type_list_append vT (z8 hN hv hd hcd) (zE p yf hst) hbase hfew hline hst hpl) hs,fun W0 G ρ σ W D D' at_ s h=>?_⟩
 obtain ⟨ds,ei,h⟩:=h
 obtain ⟨b,xs,e1,e2,e3,e4,e5⟩:=at_.rl.ow i ds ei
 refine ⟨.ref b,e1,.inl ⟨rfl,xs,.of e2⟩,l ρ σ W _ at_.rl h _ fun d v W1 s1 i1 ⟨hl,q1⟩=>?_⟩
 have a1:=at_.step s1
 have hg1:W1.g b=none:=s1.n b (by rw [e2]; intro z; cases z) e3
 refine ⟨b,xs,v,rfl,rfl,s1.h _ _ e2,by rw [← e5.length]; exact Nat.lt_of_le_of_lt hl (by decide),?_⟩
 exact s.nx _ _ _ (a1.put ei e1 hg1 e4 ((e5.mono s1).append (allIs_cons.mpr ⟨v,[],rfl,i1,allIs_nil.mpr rfl⟩))) q1
theorem AllIs.dropLast {G:Hp} {ds:List Dt} {xs:List V} (h:AllIs K G ds xs):AllIs K G ds.dropLast xs.dropLast:=by
 rw [List.dropLast_eq_take,List.dropLast_eq_take,h.length]
 exact h.take _
theorem AllIs.reverse {G:Hp}:∀ {ds:List Dt} {xs:List V},AllIs K G ds xs→AllIs K G ds.reverse xs.reverse
 | [],_,h=>by rw [allIs_nil.mp h]; exact allIs_nil.mpr rfl
 | d::ds,_,h=>by
  obtain ⟨x,r,rfl,h1,h2⟩:=allIs_cons.mp h
  rw [List.reverse_cons,List.reverse_cons]
  exact (AllIs.reverse h2).append (allIs_cons.mpr ⟨x,[],rfl,h1,allIs_nil.mpr rfl⟩)
theorem AllIs.set {G:Hp}:∀ {ds:List Dt} {xs:List V} {d:Dt} {v:V} (j:Nat),AllIs K G ds xs→Is K G d v→AllIs K G (ds.set j d) (xs.set j v)
 | [],_,_,_,_,h,_=>by rw [allIs_nil.mp h]; exact allIs_nil.mpr rfl
 | d::ds,_,_,_,0,h,i=>by
  obtain ⟨x,r,rfl,h1,h2⟩:=allIs_cons.mp h
  exact allIs_cons.mpr ⟨_,_,rfl,i,h2⟩
 | d::ds,_,_,_,j+1,h,i=>by
  obtain ⟨x,r,rfl,h1,h2⟩:=allIs_cons.mp h
  exact allIs_cons.mpr ⟨_,_,rfl,h1,AllIs.set j h2 i⟩
def YB (i:Nat):DTS:=fun D ρ=>∃ ds,ρ[i]? = some (.own ds)∧ds.isEmpty=false∧D.nx (ρ.set i (.own ds.dropLast))
theorem kY (i:Nat) (hN:X.N[i]? = some x:=by rfl) (hv:Vis X.env.scope x:=by first | exact Or.inl rfl | exact Or.inr (Or.inl rfl) | exact Or.inr (Or.inr rfl)) (hd:(x == ("__debug__":Str))=false:=by decide)
  (hcd:(x == ("__classdict__":Str))=false:=by decide)
  (hbase:attributeBase (.Name x p0) "pop" X.env (eval (.Name x p0) X.env)=eval (.Name x p0) X.env:=by rfl) (hline:(p1.endLine == p2.line)=true:=by rfl)
  (hs:swapsWith (.Call (.Attribute (.Name x p0) "pop" p1) [] [] p2) none pos.line X.env=pure false:=by rfl):
  DSt X fr (.Expr (.Call (.Attribute (.Name x p0) "pop" p1) [] [] p2) pos) (YB i):=by
 refine ⟨_,xf (lO PySem.F.plainAttrs_list PySem.F.slot_list_pop PySem.F.type_list_pop Z9 (z8 hN hv hd hcd) hbase hline) hs,fun W0 G ρ σ W D D' at_ s h=>?_⟩
 obtain ⟨ds,ei,hne,q1⟩:=h
 obtain ⟨b,xs,e1,e2,e3,e4,e5⟩:=at_.rl.ow i ds ei
 have hx:xs≠[]:=fun z=>by
  have:=e5.length
  rw [z] at this
  rw [List.length_eq_zero_iff.mp this] at hne
  cases hne
 have hlt:xs.length - 1<xs.length:=by
  have:=List.length_pos_iff.mpr hx
  omega
 exact ⟨.ref b,e1,.inl ⟨rfl,xs,.of e2⟩,b,xs,xs[xs.length - 1],rfl,rfl,e2,List.getElem?_eq_getElem hlt,s.nx _ _ _ (at_.put ei e1 e3 e4 e5.dropLast) q1⟩
def Ug (i:Nat):DTS:=fun D ρ=>∃ ds,ρ[i]? = some (.own ds)∧D.nx (ρ.set i (.own ds.reverse))
theorem kU (i:Nat) (hN:X.N[i]? = some x:=by rfl) (hv:Vis X.env.scope x:=by first | exact Or.inl rfl | exact Or.inr (Or.inl rfl) | exact Or.inr (Or.inr rfl)) (hd:(x == ("__debug__":Str))=false:=by decide)
  (hcd:(x == ("__classdict__":Str))=false:=by decide)
  (hbase:attributeBase (.Name x p0) "reverse" X.env (eval (.Name x p0) X.env)=eval (.Name x p0) X.env:=by rfl) (hline:(p1.endLine == p2.line)=true:=by rfl)
  (hs:swapsWith (.Call (.Attribute (.Name x p0) "reverse" p1) [] [] p2) none pos.line X.env=pure false:=by rfl):
  DSt X fr (.Expr (.Call (.Attribute (.Name x p0) "reverse" p1) [] [] p2) pos) (Ug i):=by
 refine ⟨_,xf (lO PySem.F.plainAttrs_list PySem.F.slot_list_reverse PySem.F.type_list_reverse ox (z8 hN hv hd hcd) hbase hline) hs,fun W0 G ρ σ W D D' at_ s h=>?_⟩
 obtain ⟨ds,ei,q1⟩:=h
 obtain ⟨b,xs,e1,e2,e3,e4,e5⟩:=at_.rl.ow i ds ei
 exact ⟨.ref b,e1,.inl ⟨rfl,xs,.of e2⟩,b,xs,rfl,rfl,e2,s.nx _ _ _ (at_.put ei e1 e3 e4 e5.reverse) q1⟩
def Uh (i:Nat) (ti te:DTE):DTS:=fun D ρ=>∃ ds,ρ[i]? = some (.own ds)∧te ρ fun d=>ti ρ fun z=>∃ n j,z=.int n∧ixN ds.length n=some j∧D.nx (ρ.set i (.own (ds.set j d)))
theorem Ys (i:Nat) {k:Expr} {ti:DTE} (hk:DE X k ti) (h:DE X e te) (hN:X.N[i]? = some x:=by rfl) (hv:Vis X.env.scope x:=by first | exact Or.inl rfl | exact Or.inr (Or.inl rfl) | exact Or.inr (Or.inr rfl)) (hd:(x == ("__debug__":Str))=false:=by decide)
  (hcd:(x == ("__classdict__":Str))=false:=by decide)
  (ha:∀ v,assign (.Subscript (.Name x p0) k p1) X.env v=(do
   let ov ← holding [v] (eval (.Name x p0) X.env)
   let iv ← holding [v,ov] (eval k X.env)
   standAt p1
   holding [v,ov,iv] (setItem ov iv v)
   release [v,ov,iv] []):=by intro _; rfl)
  (hs:swapsWithSole [.Subscript (.Name x p0) k p1] e pos.line X.env=pure false:=by rfl) (hw:swappedStores [.Subscript (.Name x p0) k p1] e X.env=pure none:=by rfl)
  (h1:(assignEach [.Subscript (.Name x p0) k p1] X.env).map (·.2)=[assign (.Subscript (.Name x p0) k p1) X.env]:=by rfl):
  DSt X fr (.Assign [.Subscript (.Name x p0) k p1] e pos) (Uh i ti te):=by
 obtain ⟨tt,p,l⟩:=h
 obtain ⟨tk,pk,lk⟩:=hk
 refine ⟨_,lJ p (d9 (z8 hN hv hd hcd) pk qx ha) hs hw h1,fun W0 G ρ σ W D D' at_ s h=>?_⟩
 obtain ⟨ds,ei,h⟩:=h
 refine l ρ σ W _ at_.rl h _ fun d v W1 s1 i1 q1=>?_
 have a1:=at_.step s1
 obtain ⟨b,xs,e1,e2,e3,e4,e5⟩:=a1.rl.ow i ds ei
 refine ⟨.ref b,e1,lk ρ σ W1 _ a1.rl q1 _ fun z u W2 s2 i2 ⟨n,j,ez,ej,q2⟩=>?_⟩
 subst ez
 have a2:=a1.step s2
 have hg2:W2.g b=none:=s2.n b (by rw [e2]; intro z; cases z) e3
 refine ⟨b,xs,n,j,rfl,is_int.mp i2,s2.h _ _ e2,by rw [← e5.length]; exact ej,?_⟩
 exact s.nx _ _ _ (a2.put ei e1 hg2 e4 ((e5.mono s2).set j (i1.mono s2))) q2
end
section
variable {P:Program} {w:World} {K:PySem.W.Frag} {mg:Str→Option Value} {base:Heap}
theorem xy {W:Vw} {N:List Str} {ds:List Dt} {vs:List V} (ia:AllIs K W.g ds vs) (hz:Z=W.h):At K Z W W.g W (z_ N.length ds) (start N vs):=⟨Le.refl W,Same.refl _,Rl.start ia (hz ▸ Same.refl _)⟩
theorem okD {x qual:Str} {st:Stmt} {f:Addr} {fd:FuncData} {N ps:List Str} {k:Nat} {S:DSp} (F:Fun K x qual st f fd) (sc:zg N ps (defScope st)) (len:∀ ds Q,S ds Q→ds.length=ps.length)
  (hbody:∀ (cdv:Value) (A:Around) (outer:List Env) (s:Shared) (H:Hp) (E:XK),Room k (A.deeper (envOfC qual (defScope st) s.heap.objs.size f cdv))→∀ (ds:List Dt) (Q:Dt→Prop),S ds Q→
   ∃ t,DSs (yn CX0 P w K mg base N qual (defScope st) f cdv A outer s H E).nox .d (defBody st) t∧t { nx:=fun _=>Q .non,rt:=Q } (z_ N.length ds)):FnOk P w K mg base CX0 (k+1) f fd ps (zq K S):=by
 refine F.ok sc (fun vs H Q E h=>?_) (fun cdv A outer s H vs Q E hr h=>?_)
 ·obtain ⟨W,ds,Qd,_,ia,hS,_⟩:=h
  rw [← ia.length]
  exact len ds Qd hS
 obtain ⟨W,ds,Qd,rfl,ia,hS,kk⟩:=h
 obtain ⟨t,⟨ts,p,l⟩,ht⟩:=hbody cdv A outer s W.h E hr ds Qd hS
 refine ⟨ts,p,l W W.g (z_ N.length ds) (start N vs) W { nx:=fun _=>Qd .non,rt:=Qd } _ (xy ia (vy (Nat.succ_ne_self _))) ⟨fun ρ σ W' a q=>kk .non .non W' a.le (is_non.mpr rfl) q,fun d v W' s' i' q=>kk d v W' s' i' q,fun _ _ _ _ q=>q.elim,fun _ _ _ _ q=>q.elim⟩ ht⟩
theorem okF {x qual:Str} {st:Stmt} {f:Addr} {fd:FuncData} {N ps:List Str} {k:Nat} {S:DSp} (F:Fun K x qual st f fd) (sc:zg N ps (defScope st)) (len:∀ ds Q,S ds Q→ds.length=ps.length)
  (hbody:∀ (cdv:Value) (A:Around) (outer:List Env) (s:Shared) (H:Hp) (E:XK),Room k (A.deeper (envOfC qual (defScope st) s.heap.objs.size f cdv))→∀ (ds:List Dt) (Q:Dt→Prop),S ds Q→
   ∃ t,DSs (yn CX0 P w K mg base N qual (defScope st) f cdv A outer s H E).nox .l (defBody st) t∧t { nx:=fun _=>False,rt:=Q } (z_ N.length ds)):FnOk P w K mg base CX0 (k+1) f fd ps (xV K S):=by
 refine F.ok sc (fun vs H Q E h=>?_) (fun cdv A outer s H vs Q E hr h=>?_)
 ·obtain ⟨W,ds,Qd,_,ia,hS,_⟩:=h
  rw [← ia.length]
  exact len ds Qd hS
 obtain ⟨W,ds,Qd,rfl,ia,hS,kk⟩:=h
 obtain ⟨t,⟨ts,p,l⟩,ht⟩:=hbody cdv A outer s W.h E hr ds Qd hS
 exact ⟨ts,p,l W W.g (z_ N.length ds) (start N vs) W { nx:=fun _=>False,rt:=Qd } _ (xy ia (vy (Nat.succ_ne_self _))) ⟨fun ρ σ W' a q=>q.elim,fun d v W' s' ⟨es,p,xs,e1,e2,e3,e4,e5,e6⟩ q=>by subst e1; subst e2; exact kk es p xs W' s' e3 e4 e5 e6 q,fun _ _ _ _ q=>q.elim,fun _ _ _ _ q=>q.elim⟩ ht⟩
theorem DOk.mk' {x qual:Str} {st:Stmt} {f:Addr} {fd:FuncData} {ps:List Str} {n:Nat} {S:DSp} (F:Fun K x qual st f fd) (hm:mg x=some (.ref f)) (hb:Binds K fd ps []) (h:FnOk P w K mg base CX0 n f fd ps (zq K S)):DOk P w K mg base n x S:=
 ⟨f,fd,ps,hm,F.kp,hb,h⟩
theorem FOk.mk' {x qual:Str} {st:Stmt} {f:Addr} {fd:FuncData} {ps:List Str} {n:Nat} {S:DSp} (F:Fun K x qual st f fd) (hm:mg x=some (.ref f)) (hb:Binds K fd ps []) (h:FnOk P w K mg base CX0 n f fd ps (xV K S)):FOk P w K mg base n x S:=
 ⟨f,fd,ps,hm,F.kp,hb,h⟩
theorem DOk.mono {x:Str} {m n:Nat} {S:DSp} (h:DOk P w K mg base m x S) (hl:m≤n):DOk P w K mg base n x S:=
 let ⟨f,fd,ps,h1,h2,h3,h4⟩:=h.ex; ⟨f,fd,ps,h1,h2,h3,h4.mono hl⟩
theorem FOk.mono {x:Str} {m n:Nat} {S:DSp} (h:FOk P w K mg base m x S) (hl:m≤n):FOk P w K mg base n x S:=
 let ⟨f,fd,ps,h1,h2,h3,h4⟩:=h.ex; ⟨f,fd,ps,h1,h2,h3,h4.mono hl⟩
theorem MOk.mono {C:Addr} {x:Str} {m n:Nat} {S:DSp} (h:MOk P w K mg base m C x S) (hl:m≤n):MOk P w K mg base n C x S:=
 ⟨h.cl,let ⟨f,fd,ps,h1,h3,h4⟩:=h.ex; ⟨f,fd,ps,h1,h3,h4.mono hl⟩⟩
theorem FMOk.mono {C:Addr} {x:Str} {m n:Nat} {S:DSp} (h:FMOk P w K mg base m C x S) (hl:m≤n):FMOk P w K mg base n C x S:=
 ⟨h.cl,let ⟨f,fd,ps,h1,h3,h4⟩:=h.ex; ⟨f,fd,ps,h1,h3,h4.mono hl⟩⟩
theorem MOk.imp {C:Addr} {x:Str} {n:Nat} {S S':DSp} (h:MOk P w K mg base n C x S) (hi:∀ ds Q,S' ds Q→S ds Q):MOk P w K mg base n C x S':=
 ⟨h.cl,let ⟨f,fd,ps,h1,h3,h4⟩:=h.ex; ⟨f,fd,ps,h1,h3,h4.imp fun vs H Q E ⟨W,ds,Qd,a,b,c,d⟩=>⟨W,ds,Qd,a,b,hi _ _ c,d⟩⟩⟩
theorem FMOk.imp {C:Addr} {x:Str} {n:Nat} {S S':DSp} (h:FMOk P w K mg base n C x S) (hi:∀ ds Q,S' ds Q→S ds Q):FMOk P w K mg base n C x S':=
 ⟨h.cl,let ⟨f,fd,ps,h1,h3,h4⟩:=h.ex; ⟨f,fd,ps,h1,h3,h4.imp fun vs H Q E ⟨W,ds,Qd,a,b,c,d⟩=>⟨W,ds,Qd,a,b,hi _ _ c,d⟩⟩⟩
theorem DOk.imp {x:Str} {n:Nat} {S S':DSp} (h:DOk P w K mg base n x S) (hi:∀ ds Q,S' ds Q→S ds Q):DOk P w K mg base n x S':=
 let ⟨f,fd,ps,h1,h2,h3,h4⟩:=h.ex; ⟨f,fd,ps,h1,h2,h3,h4.imp fun vs H Q E ⟨W,ds,Qd,a,b,c,d⟩=>⟨W,ds,Qd,a,b,hi _ _ c,d⟩⟩
theorem wH {qual:Str} {st:Stmt} {g C:Addr} {fd:FuncData} {y f:Str} {k:Nat} {ok:Int→Prop} (F:Fun K "__init__" qual st g fd) (sc:zg ["self",y] ["self",y] (defScope st)) (cl:Cls K C) (na:NoAttr K C f)
  (hbody:∀ (cdv:Value) (A:Around) (outer:List Env) (s:Shared) (H:Hp) (E:XK),Room k (A.deeper (envOfC qual (defScope st) s.heap.objs.size g cdv))→
   ∃ te t,PSs (yn CX0 P w K mg base ["self",y] qual (defScope st) g cdv A outer s H E).nox (defBody st) (Xc K (jO 0) te f)∧LiE K (Zx (yn CX0 P w K mg base ["self",y] qual (defScope st) g cdv A outer s H E)) te t∧∀ i,ok i→t [.none,.some (.int i)] fun d=>d=.int i):
  FnOk P w K mg base CX0 (k+1) g fd ["self",y] (xb C f ok):=by
 refine F.ok sc (fun vs H Q E h=>?_) (fun cdv A outer s H vs Q E hr h=>?_)
 ·obtain ⟨p,dx,i,rfl,_⟩:=h
  rfl
 obtain ⟨p,dx,i,rfl,hp,hok,q⟩:=h
 obtain ⟨te,t,ps,l,ht⟩:=hbody cdv A outer s H E hr
 rw [mY] at l
 refine ⟨_,ps,l (F:=H) [.none,.some (.int i)] _ ⟨H,H,Same.refl H⟩ _ ⟨rfl,fun j d e=>?_,fun j ds e=>?_,fun j j' ds es _ e _=>?_,Same.refl H,Same.refl H,fun j a ds e=>?_⟩ (ht i hok) _ fun d v W1 s1 i1 ed=>?_⟩
 ·match j,e with
  | 0,e=>cases e
  | 1,e=>
   have e':Dt.int i=d:=by cases e; rfl
   subst e'
   exact ⟨.int i,rfl,is_int.mpr rfl⟩
  | j+2,e=>cases e
 ·match j,e with
  | 0,e=>cases e
  | 1,e=>cases e
  | j+2,e=>cases e
 ·match j,e with
  | 0,e=>cases e
  | 1,e=>cases e
  | j+2,e=>cases e
 ·match j,e with
  | 0,e=>cases e
  | 1,e=>cases e
  | j+2,e=>cases e
 ·subst ed
  obtain rfl:=is_int.mp i1
  refine ⟨.ref p,rfl,p,C,dx,[],rfl,s1.h _ _ hp,cl,na,(by show 0<1000; decide),?_⟩
  refine q _ zu fun b o hb hbp=>?_
  rw [zw hbp]
  exact s1.h _ _ hb
end
end OD
namespace OD
open PySem PySem.Spec PyProof.Rows L2
mutual
def eqD:Dt→Dt→Bool
 | .non,.non=>true
 | .bl a,.bl b=>a == b
 | .bl a,.int b=>(if a then (1:Int) else 0) == b
 | .int a,.bl b=>a == (if b then (1:Int) else 0)
 | .int a,.int b=>a == b
 | .str a,.str b=>a == b
 | .tup ds,.tup es=>xQ ds es
 | .lst ds,.lst es=>xQ ds es
 | _,_=>false
def xQ:List Dt→List Dt→Bool
 | [],[]=>true
 | d::ds,e::es=>eqD d e && xQ ds es
 | _,_=>false
end
def okE:Nat→Dt→Bool
 | _,.non=>true
 | _,.bl _=>true
 | _,.int _=>true
 | _,.str _=>true
 | n+1,.tup ds=>ds.all (okE n)
 | n+1,.lst ds=>ds.all (okE n)
 | _,_=>false
theorem yS (a b:Int):eqD (.int a) (.int b)=(a == b):=by unfold eqD; rfl
theorem kQ (a b:Bool):eqD (.bl a) (.bl b)=(a == b):=by unfold eqD; rfl
theorem nE (a b:Str):eqD (.str a) (.str b)=(a == b):=by unfold eqD; rfl
theorem vn (ds es:List Dt):eqD (.tup ds) (.tup es)=xQ ds es:=by rw [eqD]
theorem uI (ds es:List Dt):eqD (.lst ds) (.lst es)=xQ ds es:=by rw [eqD]
theorem vm:xQ [] []=true:=by unfold xQ; rfl
theorem xx (d e:Dt) (ds es:List Dt):xQ (d::ds) (e::es)=(eqD d e && xQ ds es):=by rw [xQ]
theorem sI (e:Dt) (es:List Dt):xQ [] (e::es)=false:=by unfold xQ; rfl
theorem sJ (e:Dt) (es:List Dt):xQ (e::es) []=false:=by unfold xQ; rfl
theorem y6:∀ ds es:List Dt,(((List.range (min ds.length es.length)).all fun j=>eqD (ds.getD j .non) (es.getD j .non)) && (ds.length == es.length))=xQ ds es
 | [],[]=>by rw [vm]; rfl
 | [],e::es=>by
  rw [sI]
  have h:((([]:List Dt).length == (e::es).length))=false:=by simp
  rw [h,Bool.and_false]
 | d::ds,[]=>by
  rw [sJ]
  have h:(((d::ds).length == ([]:List Dt).length))=false:=by simp
  rw [h,Bool.and_false]
 | d::ds,e::es=>by
  have ih:=y6 ds es
  rw [xx,← ih]
  have hm:min (d::ds).length (e::es).length=min ds.length es.length+1:=by
   rw [List.length_cons,List.length_cons]; omega
  rw [hm,List.range_succ_eq_map,List.all_cons,List.all_map,Bool.and_assoc]
  have hl:((d::ds).length == (e::es).length)=(ds.length == es.length):=by
   rw [List.length_cons,List.length_cons]
   rw [Bool.eq_iff_iff,beq_iff_eq,beq_iff_eq]
   omega
  rw [hl]
  rfl
theorem sW {ds es:List Dt} (h:ds.length≠es.length):xQ ds es=false:=by
 rw [← y6 ds es]
 have h:(ds.length == es.length)=false:=beq_eq_false_iff_ne.mpr h
 rw [h,Bool.and_false]
theorem pe {ds es:List Dt} (h:ds.length=es.length):((List.range ds.length).all fun j=>eqD (ds.getD j .non) (es.getD j .non))=xQ ds es:=by
 rw [← y6 ds es]
 have h':(ds.length == es.length)=true:=beq_iff_eq.mpr h
 rw [h',Bool.and_true,← h,Nat.min_self]
theorem vZ:∀ {ds:List Dt},(∀ d∈ds,eqD d d=true)→xQ ds ds=true
 | [],_=>vm
 | d::ds,h=>by
  rw [xx,h d List.mem_cons_self,vZ fun e he=>h e (List.mem_cons_of_mem _ he)]
  rfl
theorem kP:∀ (n:Nat) {d:Dt},okE n d=true→eqD d d=true:=by
 intro n
 induction n with
 | zero=>
  intro d h
  cases d with
  | non=>unfold eqD; rfl
  | bl b=>rw [kQ]; exact beq_self_eq_true _
  | int b=>rw [yS]; exact beq_self_eq_true _
  | str b=>rw [nE]; exact beq_self_eq_true _
  | _=>simp [okE] at h
 | succ n ih=>
  intro d h
  cases d with
  | non=>unfold eqD; rfl
  | bl b=>rw [kQ]; exact beq_self_eq_true _
  | int b=>rw [yS]; exact beq_self_eq_true _
  | str b=>rw [nE]; exact beq_self_eq_true _
  | tup ds=>
   rw [vn]
   have h':∀ d∈ds,okE n d=true:=by simpa [okE] using h
   exact vZ fun d hd=>ih (h' d hd)
  | lst ds=>
   rw [uI]
   have h':∀ d∈ds,okE n d=true:=by simpa [okE] using h
   exact vZ fun d hd=>ih (h' d hd)
  | _=>simp [okE] at h
example:eqD (.int ((2:Nat):Int)) (.int 2)=true:=by rfl
section
variable {X:Cx} {pins:List (Addr × Obj)} {σ:St} {K:PySem.W.Frag} {H:Hp} {s:Shared}
theorem oO:∀ {ds es:List Dt} {xs:List V},(∀ d e v,d∈ds→e∈es→Is K H d v→Is K H e v→eqD d e=true)→AllIs K H ds xs→AllIs K H es xs→xQ ds es=true
 | [],es,xs,ih,i1,i2=>by
  obtain rfl:=allIs_nil.mp i1
  cases es with
  | nil=>exact vm
  | cons e es=>obtain ⟨_,_,z,_⟩:=allIs_cons.mp i2; cases z
 | d::ds,es,xs,ih,i1,i2=>by
  obtain ⟨x,r,rfl,j1,j2⟩:=allIs_cons.mp i1
  cases es with
  | nil=>cases allIs_nil.mp i2
  | cons e es=>
   obtain ⟨y,r',z,k1,k2⟩:=allIs_cons.mp i2
   cases z
   rw [xx,ih d e x List.mem_cons_self List.mem_cons_self j1 k1,oO (fun d' e' v' hd he=>ih d' e' v' (List.mem_cons_of_mem _ hd) (List.mem_cons_of_mem _ he)) j2 k2]
   rfl
def wv:Dt→Bool
 | .non=>true
 | .bl _=>true
 | .int _=>true
 | .str _=>true
 | _=>false
def vD:Dt→V
 | .bl b=>.bl b
 | .int i=>.int i
 | .str x=>.str x
 | _=>.non
theorem zO {d:Dt} {v:V} (h:wv d=true) (i:Is K H d v):v=vD d:=by
 cases d <;> first | exact is_non.mp i | exact is_bl.mp i | exact is_int.mp i | exact is_str.mp i | cases h
theorem vY {d:Dt} (h:wv d=true):nB (vD d)=true:=by cases d <;> first | rfl | cases h
theorem vk {d:Dt} {a:Addr} (h:wv d=true) (e:vD d=.ref a):False:=by cases d <;> first | cases e | cases h
theorem pd {v:V} (h:nB v=true):eqV v v=true:=by cases v <;> first | rfl | exact beq_self_eq_true _ | cases h
theorem vo {d e:Dt} (h1:wv d=true) (h2:wv e=true):eqD d e=eqV (vD d) (vD e):=by cases d <;> first | exact absurd h1 Bool.false_ne_true | (cases e <;> first | exact absurd h2 Bool.false_ne_true | rfl)
theorem wx {d:Dt} {es:List Dt} (h:wv d=true):eqD d (.tup es)=false∧eqD (.tup es) d=false∧eqD d (.lst es)=false∧eqD (.lst es) d=false:=by
 cases d <;> first | exact ⟨rfl,rfl,rfl,rfl⟩ | cases h
theorem yW {n:Nat} {d:Dt} (h:okE n d=true):wv d=true∨∃ m ds,n=m+1∧(d=.tup ds∨d=.lst ds)∧∀ d∈ds,okE m d=true:=by
 cases d with
 | non=>exact .inl rfl
 | bl b=>exact .inl rfl
 | int b=>exact .inl rfl
 | str b=>exact .inl rfl
 | tup ds=>
  cases n with
  | zero=>simp [okE] at h
  | succ m=>exact .inr ⟨m,ds,rfl,.inl rfl,by simpa [okE] using h⟩
 | lst ds=>
  cases n with
  | zero=>simp [okE] at h
  | succ m=>exact .inr ⟨m,ds,rfl,.inr rfl,by simpa [okE] using h⟩
 | _=>cases n <;> simp [okE] at h
theorem nD:∀ (n:Nat) {d e:Dt} {v:V},okE n d=true→okE n e=true→Is K H d v→Is K H e v→eqD d e=true:=by
 intro n
 induction n with
 | zero=>
  intro d e v h1 h2 i1 i2
  rcases yW h1 with f1 | ⟨m,ds,z,_⟩
  ·rcases yW h2 with f2 | ⟨m,ds,z,_⟩
   ·rw [vo f1 f2,← zO f1 i1,← zO f2 i2]
    exact pd (by rw [zO f1 i1]; exact vY f1)
   ·cases z
  ·cases z
 | succ n ih=>
  intro d e v h1 h2 i1 i2
  rcases yW h1 with f1 | ⟨m,ds,z,hk,hd⟩
  ·rcases yW h2 with f2 | ⟨m,es,z,hk,he⟩
   ·rw [vo f1 f2,← zO f1 i1,← zO f2 i2]
    exact pd (by rw [zO f1 i1]; exact vY f1)
   ·obtain rfl:=zO f1 i1
    rcases hk with rfl | rfl
    ·obtain ⟨_,_,e,_⟩:=is_tup.mp i2; exact (vk f1 e).elim
    ·obtain ⟨_,_,e,_⟩:=is_lst.mp i2; exact (vk f1 e).elim
  ·cases z
   rcases yW h2 with f2 | ⟨m,es,z,hk2,he⟩
   ·obtain rfl:=zO f2 i2
    rcases hk with rfl | rfl
    ·obtain ⟨_,_,e,_⟩:=is_tup.mp i1; exact (vk f2 e).elim
    ·obtain ⟨_,_,e,_⟩:=is_lst.mp i1; exact (vk f2 e).elim
   ·cases z
    rcases hk with rfl | rfl
    ·obtain ⟨a,xs,rfl,hx,ha⟩:=is_tup.mp i1
     rcases hk2 with rfl | rfl
     ·obtain ⟨b,ys,eb,hy,hb⟩:=is_tup.mp i2
      cases eb
      rw [hx] at hy
      cases hy
      rw [vn]
      exact oO (fun d e v q1 q2=>ih (hd d q1) (he e q2)) ha hb
     ·obtain ⟨b,ys,eb,hy,hb⟩:=is_lst.mp i2
      cases eb
      rw [hx] at hy
      cases hy
    ·obtain ⟨a,xs,rfl,hx,ha⟩:=is_lst.mp i1
     rcases hk2 with rfl | rfl
     ·obtain ⟨b,ys,eb,hy,hb⟩:=is_tup.mp i2
      cases eb
      rw [hx] at hy
      cases hy
     ·obtain ⟨b,ys,eb,hy,hb⟩:=is_lst.mp i2
      cases eb
      rw [hx] at hy
      cases hy
      rw [uI]
      exact oO (fun d e v q1 q2=>ih (hd d q1) (he e q2)) ha hb
section
variable {A:Around}
open SeqAt
theorem wJ {d:Dt} {v:Value} {b:Addr} {its:Array Value} (f:wv d=true) (q:RelV (vD d) v) (t:s.heap.IsTuple b its) (hA:A.units<cLine):
  (EqAt A s v (.ref b) false∧EqAt A s (.ref b) v false)∧(RcAt A s v (.ref b) false∧RcNeAt A s v (.ref b) true)∧RcAt A s (.ref b) v false∧RcNeAt A s (.ref b) v true:=by
 cases d with
 | non=>cases q; exact ⟨⟨.none_tuple t hA,.tuple_none t hA⟩,⟨.none_tuple t hA,.none_tuple t hA⟩,.tuple_none t hA,.tuple_none t hA⟩
 | bl a=>cases q; exact ⟨⟨.bool_tuple a t hA,.tuple_bool a t hA⟩,⟨.bool_tuple a t hA,.bool_tuple a t hA⟩,.tuple_bool a t hA,.tuple_bool a t hA⟩
 | int a=>obtain ⟨u,rfl⟩:=q; exact ⟨⟨.int_tuple a u t hA,.tuple_int a u t hA⟩,⟨.int_tuple a u t hA,.int_tuple a u t hA⟩,.tuple_int a u t hA,.tuple_int a u t hA⟩
 | str a=>obtain ⟨u,rfl⟩:=q; exact ⟨⟨.str_tuple a u t hA,.tuple_str a u t hA⟩,⟨.str_tuple a u t hA,.str_tuple a u t hA⟩,.tuple_str a u t hA,.tuple_str a u t hA⟩
 | _=>cases f
theorem wK {d:Dt} {v:Value} {b:Addr} {its:Array Value} (f:wv d=true) (q:RelV (vD d) v) (t:s.heap.IsList b its) (hA:A.units<cLine):
  (EqAt A s v (.ref b) false∧EqAt A s (.ref b) v false)∧(RcAt A s v (.ref b) false∧RcNeAt A s v (.ref b) true)∧RcAt A s (.ref b) v false∧RcNeAt A s (.ref b) v true:=by
 cases d with
 | non=>cases q; exact ⟨⟨.none_list t hA,.list_none t hA⟩,⟨.none_list t hA,.none_list t hA⟩,.list_none t hA,.list_none t hA⟩
 | bl a=>cases q; exact ⟨⟨.bool_list a t hA,.list_bool a t hA⟩,⟨.bool_list a t hA,.bool_list a t hA⟩,.list_bool a t hA,.list_bool a t hA⟩
 | int a=>obtain ⟨u,rfl⟩:=q; exact ⟨⟨.int_list a u t hA,.list_int a u t hA⟩,⟨.int_list a u t hA,.int_list a u t hA⟩,.list_int a u t hA,.list_int a u t hA⟩
 | str a=>obtain ⟨u,rfl⟩:=q; exact ⟨⟨.str_list a u t hA,.list_str a u t hA⟩,⟨.str_list a u t hA,.str_list a u t hA⟩,.list_str a u t hA,.list_str a u t hA⟩
 | _=>cases f
theorem fM {d e:Dt} {v u:Value} (f1:wv d=true) (f2:wv e=true) (q1:RelV (vD d) v) (q2:RelV (vD e) u):RcAt A s v u (eqD d e)∧RcNeAt A s v u (!eqD d e):=by
 cases d with
 | non=>
  cases q1
  cases e with
  | non=>cases q2; exact ⟨.none_none,.none_none⟩
  | bl b=>cases q2; exact ⟨.none_bool b,.none_bool b⟩
  | int b=>obtain ⟨t,rfl⟩:=q2; exact ⟨.none_int b t,.none_int b t⟩
  | str b=>obtain ⟨t,rfl⟩:=q2; exact ⟨.none_str b t,.none_str b t⟩
  | _=>cases f2
 | bl a=>
  cases q1
  cases e with
  | non=>cases q2; exact ⟨.bool_none a,.bool_none a⟩
  | bl b=>cases q2; exact ⟨.bool_bool a b,.bool_bool a b⟩
  | int b=>obtain ⟨t,rfl⟩:=q2; exact ⟨.bool_int a b t,.bool_int a b t⟩
  | str b=>obtain ⟨t,rfl⟩:=q2; exact ⟨.bool_str a b t,.bool_str a b t⟩
  | _=>cases f2
 | int a=>
  obtain ⟨ta,rfl⟩:=q1
  cases e with
  | non=>cases q2; exact ⟨.int_none a ta,.int_none a ta⟩
  | bl b=>cases q2; exact ⟨.int_bool a ta b,.int_bool a ta b⟩
  | int b=>obtain ⟨t,rfl⟩:=q2; exact ⟨.int_int a ta b t,.int_int a ta b t⟩
  | str b=>obtain ⟨t,rfl⟩:=q2; exact ⟨.int_str a ta b t,.int_str a ta b t⟩
  | _=>cases f2
 | str a=>
  obtain ⟨ta,rfl⟩:=q1
  cases e with
  | non=>cases q2; exact ⟨.str_none a ta,.str_none a ta⟩
  | bl b=>cases q2; exact ⟨.str_bool a ta b,.str_bool a ta b⟩
  | int b=>obtain ⟨t,rfl⟩:=q2; exact ⟨.str_int a ta b t,.str_int a ta b t⟩
  | str b=>obtain ⟨t,rfl⟩:=q2; exact ⟨.str_str a ta b t,.str_str a ta b t⟩
  | _=>cases f2
 | _=>cases f1
end
theorem vi {n:Nat} {A:Around} {ds es:List Dt} {xs ys:List V} {its its2:List Value}
  (ih:∀ {d e:Dt} {x y:V} {v u:Value},okE n d=true→okE n e=true→Is K H d x→Is K H e y→RelV x v→RelV y u→SeqAt.EqAt A s v u (eqD d e))
  (hd:∀ d∈ds,okE n d=true) (he:∀ d∈es,okE n d=true) (a1:AllIs K H ds xs) (a2:AllIs K H es ys) (r1:Vals xs its) (r2:Vals ys its2):
  ∀ j (h1:j<its.toArray.size) (h2:j<its2.toArray.size),SeqAt.EqAt A s its.toArray[j] its2.toArray[j] (eqD (ds.getD j .non) (es.getD j .non)):=by
 intro j h1 h2
 have l1:=a1.length.trans r1.length
 have l2:=a2.length.trans r2.length
 rw [List.size_toArray] at h1 h2
 have g1:ds[j]? = some ds[j]:=List.getElem?_eq_getElem (by omega)
 have g2:es[j]? = some es[j]:=List.getElem?_eq_getElem (by omega)
 obtain ⟨x,e1,i1⟩:=a1.get g1
 obtain ⟨y,e2,i2⟩:=a2.get g2
 obtain ⟨v,e3,q1⟩:=r1.get e1
 obtain ⟨u,e4,q2⟩:=r2.get e2
 have f1:ds.getD j .non=ds[j]:=by rw [List.getD_eq_getElem?_getD,g1]; rfl
 have f2:es.getD j .non=es[j]:=by rw [List.getD_eq_getElem?_getD,g2]; rfl
 have f3:its.toArray[j]=v:=by
  have z:its[j]? = some its[j]:=List.getElem?_eq_getElem h1
  rw [z] at e3
  simpa using Option.some.inj e3
 have f4:its2.toArray[j]=u:=by
  have z:its2[j]? = some its2[j]:=List.getElem?_eq_getElem h2
  rw [z] at e4
  simpa using Option.some.inj e4
 rw [f1,f2,f3,f4]
 exact ih (hd _ (List.mem_of_getElem? g1)) (he _ (List.mem_of_getElem? g2)) i1 i2 q1 q2
theorem WI (I:Inv X pins σ H s):∀ (n:Nat) {A:Around} {d e:Dt} {x y:V} {v u:Value},A.units+n<cLine→okE n d=true→okE n e=true→Is X.K H d x→Is X.K H e y→RelV x v→RelV y u→SeqAt.EqAt A s v u (eqD d e):=by
 intro n
 induction n with
 | zero=>
  intro A d e x y v u hu h1 h2 i1 i2 q1 q2
  rcases yW h1 with f1 | ⟨m,ds,z,_⟩
  ·rcases yW h2 with f2 | ⟨m,ds,z,_⟩
   ·rw [vo f1 f2]
    rw [zO f1 i1] at q1
    rw [zO f2 i2] at q2
    exact kR q1 q2 (vY f1) (vY f2)
   ·cases z
  ·cases z
 | succ n ih=>
  intro A d e x y v u hu h1 h2 i1 i2 q1 q2
  have hA:A.units<cLine:=by omega
  have hu':A.in1.units+n<cLine:=by show A.units+1+n<cLine; omega
  rcases yW h1 with f1 | ⟨m,ds,z,hk,hd⟩
  ·rw [zO f1 i1] at q1
   rcases yW h2 with f2 | ⟨m,es,z,rfl | rfl,he⟩
   ·rw [vo f1 f2]
    rw [zO f2 i2] at q2
    exact kR q1 q2 (vY f1) (vY f2)
   ·obtain ⟨b,ys,rfl,hy,hb⟩:=is_tup.mp i2
    obtain ⟨its2,r2,t2,_⟩:=I.tuple (.of hy)
    cases q2
    rw [(wx f1).1]
    exact (wJ f1 q1 t2 hA).1.1
   ·obtain ⟨b,ys,rfl,hy,hb⟩:=is_lst.mp i2
    obtain ⟨its2,r2,t2,_⟩:=I.list (.of hy)
    cases q2
    rw [(wx f1).2.2.1]
    exact (wK f1 q1 t2.isList hA).1.1
  ·cases z
   rcases hk with rfl | rfl
   ·obtain ⟨a,xs,rfl,hx,ha⟩:=is_tup.mp i1
    obtain ⟨its,r1,t1,_⟩:=I.tuple (.of hx)
    cases q1
    rcases yW h2 with f2 | ⟨m,es,z,rfl | rfl,he⟩
    ·rw [zO f2 i2] at q2
     rw [(wx f2).2.1]
     exact (wJ f2 q2 t1 hA).1.2
    ·cases z
     have i2':=i2
     obtain ⟨b,ys,rfl,hy,hb⟩:=is_tup.mp i2
     obtain ⟨its2,r2,t2,_⟩:=I.tuple (.of hy)
     cases q2
     by_cases hab:a=b
     ·subst hab
      rw [nD _ h1 h2 i1 i2']
      exact SeqAt.EqAt.same _
     ·have q:=SeqAt.RcAt.tuples t1 t2 hA (vi (fun {d e x y v u}=>ih (A:=A.in1) hu') hd he ha hb r1 r2)
      rw [List.size_toArray,List.size_toArray,← r1.length,← r2.length,← ha.length,← hb.length,y6] at q
      rw [vn]
      exact .of_refs hab q
    ·obtain ⟨b,ys,rfl,hy,hb⟩:=is_lst.mp i2
     obtain ⟨its2,r2,t2,_⟩:=I.list (.of hy)
     cases q2
     exact SeqAt.EqAt.tuple_list t1 t2.isList hA
   ·obtain ⟨a,xs,rfl,hx,ha⟩:=is_lst.mp i1
    obtain ⟨its,r1,t1,_⟩:=I.list (.of hx)
    cases q1
    rcases yW h2 with f2 | ⟨m,es,z,rfl | rfl,he⟩
    ·rw [zO f2 i2] at q2
     rw [(wx f2).2.2.2]
     exact (wK f2 q2 t1.isList hA).1.2
    ·obtain ⟨b,ys,rfl,hy,hb⟩:=is_tup.mp i2
     obtain ⟨its2,r2,t2,_⟩:=I.tuple (.of hy)
     cases q2
     exact SeqAt.EqAt.list_tuple t1.isList t2 hA
    ·cases z
     have i2':=i2
     obtain ⟨b,ys,rfl,hy,hb⟩:=is_lst.mp i2
     obtain ⟨its2,r2,t2,_⟩:=I.list (.of hy)
     cases q2
     by_cases hab:a=b
     ·subst hab
      rw [nD _ h1 h2 i1 i2']
      exact SeqAt.EqAt.same _
     ·rw [uI]
      have l1:=ha.length.trans r1.length
      have l2:=hb.length.trans r2.length
      by_cases hl:ds.length=es.length
      ·have q:=SeqAt.RcAt.lists t1.isList t2.isList (by rw [List.size_toArray,List.size_toArray]; omega) hA (vi (fun {d e x y v u}=>ih (A:=A.in1) hu') hd he ha hb r1 r2)
       rw [List.size_toArray,← l1,pe hl] at q
       exact .of_refs hab q
      ·have q:=SeqAt.RcAt.lists_lengths t1.isList t2.isList (by rw [List.size_toArray,List.size_toArray,bne_iff_ne]; omega) hA
       rw [sW hl]
       exact .of_refs hab q
theorem eT (I:Inv X pins σ H s) {n:Nat} {A:Around} {d e:Dt} {x y:V} {v u:Value} (hu:A.units+(n+1)<cLine) (h1:okE (n+1) d=true) (h2:okE (n+1) e=true) (i1:Is X.K H d x) (i2:Is X.K H e y) (q1:RelV x v) (q2:RelV y u):
  SeqAt.RcAt A s v u (eqD d e)∧SeqAt.RcNeAt A s v u (!eqD d e):=by
 have hA:A.units<cLine:=by omega
 have hu':A.in1.units+n<cLine:=by show A.units+1+n<cLine; omega
 have ih:=fun {d e:Dt} {x y:V} {v u:Value}=>WI I n (A:=A.in1) (d:=d) (e:=e) (x:=x) (y:=y) (v:=v) (u:=u) hu'
 rcases yW h1 with f1 | ⟨m,ds,z,hk,hd⟩
 ·rw [zO f1 i1] at q1
  rcases yW h2 with f2 | ⟨m,es,z,rfl | rfl,he⟩
  ·rw [zO f2 i2] at q2
   exact fM f1 f2 q1 q2
  ·obtain ⟨b,ys,rfl,hy,hb⟩:=is_tup.mp i2
   obtain ⟨its2,r2,t2,_⟩:=I.tuple (.of hy)
   cases q2
   rw [(wx f1).1]
   exact (wJ f1 q1 t2 hA).2.1
  ·obtain ⟨b,ys,rfl,hy,hb⟩:=is_lst.mp i2
   obtain ⟨its2,r2,t2,_⟩:=I.list (.of hy)
   cases q2
   rw [(wx f1).2.2.1]
   exact (wK f1 q1 t2.isList hA).2.1
 ·cases z
  rcases hk with rfl | rfl
  ·obtain ⟨a,xs,rfl,hx,ha⟩:=is_tup.mp i1
   obtain ⟨its,r1,t1,_⟩:=I.tuple (.of hx)
   cases q1
   rcases yW h2 with f2 | ⟨m,es,z,rfl | rfl,he⟩
   ·rw [zO f2 i2] at q2
    rw [(wx f2).2.1]
    exact (wJ f2 q2 t1 hA).2.2
   ·cases z
    obtain ⟨b,ys,rfl,hy,hb⟩:=is_tup.mp i2
    obtain ⟨its2,r2,t2,_⟩:=I.tuple (.of hy)
    cases q2
    have it:=vi (A:=A.in1) ih hd he ha hb r1 r2
    have q:=SeqAt.RcAt.tuples t1 t2 hA it
    have q':=SeqAt.RcNeAt.tuples t1 t2 hA it
    rw [List.size_toArray,List.size_toArray,← r1.length,← r2.length,← ha.length,← hb.length,y6] at q q'
    rw [vn]
    exact ⟨q,q'⟩
   ·obtain ⟨b,ys,rfl,hy,hb⟩:=is_lst.mp i2
    obtain ⟨its2,r2,t2,_⟩:=I.list (.of hy)
    cases q2
    exact ⟨SeqAt.RcAt.tuple_list t1 t2.isList hA,SeqAt.RcNeAt.tuple_list t1 t2.isList hA⟩
  ·obtain ⟨a,xs,rfl,hx,ha⟩:=is_lst.mp i1
   obtain ⟨its,r1,t1,_⟩:=I.list (.of hx)
   cases q1
   rcases yW h2 with f2 | ⟨m,es,z,rfl | rfl,he⟩
   ·rw [zO f2 i2] at q2
    rw [(wx f2).2.2.2]
    exact (wK f2 q2 t1.isList hA).2.2
   ·obtain ⟨b,ys,rfl,hy,hb⟩:=is_tup.mp i2
    obtain ⟨its2,r2,t2,_⟩:=I.tuple (.of hy)
    cases q2
    exact ⟨SeqAt.RcAt.list_tuple t1.isList t2 hA,SeqAt.RcNeAt.list_tuple t1.isList t2 hA⟩
   ·cases z
    obtain ⟨b,ys,rfl,hy,hb⟩:=is_lst.mp i2
    obtain ⟨its2,r2,t2,_⟩:=I.list (.of hy)
    cases q2
    rw [uI]
    have l1:=ha.length.trans r1.length
    have l2:=hb.length.trans r2.length
    by_cases hl:ds.length=es.length
    ·have it:=vi (A:=A.in1) ih hd he ha hb r1 r2
     have q:=SeqAt.RcAt.lists t1.isList t2.isList (by rw [List.size_toArray,List.size_toArray]; omega) hA it
     have q':=SeqAt.RcNeAt.lists t1.isList t2.isList (by rw [List.size_toArray,List.size_toArray]; omega) hA it
     rw [List.size_toArray,← l1,pe hl] at q q'
     exact ⟨q,q'⟩
    ·have q:=SeqAt.RcAt.lists_lengths t1.isList t2.isList (by rw [List.size_toArray,List.size_toArray,bne_iff_ne]; omega) hA
     have q':=SeqAt.RcNeAt.lists_lengths t1.isList t2.isList (by rw [List.size_toArray,List.size_toArray,bne_iff_ne]; omega) hA
     rw [sW hl]
     exact ⟨q,q'⟩
def gEq:Dt→Dt→(Dt→Prop)→Prop:=fun d e Q=>okE 40 d=true∧okE 40 e=true∧Q (.bl (eqD d e))
def gNe:Dt→Dt→(Dt→Prop)→Prop:=fun d e Q=>okE 40 d=true∧okE 40 e=true∧Q (.bl (!eqD d e))
theorem yr {k:Nat} (hr:Room k X.A):DOp X (compareOp .Eq) gEq:=by
 refine ⟨fun x y H Q=>∃ d e,Is X.K H d x∧Is X.K H e y∧okE 40 d=true∧okE 40 e=true∧Q (.bl (eqD d e)) H,fun pins s σ H x y v u Q I rx ry h=>?_,fun H x y d e Q i1 i2 q R k=>⟨d,e,Is.mono0 H.sub i1,Is.mono0 H.sub i2,q.1,q.2.1,k _ _ H (Le.refl H) (is_bl.mpr rfl) q.2.2⟩⟩
 obtain ⟨d,e,i1,i2,h1,h2,q⟩:=h
 have hu:=hr.units
 exact (eT (n:=39) I (A:=X.A) (by omega) h1 h2 i1 i2 rx ry).1 _ _ _ _ ⟨.bl _,H,I,rfl,q⟩
theorem rQ {k:Nat} (hr:Room k X.A):DOp X (compareOp .NotEq) gNe:=by
 refine ⟨fun x y H Q=>∃ d e,Is X.K H d x∧Is X.K H e y∧okE 40 d=true∧okE 40 e=true∧Q (.bl (!eqD d e)) H,fun pins s σ H x y v u Q I rx ry h=>?_,fun H x y d e Q i1 i2 q R k=>⟨d,e,Is.mono0 H.sub i1,Is.mono0 H.sub i2,q.1,q.2.1,k _ _ H (Le.refl H) (is_bl.mpr rfl) q.2.2⟩⟩
 obtain ⟨d,e,i1,i2,h1,h2,q⟩:=h
 have hu:=hr.units
 exact (eT (n:=39) I (A:=X.A) (by omega) h1 h2 i1 i2 rx ry).2 _ _ _ _ ⟨.bl _,H,I,rfl,q⟩
end
end OD
namespace OD
open PySem PySem.Spec PyProof.Rows L2
section
variable {X:Cx} {pins:List (Addr × Obj)} {σ:St} {H:Hp} {s:Shared} {scope:Scope} {x:Str} {fp:List Addr}
end
end OD
namespace OD
variable {Z:Hp}
open PySem PySem.Spec PyProof.Rows L2
section
variable {X:Cx} {pins:List (Addr × Obj)} {σ:St} {H:Hp} {s:Shared} {h':Heap}
theorem da {ch:List Addr} (hn:∀ b∈ch,qh X pins H b):∀ b∈ch,(b∈X.ex∨X.s₀.heap.objs.size≤b)∧b≠X.env.locals∧(∀ x c,X.env.cells.lookup x=some c→c≠b)∧∀ p∈X.pn++pins,p.1≠b:=fun b hb=>by
 obtain ⟨_,h2,_,h4,h5,h6⟩:=hn b hb
 exact ⟨h4,h2,h5,h6⟩
theorem oE {ch:List Addr} {t':Nat} (I:Inv X pins σ H s) (hn:∀ b∈ch,qh X pins H b) (k:∀ b o,b∉ch→s.heap.get? b=some o→h'.get? b=some o):Inv X pins σ H { s with heap:=h',toks:=t' }:=by
 have nit:∀ b u,H b=some u→b∉ch:=fun b u e z=>by rw [(hn b z).1] at e; cases e
 refine I.step (g':=s.gens) (d':=s.drawn) (ch:=ch) (da hn) (fun b o _ _ hc e _=>k b o hc e) (fun b o _ _ hc e _=>⟨o.slots,k b o hc e⟩) (fun _ _ _ _ n=>n)
  (fun b o hc e=>⟨o,k b o hc e⟩) (fun _ _ e=>e) (fun _ _ _ e=>e) (fun b ps e=>⟨#[],by rw [e]; simp⟩) (fun m hm=>?_) (fun b u e=>?_) I.bare
 ·obtain ⟨o,es,ep,ho,r⟩:=hm
  exact ⟨o,es,ep,k _ o (fun z=>(hn _ z).2.1 rfl) ho,r⟩
 ·refine (I.hok b u e).stay (fun c v hc q=>k c v ?_ q) (fun _ q=>q) fun _ _ q=>q
  rcases hc with z | z
  ·rw [z]; exact nit b u e
  ·exact nit c _ z
theorem qT {ch:List Addr} {t':Nat} {T:Addr} {xs:List V} (I:Inv X pins σ H s) (hn:∀ b∈ch,qh X pins H b) (k:∀ b o,b∉ch→s.heap.get? b=some o→h'.get? b=some o) (hT:s.heap.objs.size≤T)
  (new:ObjOk X.prog X.w (upd H T (.tup xs)) h' T (.tup xs)):Inv X pins σ (upd H T (.tup xs)) { s with heap:=h',toks:=t' }:=by
 have nit:∀ b u,H b=some u→b∉ch:=fun b u e z=>by rw [(hn b z).1] at e; cases e
 have fT:H T=none:=I.hok.fresh hT
 have old:∀ b o,s.heap.get? b=some o→b≠T:=fun b o e=>Nat.ne_of_lt (Nat.lt_of_lt_of_le (Heap.lt_size e) hT)
 have up:∀ b u,H b=some u→upd H T (.tup xs) b=some u:=fun b u e=>(zw (zS e fT)).trans e
 refine I.step (g':=s.gens) (d':=s.drawn) (ch:=ch) (da hn) (fun b o _ _ hc e _=>k b o hc e) (fun b o _ _ hc e _=>⟨o.slots,k b o hc e⟩) (fun b o _ e n=>(zw (old b o e)).trans n)
  (fun b o hc e=>⟨o,k b o hc e⟩) (fun b xs e=>up b _ e) (fun b o u e=>up b _ e) (fun b ps e=>⟨#[],by rw [up b _ e]; simp⟩) (fun m hm=>?_) (fun b u e=>?_) I.bare
 ·obtain ⟨o,es,ep,ho,r⟩:=hm
  exact ⟨o,es,ep,k _ o (fun z=>(hn _ z).2.1 rfl) ho,r⟩
 ·by_cases hb:b=T
  ·subst hb
   rw [zu] at e
   cases e
   exact new
  ·rw [zw hb] at e
   refine (I.hok b u e).stay (fun c v hc q=>k c v ?_ q) (fun c q=>up c _ q) fun c ys q=>up c _ q
   rcases hc with z | z
   ·rw [z]; exact nit b u e
   ·exact nit c _ z
end
section
variable {X:Cx}
end
section
variable {X:Cx} {fr:Fr} {ta:DTA} {tb:DTS} {pos:Pos}
theorem kx {K:PySem.W.Frag} {W1:Vw} {d:Dt} {v:V} {ds:List Dt} (i1:Is K W1.g d v) (el:w4 d=some ds):∃ a xs,v=.ref a∧(∀ W2:Vw,Same W1.g W2.g→SqL K W2.h a xs)∧AllIs K W1.g ds xs:=by
 cases d with
 | lst es=>
  obtain rfl:es=ds:=Option.some.inj el
  obtain ⟨a,xs,rfl,h1,h2⟩:=is_lst.mp i1
  exact ⟨a,xs,rfl,fun W2 s2=>.of (W2.sub _ _ (s2 _ _ h1)),h2⟩
 | scr ns=>
  obtain rfl:ns.map Dt.int=ds:=Option.some.inj el
  obtain ⟨a,rfl,h1⟩:=is_scr.mp i1
  exact ⟨a,_,rfl,fun W2 s2=>W2.sub.seq (s2.seq h1),AllIs.ints⟩
 | _=>cases el
def Wv (K:PySem.W.Frag) (t:DTE):TE:=fun σ H R=>∃ (F:Hp) (ρ:DS) (W:Vw) (Q:Dt→Prop),W.h=H∧Rl K (fun _=>none) F W ρ σ∧t ρ Q∧∀ d v W',Le W W'→Is K W'.g d v→Q d→R v W'.h
theorem DE.up {e:Expr} {t:DTE} (h:DE X e t) (hz:X.stack.length=X.outer.length:=by rfl):PE X e (Wv X.K t):=by
 obtain ⟨te,p,l⟩:=h
 intro pins s σ H R I q
 obtain ⟨F,ρ,W,Q,rfl,r,h,k⟩:=q
 have r':Rl X.K (Zx X) F W ρ σ:=by unfold Zx; rw [if_pos (Or.inl hz)]; exact r
 exact p pins s σ W.h R I (l ρ σ W Q r' h R k)
theorem LiF.le {K:PySem.W.Frag} {te:TE} {t:DTE} (l:LiF K Z te t):LiE K Z te t:=fun ρ σ H Q r h R k=>l ρ σ H Q r h R fun es q xs H' s h0 h1 h2 i z=>k (.lst es) (.ref q) (H'.frz q _ h1) (vV s h0 h1 h2) (is_lst.mpr ⟨q,xs,rfl,zu,AllIs.mono0 (zI h2 _) i⟩) z
variable {scope:Scope} {x:Str} {elt iter:Expr} {px:Pos} {tl te:DTE}
end
end OD
namespace OD
variable {Z:Hp}
open PySem PySem.Spec PyProof.Rows L2
def Ite (K:PySem.W.Frag) (l:Addr):It:=
 ⟨fun i H=>∃ xs x,SqL K H l xs∧xs[i]? = some x,
  fun i H v H'=>∃ T x,v=.ref T∧H T=none∧H'=upd H T (.tup [.int i,x])∧∀ xs,SqL K H l xs→xs[i]? = some x,
  fun i H=>∃ xs,SqL K H l xs∧xs.length≤i⟩
def dJ (l e it:Addr) (i:Nat) (h:Heap):Prop:=(∃ old,IsEnum h e it (i:Int) old)∧h.IsListIter it l i
theorem n5 {P:Program} {w:World} {K:PySem.W.Frag} {elts:List Expr} {x1} {tpos:Pos} (l e it:Addr) (hne:e≠it):jv P w K (.Tuple elts x1 tpos) (Ite K l) [e,it] e (dJ l e it) where
 mem:=by simp
 obj:=fun i h ⟨⟨old,h1⟩,⟨o4,e4,c4,d4⟩⟩ b hb=>by
  simp only [List.mem_cons,List.not_mem_nil,or_false] at hb
  rcases hb with rfl | rfl
  ·exact ⟨_,h1,fun v z=>by cases z⟩
  ·exact ⟨_,e4,fun v z=>by rw [d4] at z; cases z⟩
 keep:=fun i h h' ⟨⟨old,h1⟩,⟨o4,e4,c4⟩⟩ k=>⟨⟨old,k e (by simp) _ h1⟩,⟨o4,k it (by simp) _ e4,c4⟩⟩
 item:=fun X hP hw hK hc i pins s σ H E I hfp ⟨⟨old,h1⟩,h4⟩ ⟨xs,x,q1,e1⟩=>by
  subst hP hw hK
  obtain ⟨its1,r1,p1,z1⟩:=I.list q1
  obtain ⟨u,eu,ru⟩:=r1.get e1
  refine wpAny_pyNext_enum_item h1 h4 p1.isList (x:=u) (by simpa using eu) hne fun h' a1 a2 a3 a4 a5=>?_
  refine ⟨_,rfl,wpAny_letOwnedTupleGo_enum a1 fun h'' b1 b2=>?_⟩
  have ne:∀ b∈[e,it],b≠s.heap.objs.size:=fun b hb=>by
   simp only [List.mem_cons,List.not_mem_nil,or_false] at hb
   obtain ⟨o4,e4,_⟩:=id h4
   rcases hb with rfl | rfl
   ·exact Nat.ne_of_lt (Heap.lt_size h1)
   ·exact Nat.ne_of_lt (Heap.lt_size e4)
  have en:e≠s.heap.objs.size:=ne e (by simp)
  have aT:=b2.extBut _ _ (Ne.symm en) a3
  have I':Inv X pins σ (upd H s.heap.objs.size (.tup [.int i,x])) { s with heap:=h'',toks:=s.toks+1 }:=qT (ch:=[e,it]) (t':=s.toks+1) I hfp (fun b o hb q=>by
    simp only [List.mem_cons,List.not_mem_nil,or_false,not_or] at hb
    exact b2.extBut b o hb.1 (a5 b o hb.1 hb.2 q)) (Nat.le_refl _) ⟨by show 2≤sizeLine; rw [sizeLine_eq]; decide,[.int i s.toks,u],.cons ⟨_,rfl⟩ (.cons ru .nil),_,aT,rfl,_,rfl⟩
  refine ⟨.ref s.heap.objs.size,_,I',rfl,⟨_,x,rfl,I.fresh,rfl,fun xs' q=>?_⟩,⟨⟨u,?_⟩,a2.extBut b2.extBut (Ne.symm hne)⟩,fun b hb=>?_⟩
  ·rw [I.list_inj q q1]; exact e1
  ·have:((i+1:Nat):Int)=(i:Int)+1:=by omega
   show IsEnum h'' e it ((i+1:Nat):Int) u
   rw [this]
   exact b1
  ·exact (zw (ne b hb)).trans (hfp b hb).1
 done:=fun X hP hw hK hc i pins s σ H E I hfp ⟨⟨old,h1⟩,h4⟩ ⟨xs,q1,e1⟩=>by
  subst hP hw hK
  obtain ⟨its1,r1,p1,z1⟩:=I.list q1
  refine wpAny_pyNext_enum_end (I.ok.hd hc) h1 h4 p1.isList ?_ fun h' hk=>⟨rfl,?_⟩
  ·have:=r1.length
   simp; omega
  ·exact oE (ch:=[e,it]) (t':=s.toks) I hfp fun b o hb q=>by
    simp only [List.mem_cons,List.not_mem_nil,or_false,not_or] at hb
    exact hk b o hb.2 q
 self:=fun A i s Q E ⟨⟨old,h1⟩,_⟩ q=>wpAny_pyIter_enum h1 q
def WE (K:PySem.W.Frag) (ta:TA):TI:=fun σ H R=>ta σ H fun vs H1=>∃ l xs,vs=[.ref l]∧SqL K H1 l xs∧R (Ite K l) H1
section
variable {X:Cx}
theorem mW:bootBuiltins "enumerate"=some (.type "enumerate"):=by decide +kernel
theorem j5 {a:Expr} {ta:TA} {p pos:Pos} {elts:List Expr} {x1} {tpos:Pos} (hg:Gl X "enumerate") (hm:X.mg "enumerate"=none) (ha:PA X [a] ta) (hs:starEach [a] X.env=(false,eval a X.env)::starEach [] X.env:=by rfl)
  (hpl:(backTo pos (starEach [] X.env)).any (·.1)=false:=by rfl):PI X (.Tuple elts x1 tpos) (.Call (.Name "enumerate" p) [a] [] pos) (WE X.K ta):=by
 intro pins s σ H R I h
 refine Call_ (wr I hg hm mW (PyProof.Rows.callWith_type1 (thn (ha pos pins s σ H _ I h) fun us s1 ⟨vs,H1,I1,r1,q1⟩=>?_) hs hpl))
 obtain ⟨l,xs,e,q1,q⟩:=q1
 subst e
 obtain ⟨u,rfl,ru⟩:=r1.one
 cases ru
 obtain ⟨its1,r1,p1,z1⟩:=I1.list q1
 refine call_enumerate_list p1.isList fun h' b1 b2 b3 b4=>?_
 have I2:Inv X pins σ H1 { s1 with heap:=h' }:=I1.kept (t':=s1.toks) b4
 refine wpAny_pyIter_enum b1 ⟨s1.heap.objs.size+1,[s1.heap.objs.size+1,s1.heap.objs.size],_,_,H1,rfl,I2,n5 l (s1.heap.objs.size+1) s1.heap.objs.size (Nat.succ_ne_self _),⟨⟨_,b1⟩,b2⟩,fun b hb=>?_,q⟩
 have hb':s1.heap.objs.size≤b:=by
  simp only [List.mem_cons,List.not_mem_nil,or_false] at hb
  rcases hb with rfl | rfl
  ·exact Nat.le_add_right _ _
  ·exact Nat.le_refl _
 have f:=I1.fpOk hb' (I1.hok.fresh hb')
 exact f
theorem kJ {K:PySem.W.Frag} {l:Addr} {xs:List V} {g:TG} {tb:TS} {D:Ends} {σ:St} {H:Hp} (Pv:Nat→St→Hp→Prop) (h0:Pv 0 σ H) (hl:∀ i σ H,Pv i σ H→SqL K H l xs)
  (hs:∀ (i:Nat) x T σ H,xs[i]? = some x→H T=none→Pv i σ H→g (.ref T) σ (upd H T (.tup [.int i,x])) fun σ2 H2=>tb { D with nx:=Pv (i+1),ct:=Pv (i+1),bk:=D.nx } σ2 H2) (hd:∀ σ H,Pv xs.length σ H→D.nx σ H):
  ∃ W:Nat→Nat→St→Hp→Prop,(∃ m,W 0 m σ H)∧∀ i m σ H,W i m σ H→
   ((Ite K l).stop i H∧D.nx σ H)∨((Ite K l).go i H∧∃ N:St→Hp→Prop,(∀ σ' H',N σ' H'→∃ m',m'<m∧W (i+1) m' σ' H')∧∀ x H',(Ite K l).yld i H x H'→g x σ H' fun σ2 H2=>tb { D with nx:=N,ct:=N,bk:=D.nx } σ2 H2):=by
 refine ⟨fun i m σ H=>m=xs.length - i∧i≤xs.length∧Pv i σ H,⟨_,rfl,Nat.zero_le _,h0⟩,?_⟩
 rintro i m σ H ⟨rfl,hi,p⟩
 have q1:=hl i σ H p
 by_cases hlt:i<xs.length
 ·have g1:xs[i]? = some xs[i]:=List.getElem?_eq_getElem hlt
  refine .inr ⟨⟨xs,xs[i],q1,g1⟩,Pv (i+1),fun σ' H' p'=>⟨xs.length - (i+1),by omega,rfl,hlt,p'⟩,fun v H' y=>?_⟩
  obtain ⟨T,x,rfl,hT,rfl,e1⟩:=y
  exact hs i x T σ H (e1 xs q1) hT p
 ·have e:i=xs.length:=by omega
  subst e
  exact .inl ⟨⟨xs,q1,Nat.le_refl _⟩,hd σ H p⟩
end
section
variable {X:Cx} {fr:Fr} {ta:DTA} {tb:DTS} {pos p0 p1 p2:Pos}
def W9 (i j:Nat) (ta:DTA) (tb:DTS):DTS:=fun D ρ=>ta ρ fun ds=>∃ (d:Dt) (xs:List Dt) (Pv:Nat→DS→Prop),ds=[d]∧w4 d=some xs∧Pv 0 ρ∧
 (∀ (n:Nat) x ρ',xs[n]? = some x→Pv n ρ'→tb { D with nx:=Pv (n+1),ct:=Pv (n+1),bk:=D.nx } ((ρ'.set i (.some (.int n))).set j (.some x)))∧∀ ρ',Pv xs.length ρ'→D.nx ρ'
theorem ua {i j:Nat} {x y:Str} {a:Expr} {body:List Stmt} {px py pt p0 pos1:Pos} {kt:Nat} (hc:X.calm=true) (hN:X.N.Nodup) (hi:X.N[i]? = some x) (hj:X.N[j]? = some y) (hx:Loc X.env.scope x) (hy:Loc X.env.scope y) (hp:PassesOwn (model X.prog X.w) X.A X.env X.xe)
  (hg:Gl X "enumerate") (hm:X.mg "enumerate"=none) (ha:DA X [a] ta) (hb:DSs X fr body tb) (hs:∀ z,foldedSetIterable (.Call (.Name "enumerate" p0) [a] [] pos1) X.env z=pure z:=by intro _; rfl)
  (hst:starEach [a] X.env=(false,eval a X.env)::starEach [] X.env:=by rfl) (hpl:(backTo pos1 (starEach [] X.env)).any (·.1)=false:=by rfl)
  (hf:X.fn x=true∨X.env.scope.names.lookup x=some .local:=by first | exact .inl rfl | exact .inr rfl | assumption) (hf2:X.fn y=true∨X.env.scope.names.lookup y=some .local:=by first | exact .inl rfl | exact .inr rfl | assumption):
  DSt X fr (.For (.Tuple [.Name x px,.Name y py] kt pt) (.Call (.Name "enumerate" p0) [a] [] pos1) body [] pos) (W9 i j ta tb):=by
 obtain ⟨tt,p,l⟩:=ha
 obtain ⟨tbs,p2,l2⟩:=hb
 refine ⟨_,vN hp hc (j5 hg hm p hst hpl) (p9 hc (xu (yG hN hi hx hf) (xu (yG hN hj hy hf2) rF))) p2 hs,fun W0 G ρ σ W D D' at_ s h=>l ρ σ W _ at_.rl h _ fun ds vs W1 s1 i1 ⟨d,xs,Pv,ed,el1,h0,ht,hd⟩=>?_⟩
 subst ed
 obtain ⟨v1,rfl,j1⟩:=i1.one
 have hg1:Same G W1.g:=at_.gs.trans s1.g
 obtain ⟨l1,us,rfl,hq1,ha1⟩:=kx j1 el1
 refine ⟨l1,us,rfl,hq1 W1 (Same.refl _),kJ (K:=X.K) (xs:=us) (fun n=>InL X.K (Zx X) W0 W1 (Pv n)) ⟨ρ,W1,rfl,(at_.step s1).now,h0⟩ (fun n σ' H' ⟨_,W2,e2,a2,_⟩=>e2 ▸ hq1 W2 a2.gs) ?_ ?_⟩
 ·rintro n u T σ' _ hu hT ⟨ρ',W2,rfl,a2,hp2⟩
  obtain ⟨x',ex,ix⟩:=ha1.get' hu
  have s3:=vU hT (.tup [.int n,u])
  have a3:=a2.step s3
  refine ⟨T,_,rfl,.of zu,rfl,.int n,[u],rfl,u,[],rfl,rfl,?_⟩
  exact l2 W0 W1.g _ _ (W2.new T (.tup [.int n,u])) { D with nx:=Pv (n+1),ct:=Pv (n+1),bk:=D.nx } _ ((a3.set i (is_int.mpr rfl)).set j (Is.mono0 a3.gs ix)) (yV s hg1) (ht n x' ρ' ex hp2)
 ·rintro σ' _ ⟨ρ',W2,rfl,a2,hp2⟩
  exact s.nx ρ' σ' W2 (a2.weak hg1) (hd ρ' (by rw [ha1.length]; exact hp2))
theorem kZ {j:Nat} {x:Str} {a b:Expr} {body:List Stmt} {px p0 pos1:Pos} (hc:X.calm=true) (hN:X.N.Nodup) (hi:X.N[j]? = some x) (hx:Loc X.env.scope x) (hp:PassesOwn (model X.prog X.w) X.A X.env X.xe)
  (hg:Gl X "range") (hm:X.mg "range"=none) (h:DA X [a,b] ta) (hb:DSs X fr body tb) (hs:∀ x,foldedSetIterable (.Call (.Name "range" p0) [a,b] [] pos1) X.env x=pure x:=by intro _; rfl)
  (hst:starEach [a,b] X.env=[(false,eval a X.env),(false,eval b X.env)]:=by rfl) (hst2:starEach [b] X.env=[(false,eval b X.env)]:=by rfl)
  (hf:X.fn x=true∨X.env.scope.names.lookup x=some .local:=by first | exact .inl rfl | exact .inr rfl | assumption):DSt X fr (.For (.Name x px) (.Call (.Name "range" p0) [a,b] [] pos1) body [] pos) (YG j ta tb):=by
 obtain ⟨tt,p,l⟩:=h
 obtain ⟨tbs,p2,l2⟩:=hb
 refine ⟨_,vN hp hc (mr hg hm p hst hst2) (yG hN hi hx hf) p2 hs,fun W0 G ρ σ W D D' at_ s h=>l ρ σ W _ at_.rl h _ fun ds vs W1 s1 i1 ⟨m,n,Pv,ed,m1,m2,n1,n2,h0,ht,hd⟩=>?_⟩
 subst ed
 obtain ⟨v1,v2,rfl,j1,j2⟩:=i1.two
 have hg1:Same G W1.g:=at_.gs.trans s1.g
 refine ⟨m,n,by rw [is_int.mp j1,is_int.mp j2],⟨m1,m2,n1,n2⟩,sT (lo:=m) (n:=(n - m).toNat) (fun i=>InL X.K (Zx X) W0 W1 (Pv i)) ⟨ρ,W1,rfl,(at_.step s1).now,h0⟩ ?_ ?_⟩
 ·rintro i σ' _ hi ⟨ρ',W2,rfl,a2,hp2⟩
  exact l2 W0 W1.g _ _ W2 { D with nx:=Pv (i+1),ct:=Pv (i+1),bk:=D.nx } _ (a2.set j (is_int.mpr rfl)) (yV s hg1) (ht i ρ' hi hp2)
 ·rintro σ' _ ⟨ρ',W2,rfl,a2,hp2⟩
  exact s.nx ρ' σ' W2 (a2.weak hg1) (hd ρ' hp2)
def Um (ta:DTA):DTE:=fun ρ Q=>ta ρ fun ds=>∃ i j,ds=[.int i,.int j]∧Q (.int (if j<i then j else i))
theorem ji {a b:Expr} (hc:X.calm=true) (hg:Gl X "min") (hm:X.mg "min"=none) (ha:DA X [a,b] ta) (hs:starEach [a,b] X.env=(false,eval a X.env)::starEach [b] X.env:=by rfl) (hpl:(backTo pos (starEach [b] X.env)).any (·.1)=false:=by rfl):
  DE X (.Call (.Name "min" p0) [a,b] [] pos) (Um ta):=by
 obtain ⟨te,p1,l1⟩:=ha
 refine ⟨_,yK (mS hc) hg hm (by decide +kernel) p1 (by decide) (by decide) hs hpl,fun ρ σ H Q r h R k=>l1 ρ σ H _ r h _ fun ds vs H1 s1 i1 ⟨i,j,ed,q⟩=>?_⟩
 subst ed
 obtain ⟨v1,v2,rfl,j1,j2⟩:=i1.two
 exact ⟨i,j,by rw [is_int.mp j1,is_int.mp j2],k _ _ H1 s1 (is_int.mpr rfl) q⟩
def Ux (ta:DTA):DTE:=fun ρ Q=>ta ρ fun ds=>∃ i,ds=[.int i]∧Q (.int (if i<0 then -i else i))
theorem Yz {a:Expr} (hg:Gl X "abs") (hm:X.mg "abs"=none) (ha:DA X [a] ta) (hs:starEach [a] X.env=(false,eval a X.env)::starEach [] X.env:=by rfl) (hpl:(backTo pos (starEach [] X.env)).any (·.1)=false:=by rfl):
  DE X (.Call (.Name "abs" p0) [a] [] pos) (Ux ta):=by
 obtain ⟨te,p1,l1⟩:=ha
 refine ⟨_,yK jt hg hm (by decide +kernel) p1 (by decide) (by decide) hs hpl,fun ρ σ H Q r h R k=>l1 ρ σ H _ r h _ fun ds vs H1 s1 i1 ⟨i,ed,q⟩=>?_⟩
 subst ed
 obtain ⟨v1,rfl,j1⟩:=i1.one
 exact ⟨i,by rw [is_int.mp j1],k _ _ H1 s1 (is_int.mpr rfl) q⟩
structure uk (K:PySem.W.Frag) (C:Addr):Prop where
 cl:Cls K C
 ha:PySem.W.findIn K (.ref C) "__class__"=some (some (.builtin "object.__class__"))
 hn:PySem.W.specialIn K (.builtin "object.__class__") "__get__"=some (some (.builtin "getset_descriptor.__get__"))
 htk:PySem.W.takesIn K (.builtin "object.__class__")=some true
 hm:PySem.W.mroIn K C (.type "object")=some true
theorem mU:CallR X (.builtin "isinstance") (fun xs H Q=>∃ v D tv b,xs=[v,.ref D]∧vb X.K H v tv∧PySem.W.kitOne X.K tv (.ref D)=some b∧Q (.bl b) H):=by
 intro pins s σ H xs us Q I r h
 obtain ⟨v,D,tv,b,rfl,hty,hk,q⟩:=h
 cases r with
 | cons r1 r2=>
  cases r2 with
  | cons r3 r4=>
   cases r4
   cases r3
   exact sR I r1 hty hk fun tk=>⟨.bl b,H,I.tok _,rfl,q⟩
def W5 (K:PySem.W.Frag) (D:Addr) (ta:DTE):DTE:=fun ρ Q=>ta ρ fun d=>∃ C f n b,d=.way C f n∧uk K C∧PySem.W.kitOne K (.ref C) (.ref D)=some b∧Q (.bl b)
theorem wO {a:Expr} {t:DTE} {y:Str} {p':Pos} {D:Addr} (hm:X.mg "isinstance"=none) (hmc:X.mg y=some (.ref D)) (ha:DE X a t)
  (hg:Gl X "isinstance":=by rfl) (hgc:Gl X y:=by rfl) (hdy:(y == ("__debug__":Str))=false:=by decide)
  (hs:starEach [a,.Name y p'] X.env=(false,eval a X.env)::starEach [.Name y p'] X.env:=by rfl) (hs2:starEach [.Name y p'] X.env=(false,eval (.Name y p') X.env)::starEach [] X.env:=by rfl)
  (hpl:(backTo pos (starEach [.Name y p'] X.env)).any (·.1)=false:=by rfl):
  DE X (.Call (.Name "isinstance" p0) [a,.Name y p'] [] pos) (W5 X.K D t):=by
 obtain ⟨te,p1,l1⟩:=ha
 have pc:PE X (.Name y p') (tC (.ref D)):=j9 hgc hmc rfl hdy
 refine ⟨_,yK mU hg hm boot_isinstance (zE p1 (zE pc yf hs2) hs) (by decide) (by decide) hs hpl,fun ρ σ H Q r h R k=>l1 ρ σ H _ r h _ fun d v H1 s1 i1 ⟨C,f,n,b,ed,ok,e,q⟩=>?_⟩
 subst ed
 obtain ⟨p,dx,rfl,hp⟩:=is_way.mp i1
 exact ⟨_,D,_,b,rfl,.ins (H1.sub _ _ hp) ok.cl ok.ha ok.hn ok.htk ok.hm,e,k _ _ H1 s1 (is_bl.mpr rfl) q⟩
def Vf (i:Nat) (g:Int→Int→Int) (te:DTE):DTS:=fun D ρ=>∃ d,ρ[i]? = some (.some d)∧te ρ fun e=>∃ m n,d=.int m∧e=.int n∧D.nx (ρ.set i (.some (.int (g m n))))
theorem nI {i:Nat} {x:Str} {e:Expr} {te:DTE} {op:Operator} {g:Int→Int→Int} {pos':Pos} (ho:PIp X op (ipI g)) (hN:X.N.Nodup) (hi:X.N[i]? = some x) (hx:Loc X.env.scope x) (h:DE X e te)
  (hf:X.fn x=true∨X.env.scope.names.lookup x=some .local:=by first | exact .inl rfl | exact .inr rfl | assumption):DSt X fr (.AugAssign (.Name x pos') op e pos) (Vf i g te):=by
 obtain ⟨tt,p,l⟩:=h
 refine ⟨_,d6 hN hi hx p ho hf,fun W0 G ρ σ W D D' a s h=>?_⟩
 obtain ⟨d,ed,h⟩:=h
 obtain ⟨v,ev,iv⟩:=a.rl.at_ i d ed
 refine ⟨v,ev,l ρ σ W _ a.rl h _ fun z u W1 s1 i1 ⟨m,n,em,en,q⟩=>?_⟩
 subst em
 subst en
 exact ⟨m,n,is_int.mp iv,is_int.mp i1,s.nx _ _ W1 ((a.step s1).set i (is_int.mpr rfl)) q⟩
end
end OD
namespace OD
variable {Z:Hp}
open PySem PySem.Spec PyProof.Rows L2
def Itd (lo:Int) (n:Nat):It:=⟨fun i _=>i<n,fun i H x H'=>H'=H∧x=.int (lo - i),fun i _=>n≤i⟩
theorem n6 {P:Program} {w:World} {K:PySem.W.Frag} {tg:Expr} (it:Addr) (lo:Int) (n:Nat):jv P w K tg (Itd lo n) [it] it (fun i h=>IsRangeIter h it (lo+(i:Nat)*(-1)) ((n:Int) - (i:Nat)) (-1)) where
 mem:=by simp
 obj:=fun i h st b hb=>by
  have e:b=it:=by simpa using hb
  subst e
  exact ⟨_,st,fun v z=>by
   have z':Data.fields _=Data.cell v:=z
   cases z'⟩
 keep:=fun i h h' st k=>k it (by simp) _ st
 item:=by
  intro X hP hw hK hc i pins s σ H E I hf st hg
  subst hP hw hK
  obtain ⟨f0,f1,f2,f3,f4,f5⟩:=hf it (by simp)
  have W:=Walks.range (prog:=X.prog) (w:=X.w) (I.ok.hd hc) it lo (-1) n
  refine W.item i s _ _ hg st fun v h' tk hv st' kk=>?_
  obtain ⟨t,rfl⟩:=hv
  have I1:Inv X pins σ H { s with heap:=h',toks:=tk }:=I.turned (fun b o hb e=>kk b o (by simpa using hb) e) f0 f1 f3 f4 f5
  refine ⟨_,rfl,kF (s:={ s with heap:=h',toks:=tk }) (n:="range_iterator") st' rfl rfl (by decide) ⟨.int (lo - i),H,I1,⟨t,?_⟩,⟨rfl,rfl⟩,st',fun b hb=>(hf b hb).1⟩⟩
  rw [show lo+(i:Int)*(-1)=lo - i by omega]
 done:=by
  intro X hP hw hK hc i pins s σ H E I hf st hg
  subst hP hw hK
  obtain ⟨f0,f1,f2,f3,f4,f5⟩:=hf it (by simp)
  exact wpAny_pyNext_range_end (I.ok.hd hc) st (by have:n≤i:=hg; omega) fun h' eb=>⟨rfl,I.turned (t':=s.toks) (fun b o hb e=>eb b o hb e) f0 f1 f3 f4 f5⟩
 self:=fun _ _ _ _ _ st h=>wpAny_pyIter_rangeiter st h
theorem wm (a b:Int):Builtin.Range.rangeSize a b (-1)=if b<a then a - b else 0:=by
 unfold Builtin.Range.rangeSize
 rw [if_neg (by decide)]
 split
 ·rename_i h
  have:(a - b - 1) / (- -1)=a - b - 1:=by rw [show (- -1:Int)=1 by decide,Int.ediv_one]
  omega
 ·rfl
theorem pP {a b:Int} (ha:-(2 ^ 62)≤a) (ha':a<2 ^ 62) (hb:-(2 ^ 62)≤b) (hb':b<2 ^ 62):Builtin.Range.small a b (-1)=true:=by
 unfold Builtin.Range.small
 rw [wm]
 simp only [Builtin.Range.rangeFitsLong,Bool.and_eq_true,Bool.or_eq_true,decide_eq_true_eq,beq_iff_eq,show ¬ (-1:Int)>0 by decide,if_false]
 split <;> omega
section
variable {X:Cx} {tg:Expr}
def WF (ta:TA):TI:=fun σ H R=>ta σ H fun vs H1=>∃ i j:Int,vs=[.int i,.int j,.int (-1)]∧(-(2 ^ 30)≤i∧i<2 ^ 30∧-(2 ^ 30)≤j∧j<2 ^ 30)∧R (Itd i (i - j).toNat) H1
theorem j6 {a b c:Expr} {ta:TA} {p pos:Pos} (hg:Gl X "range") (hm:X.mg "range"=none) (ha:PA X [a,b,c] ta) (hs:starEach [a,b,c] X.env=(false,eval a X.env)::starEach [b,c] X.env:=by rfl)
  (hpl:(backTo pos (starEach [b,c] X.env)).any (·.1)=false:=by rfl):PI X tg (.Call (.Name "range" p) [a,b,c] [] pos) (WF ta):=by
 intro pins s σ H R I h
 refine Call_ (wr I hg hm boot_range (PyProof.Rows.callWith_type1 (thn (ha pos pins s σ H _ I h) fun us s1 ⟨vs,H1,I1,r1,q1⟩=>?_) hs hpl))
 obtain ⟨i,j,e,⟨q1,q2,q3,q4⟩,q⟩:=q1
 subst e
 cases r1 with
 | cons r rr=>
 cases rr with
 | cons r' rr=>
 cases rr with
 | cons r'' rr=>
  cases rr
  obtain ⟨t,rfl⟩:=r
  obtain ⟨t',rfl⟩:=r'
  obtain ⟨t'',rfl⟩:=r''
  refine call_range_3 (by decide) ?_ (Or.inl (PyProof.noPylong_small (by omega)))
  refine wpAny_pyIter_range (IsRange.new ..) (pP (by omega) (by omega) (by omega) (by omega)) ?_
  have I2:Inv X pins σ H1 { s1 with heap:=s1.heap.push { cls:=.type "range",data:=.fields #[.int i t,.int j t',.int (-1) t''] },toks:=s1.toks }:=I1.kept fun b o e=>Heap.get?_push_of_some _ e
  refine ⟨(s1.heap.push { cls:=.type "range",data:=.fields #[.int i t,.int j t',.int (-1) t''] }).objs.size,[(s1.heap.push { cls:=.type "range",data:=.fields #[.int i t,.int j t',.int (-1) t''] }).objs.size],_,_,H1,rfl,
   I2.kept (t':=s1.toks) fun b o e=>Heap.get?_push_of_some _ e,n6 _ i (i - j).toNat,?_,fun b hb=>?_,q⟩
  ·have e1:i+((0:Nat):Int)*(-1)=i:=by simp
   have e2:(((i - j).toNat:Nat):Int) - ((0:Nat):Int)=Builtin.Range.rangeSize i j (-1):=by rw [wm]; split <;> omega
   show IsRangeIter _ _ (i+((0:Nat):Int)*(-1)) ((((i - j).toNat:Nat):Int) - ((0:Nat):Int)) (-1)
   rw [e1,e2]
   exact Heap.get?_push_size _ rfl
  ·have e:b=(s1.heap.push { cls:=.type "range",data:=.fields #[.int i t,.int j t',.int (-1) t''] }).objs.size:=by simpa using hb
   subst e
   exact I2.fpOk (Nat.le_refl _) (I2.hok.fresh (Nat.le_refl _))
theorem kK {lo:Int} {n:Nat} {g:TG} {tb:TS} {D:Ends} {σ:St} {H:Hp} (Pv:Nat→St→Hp→Prop) (h0:Pv 0 σ H)
  (hs:∀ i σ H,i<n→Pv i σ H→g (.int (lo - i)) σ H fun σ2 H2=>tb { D with nx:=Pv (i+1),ct:=Pv (i+1),bk:=D.nx } σ2 H2) (hd:∀ σ H,Pv n σ H→D.nx σ H):
  ∃ W:Nat→Nat→St→Hp→Prop,(∃ m,W 0 m σ H)∧∀ i m σ H,W i m σ H→
   ((Itd lo n).stop i H∧D.nx σ H)∨((Itd lo n).go i H∧∃ N:St→Hp→Prop,(∀ σ' H',N σ' H'→∃ m',m'<m∧W (i+1) m' σ' H')∧∀ x H',(Itd lo n).yld i H x H'→g x σ H' fun σ2 H2=>tb { D with nx:=N,ct:=N,bk:=D.nx } σ2 H2):=by
 refine ⟨fun i m σ H=>m=n - i∧i≤n∧Pv i σ H,⟨n,by simp,Nat.zero_le _,h0⟩,?_⟩
 rintro i m σ H ⟨rfl,hi,p⟩
 by_cases hlt:i<n
 ·refine .inr ⟨hlt,Pv (i+1),fun σ' H' p'=>⟨n - (i+1),by omega,rfl,hlt,p'⟩,fun x H' y=>?_⟩
  obtain ⟨e,y⟩:=y
  subst e y
  exact hs i σ _ hlt p
 ·have e:i=n:=by omega
  subst e
  exact .inl ⟨Nat.le_refl _,hd σ H p⟩
variable {fr:Fr} {ta:DTA} {tb:DTS} {te:DTE} {pos p0 p1 p2:Pos}
def W_ (j:Nat) (ta:DTA) (tb:DTS):DTS:=fun D ρ=>ta ρ fun ds=>∃ (m n:Int) (Pv:Nat→DS→Prop),ds=[.int m,.int n,.int (-1)]∧-(2 ^ 30)≤m∧m<2 ^ 30∧-(2 ^ 30)≤n∧n<2 ^ 30∧Pv 0 ρ∧
 (∀ (i:Nat) ρ',i<(m - n).toNat→Pv i ρ'→tb { D with nx:=Pv (i+1),ct:=Pv (i+1),bk:=D.nx } (ρ'.set j (.some (.int (m - i)))))∧∀ ρ',Pv (m - n).toNat ρ'→D.nx ρ'
theorem AllIs.three {K:PySem.W.Frag} {H:Hp} {d e f:Dt} {xs:List V} (h:AllIs K H [d,e,f] xs):∃ v u w,xs=[v,u,w]∧Is K H d v∧Is K H e u∧Is K H f w:=by
 obtain ⟨x,r,rfl,h1,h2⟩:=allIs_cons.mp h
 obtain ⟨u,w,rfl,h3,h4⟩:=h2.two
 exact ⟨x,u,w,rfl,h1,h3,h4⟩
theorem rZ {j:Nat} {x:Str} {a b c:Expr} {body:List Stmt} {px p0 pos1:Pos} (hc:X.calm=true) (hN:X.N.Nodup) (hi:X.N[j]? = some x) (hx:Loc X.env.scope x) (hp:PassesOwn (model X.prog X.w) X.A X.env X.xe)
  (hg:Gl X "range") (hm:X.mg "range"=none) (h:DA X [a,b,c] ta) (hb:DSs X fr body tb) (hs:∀ x,foldedSetIterable (.Call (.Name "range" p0) [a,b,c] [] pos1) X.env x=pure x:=by intro _; rfl)
  (hst:starEach [a,b,c] X.env=(false,eval a X.env)::starEach [b,c] X.env:=by rfl) (hpl:(backTo pos1 (starEach [b,c] X.env)).any (·.1)=false:=by rfl)
  (hf:X.fn x=true∨X.env.scope.names.lookup x=some .local:=by first | exact .inl rfl | exact .inr rfl | assumption):DSt X fr (.For (.Name x px) (.Call (.Name "range" p0) [a,b,c] [] pos1) body [] pos) (W_ j ta tb):=by
 obtain ⟨tt,p,l⟩:=h
 obtain ⟨tbs,p2,l2⟩:=hb
 refine ⟨_,vN hp hc (j6 hg hm p hst hpl) (yG hN hi hx hf) p2 hs,fun W0 G ρ σ W D D' at_ s h=>l ρ σ W _ at_.rl h _ fun ds vs W1 s1 i1 ⟨m,n,Pv,ed,m1,m2,n1,n2,h0,ht,hd⟩=>?_⟩
 subst ed
 obtain ⟨v1,v2,v3,rfl,j1,j2,j3⟩:=i1.three
 have hg1:Same G W1.g:=at_.gs.trans s1.g
 refine ⟨m,n,by rw [is_int.mp j1,is_int.mp j2,is_int.mp j3],⟨m1,m2,n1,n2⟩,kK (lo:=m) (n:=(m - n).toNat) (fun i=>InL X.K (Zx X) W0 W1 (Pv i)) ⟨ρ,W1,rfl,(at_.step s1).now,h0⟩ ?_ ?_⟩
 ·rintro i σ' _ hi ⟨ρ',W2,rfl,a2,hp2⟩
  exact l2 W0 W1.g _ _ W2 { D with nx:=Pv (i+1),ct:=Pv (i+1),bk:=D.nx } _ (a2.set j (is_int.mpr rfl)) (yV s hg1) (ht i ρ' hi hp2)
 ·rintro σ' _ ⟨ρ',W2,rfl,a2,hp2⟩
  exact s.nx ρ' σ' W2 (a2.weak hg1) (hd ρ' hp2)
def Uo (ta:DTA):DTE:=fun ρ Q=>ta ρ fun ds=>∃ i j,ds=[.int i,.int j]∧Q (.int (if j>i then j else i))
theorem Yy {a b:Expr} (hc:X.calm=true) (hg:Gl X "max") (hm:X.mg "max"=none) (ha:DA X [a,b] ta) (hs:starEach [a,b] X.env=(false,eval a X.env)::starEach [b] X.env:=by rfl) (hpl:(backTo pos (starEach [b] X.env)).any (·.1)=false:=by rfl):
  DE X (.Call (.Name "max" p0) [a,b] [] pos) (Uo ta):=by
 obtain ⟨te,p1,l1⟩:=ha
 refine ⟨_,yK (mT hc) hg hm (by decide +kernel) p1 (by decide) (by decide) hs hpl,fun ρ σ H Q r h R k=>l1 ρ σ H _ r h _ fun ds vs H1 s1 i1 ⟨i,j,ed,q⟩=>?_⟩
 subst ed
 obtain ⟨v1,v2,rfl,j1,j2⟩:=i1.two
 exact ⟨i,j,by rw [is_int.mp j1,is_int.mp j2],k _ _ H1 s1 (is_int.mpr rfl) q⟩
def kA:Dt→Bool
 | .non=>true
 | _=>false
theorem mI {K:PySem.W.Frag} {H:Hp} {d:Dt} {v:V} (h:Is K H d v):decide (v=.non)=kA d:=by
 cases d with
 | non=>rw [is_non.mp h]; rfl
 | bl b=>rw [is_bl.mp h]; rfl
 | int b=>rw [is_int.mp h]; rfl
 | str b=>rw [is_str.mp h]; rfl
 | tup b=>obtain ⟨a,xs,rfl,_⟩:=is_tup.mp h; rfl
 | lst b=>obtain ⟨a,xs,rfl,_⟩:=is_lst.mp h; rfl
 | scr b=>obtain ⟨a,rfl,_⟩:=is_scr.mp h; rfl
 | way b _ _=>obtain ⟨a,xs,rfl,_⟩:=is_way.mp h; rfl
 | exc b=>obtain ⟨a,rfl,_⟩:=is_exc.mp h; rfl
def dr (ta:DTE):DTE:=fun ρ Q=>ta ρ fun d=>Q (.bl (kA d))
theorem kT {a:Expr} {j pos'} (ha:DE X a te):DT X (.Compare a [.Is] [.Constant .none j pos'] pos) (ui (dr te)):=by
 obtain ⟨t1,p1,l1⟩:=ha
 refine ⟨_,dZ (ci p1),rT (te:=Y5 t1) (t:=dr te) fun ρ σ H Q r h R k=>l1 ρ σ H _ r h _ fun d v H1 s1 i1 q=>k (.bl (kA d)) (.bl (decide (v=.non))) H1 s1 (is_bl.mpr (by rw [mI i1])) q⟩
end
end OD
namespace OD
variable {Z:Hp}
open PySem PySem.Spec PyProof.Rows L2
section
variable {X:Cx} {a:Expr} {te:TE} {tl th ts:TO} {lo hi:Option Expr} {st:Expr} {pos p2:Pos} {ta:DTE} {dl dh dt:DTO}
variable {fr:Fr} {tA:DTA} {tb:DTS} {p0 p1:Pos}
def jK (i j:Int):Prop:=j≠0∧Builtin.divisionGoesByPylong i j=false
theorem nr:DOp X (binaryOp .FloorDiv) (gIC jK fun i j=>.int (i.fdiv j)):=tR (C:=jK) (opI fun _ _ _ _ _ _ _ hc q=>floordiv_int hc.1 q (.inl hc.2))
theorem dw {c n:Int} (h0:n≠0) (h:n.natAbs<2 ^ 9000):jK c n:=⟨h0,PyProof.noPylong_of_log2 ((Nat.log2_lt (by omega)).mpr h)⟩
def WP (t u:DTS):DTS:=fun D ρ=>∃ P:DS→Prop,t { D with nx:=P } ρ∧∀ ρ',P ρ'→u D ρ'
theorem zV {sst:Stmt} {zX:List Stmt} {t u:DTS} (h1:DSt X fr sst t) (h2:DSs X fr zX u):DSs X fr (sst::zX) (WP t u):=by
 obtain ⟨ts,p1,l1⟩:=h1
 obtain ⟨us,p2,l2⟩:=h2
 refine ⟨_,xt p1 p2,fun W0 G ρ σ W D D' a s h=>?_⟩
 obtain ⟨P,h,k⟩:=h
 exact l1 W0 G ρ σ W { D with nx:=P } { D' with nx:=us D' } a ⟨fun ρ' σ' W' a' q=>l2 W0 G ρ' σ' W' D D' a' s (k ρ' q),s.tl,s.bk,s.ct⟩ h
end
end OD
namespace OD
open PySem PySem.Spec PyProof.Rows L2
section
variable {X:Cx} {ta:DTE} {pos p0:Pos}
end
end OD
namespace OD
variable {Z:Hp}
open PySem PySem.Spec PyProof.Rows L2
section
variable {X:Cx} {K:PySem.W.Frag} {H:Hp}
def gS (f:Str→Str→Dt):Dt→Dt→(Dt→Prop)→Prop:=fun d e Q=>∃ x y,d=.str x∧e=.str y∧Q (f x y)
theorem jg {x y:Str}:decide (V.str x=V.str y)=(x == y):=by
 rw [Bool.eq_iff_iff]
 simp
theorem eW:DOp X (compareOp .Eq) (gS fun x y=>.bl (x == y)):=by
 refine ⟨_,Xr,fun H x y d e Q i1 i2 ⟨a,b,ed,ee,q⟩ R k=>?_⟩
 subst ed
 subst ee
 obtain rfl:=is_str.mp i1
 obtain rfl:=is_str.mp i2
 refine ⟨rfl,?_⟩
 rw [jg]
 exact k _ _ H (Le.refl H) (is_bl.mpr rfl) q
end
section
variable {X:Cx} {fr:Fr} {te:DTE} {tb:DTS} {pos p0 p1 p2:Pos}
def Va (i j:Nat) (te:DTE) (tb:DTS):DTS:=fun D ρ=>te ρ fun d=>∃ (xs:List Dt) (Pv:Nat→DS→Prop),w4 d=some xs∧Pv 0 ρ∧
 (∀ (n:Nat) x ρ',xs[n]? = some x→Pv n ρ'→∃ a b,x=.tup [a,b]∧tb { D with nx:=Pv (n+1),ct:=Pv (n+1),bk:=D.nx } ((ρ'.set i (.some a)).set j (.some b)))∧∀ ρ',Pv xs.length ρ'→D.nx ρ'
theorem fX {i j:Nat} {x y:Str} {iter:Expr} {body:List Stmt} {px py pt:Pos} {kt:Nat} (hc:X.calm=true) (hN:X.N.Nodup) (hi:X.N[i]? = some x) (hj:X.N[j]? = some y) (hx:Loc X.env.scope x) (hy:Loc X.env.scope y) (hp:PassesOwn (model X.prog X.w) X.A X.env X.xe)
  (h:DE X iter te) (hb:DSs X fr body tb) (hs:∀ z,foldedSetIterable iter X.env z=pure z:=by intro _; rfl)
  (hf:X.fn x=true∨X.env.scope.names.lookup x=some .local:=by first | exact .inl rfl | exact .inr rfl | assumption) (hf2:X.fn y=true∨X.env.scope.names.lookup y=some .local:=by first | exact .inl rfl | exact .inr rfl | assumption):
  DSt X fr (.For (.Tuple [.Name x px,.Name y py] kt pt) iter body [] pos) (Va i j te tb):=by
 obtain ⟨tt,p,l⟩:=h
 obtain ⟨tbs,p2,l2⟩:=hb
 refine ⟨_,vN hp hc (nl p) (p9 hc (xu (yG hN hi hx hf) (xu (yG hN hj hy hf2) rF))) p2 hs,fun W0 G ρ σ W D D' at_ s h=>l ρ σ W _ at_.rl h _ fun d v W1 s1 i1 ⟨ds,Pv,el,h0,ht,hd⟩=>?_⟩
 have hg:Same G W1.g:=at_.gs.trans s1.g
 obtain ⟨a,xs,rfl,hq,ha⟩:=kx i1 el
 refine ⟨a,rfl,⟨xs,hq W1 (Same.refl _)⟩,qZ (K:=X.K) (a:=a) (xs:=xs) (fun i=>InL X.K (Zx X) W0 W1 (Pv i)) ⟨ρ,W1,rfl,(at_.step s1).now,h0⟩ (fun i σ' H' _ ⟨_,W2,e2,a2,_⟩=>e2 ▸ hq W2 a2.gs) ?_ ?_⟩
 ·rintro n x σ' _ hi ⟨ρ',W2,rfl,a2,hp2⟩
  obtain ⟨e,he,ie⟩:=ha.get' hi
  obtain ⟨a1,b1,rfl,q⟩:=ht n e ρ' he hp2
  obtain ⟨T,us,rfl,hT,hu⟩:=is_tup.mp (Is.mono0 a2.gs ie)
  obtain ⟨v1,v2,rfl,k1,k2⟩:=hu.two
  refine ⟨T,_,rfl,.of (W2.sub _ _ hT),rfl,v1,[v2],rfl,v2,[],rfl,rfl,?_⟩
  exact l2 W0 W1.g _ _ W2 { D with nx:=Pv (n+1),ct:=Pv (n+1),bk:=D.nx } _ ((a2.set i k1).set j k2) (yV s hg) q
 ·rintro σ' _ ⟨ρ',W2,rfl,a2,hp2⟩
  exact s.nx ρ' σ' W2 (a2.weak hg) (hd ρ' (by rw [ha.length]; exact hp2))
end
end OD
namespace OD
variable {Z:Hp}
open PySem PySem.Spec PyProof.Rows L2
section
variable {X:Cx} {pins:List (Addr × Obj)} {σ:St} {H:Hp} {s:Shared} {scope:Scope} {cl:List (Str × Addr)} {x:Str} {caps:List Str} {js:List Nat} {fp:List Addr}
end
section
variable {X:Cx} {fr:Fr} {osc scope:Scope} {x:Str} {caps:List Str} {js:List Nat} {N0:List Str} {L:Addr} {a elt:Expr} {ta te:DTE} {px p0 pos pos1:Pos}
end
section
variable {X:Cx} {a:Expr} {p0 pos:Pos}
theorem mV:bootBuiltins "int"=some (.type "int"):=by decide +kernel
def Y6 (ta:TA):TE:=fun σ H Q=>ta σ H fun vs H1=>∃ b:Bool,vs=[.bl b]∧Q (.int (if b then 1 else 0)) H1
theorem j8 {ta:TA} (hg:Gl X "int") (hm:X.mg "int"=none) (ha:PA X [a] ta) (hs:starEach [a] X.env=(false,eval a X.env)::starEach [] X.env:=by rfl) (hpl:(backTo pos (starEach [] X.env)).any (·.1)=false:=by rfl):
  PE X (.Call (.Name "int" p0) [a] [] pos) (Y6 ta):=by
 intro pins s σ H Q I h
 refine Call_ (wr I hg hm mV (PyProof.Rows.callWith_type1 (thn (ha pos pins s σ H _ I h) fun us s1 ⟨vs,H1,I1,r1,q1⟩=>?_) hs hpl))
 obtain ⟨b,e,q⟩:=q1
 subst e
 obtain ⟨u,rfl,ru⟩:=r1.one
 cases ru
 exact call_int_bool ⟨.int _,H1,I1.tok _,⟨_,rfl⟩,q⟩
def W6 (ta:DTE):DTE:=fun ρ Q=>ta ρ fun d=>∃ b:Bool,d=.bl b∧Q (.int (if b then 1 else 0))
theorem eD {ta:DTE} (hg:Gl X "int") (hm:X.mg "int"=none) (ha:DE X a ta) (hs:starEach [a] X.env=(false,eval a X.env)::starEach [] X.env:=by rfl) (hpl:(backTo pos (starEach [] X.env)).any (·.1)=false:=by rfl):
  DE X (.Call (.Name "int" p0) [a] [] pos) (W6 ta):=by
 obtain ⟨te,p1,l1⟩:=ha
 refine ⟨_,j8 hg hm (zE p1 yf hs) hs hpl,fun ρ σ H Q r h R k=>l1 ρ σ H _ r h _ fun d v H1 s1 i1 ⟨b,ed,q⟩=>?_⟩
 subst ed
 exact ⟨b,by rw [is_bl.mp i1],k _ _ H1 s1 (is_int.mpr rfl) q⟩
end
end OD
namespace OD
variable {Z:Hp}
open PySem PySem.Spec PyProof.Rows L2
section
variable {X:Cx} {fr:Fr} {osc scope:Scope} {x:Str} {caps:List Str} {js:List Nat} {N0:List Str} {L:Addr} {iter elt:Expr} {ta te:DTE} {px pos:Pos}
end
end OD
namespace L2
open PySem PySem.Spec PyProof.Rows
section
variable {P:Program} {w:World} {H H':Hp} {h B:Heap}
theorem HOk.part (x:HOk P w H h) (k:∀ b u,H b≠none→h.get? b=some u→B.get? b=some u):HOk P w H B:=fun a o e=>
 (x a o e).stay (fun b u hb q=>k b u (fun z=>by rcases hb with rfl | y; (rw [e] at z; cases z); (rw [y] at z; cases z)) q) (fun _ q=>q) fun _ _ q=>q
theorem ObjOk.there {a:Addr} {o:HO} (x:ObjOk P w H h a o):∃ u,h.get? a=some u:=by
 cases o with
 | lst xs=>obtain ⟨_,_,_,_,e⟩:=x; exact ⟨_,e⟩
 | tup xs=>obtain ⟨_,_,_,o,e,_⟩:=x; exact ⟨_,e⟩
 | dK kvs=>obtain ⟨_,_,_,_,o,_,_,e,_⟩:=x; exact ⟨_,e⟩
 | dT kvs=>obtain ⟨_,_,_,_,o,_,_,e,_⟩:=x; exact ⟨_,e⟩
 | set S n=>obtain ⟨o,_,_,_,e,_⟩:=x; exact ⟨_,e⟩
 | ins C dx fs=>obtain ⟨_,_,_,e,_⟩:=x; exact ⟨_,e⟩
 | own y=>exact x
 | xd fs=>obtain ⟨_,⟨_,_,_,e,_⟩,_⟩:=x; exact ⟨_,e⟩
 | rng lo hi=>obtain ⟨_,_,_,e⟩:=x; exact ⟨_,e⟩
 | frz ob u=>obtain ⟨e,_⟩:=x; exact ⟨_,e⟩
 | tbl ps=>exact ⟨_,(show h.get? a=some _ from x)⟩
 | met f y=>exact ⟨_,(show h.get? a=some _ from x)⟩
 | ext φ=>obtain ⟨_,e,_⟩:=x; exact e
end
structure Flies (P:Program) (w:World) (stack:List Env) (H:Hp) (h0:Heap) (H':Hp) (e:Addr) (cls:Value) (h:Heap):Prop where
 ex:∃ B a0,Heap.FlyingW B stack e cls a0 h∧(∀ b o,h0.get? b=some o→H b=none→b∉frs stack→B.get? b=some o)∧(∀ b o,h0.get? b=some o→b∉frs stack→∃ o',B.get? b=some o')∧HOk P w H' B
 slot:∀ b o,h0.get? b=some o→b∈frs stack→∃ sl,h.get? b=some { o with slots:=sl }
 free:∀ b o,h0.get? b=some o→H b=none→H' b=none
 tups:∀ b xs,H b=some (.tup xs)→H' b=some (.tup xs)
 frzs:∀ b o u,H b=some (.frz o u)→H' b=some (.frz o u)
 tbls:∀ b ps,H b=some (.tbl ps)→∃ more,H' b=some (.tbl (ps++more))
 new:h0.get? e=none
section
variable {P:Program} {w:World} {stack:List Env} {H H':Hp} {h0 h:Heap} {e:Addr} {cls:Value}
theorem Flies.un (f:Flies P w stack H h0 H' e cls h):Un (frs stack) [] H H' h0 h:=by
 obtain ⟨B,a0,⟨st,_,_,_⟩,k1,k2,_⟩:=f.ex
 refine ⟨fun b o q n hb _=>st b o (k1 b o q n hb),fun b o q _ hb _=>f.slot b o q hb,fun b o q n _=>f.free b o q n,fun b o q _=>?_,f.tups,f.frzs,f.tbls⟩
 by_cases hb:b∈frs stack
 ·obtain ⟨sl,z⟩:=f.slot b o q hb
  exact ⟨_,z⟩
 ·obtain ⟨o',z⟩:=k2 b o q hb
  exact ⟨o',st b o' z⟩
theorem Flies.hok (f:Flies P w stack H h0 H' e cls h):HOk P w H' h:=by
 obtain ⟨B,a0,⟨st,_,_,_⟩,_,_,k3⟩:=f.ex
 exact k3.kept st
theorem Flies.go (f:Flies P w stack H h0 H' e cls h):∃ B a0,Heap.FlyingW B stack e cls a0 h∧∀ h',Heap.FlyingW B stack e cls a0 h'→h.UpToSlots h'→Flies P w stack H h0 H' e cls h':=by
 obtain ⟨B,a0,fl,k1,k2,k3⟩:=f.ex
 refine ⟨B,a0,fl,fun h' fl' up=>⟨⟨B,a0,fl',k1,k2,k3⟩,fun b o q hb=>?_,f.free,f.tups,f.frzs,f.tbls,f.new⟩⟩
 obtain ⟨sl,z⟩:=f.slot b o q hb
 obtain ⟨_,ob,ho,hd⟩:=fl.2.2.1.mem hb
 rw [z] at ho
 cases ho
 obtain ⟨sl',z'⟩:=up b _ z hd
 exact ⟨sl',z'⟩
end
section
variable {X:Cx} {pins:List (Addr × Obj)} {σ:St} {H H':Hp} {s s':Shared} {M:Model} {E:Value→Shared→Prop} {e:Addr} {cls:Value}
theorem Inv.neL (I:Inv X pins σ H s) {b:Addr} {o:Obj} (q:X.s₀.heap.get? b=some o):b≠X.env.locals:=Nat.ne_of_lt (Nat.lt_of_lt_of_le (Heap.lt_size q) I.ok.above)
theorem kL {vs:List Value} {h1:Heap} {Q:Unit→Shared→Prop} (I:Inv X pins σ H s) (hstk:X.stack=X.env::X.outer) (hf:X.env.frame=some X.env.locals) (hex:X.ex=[]) (hx:Heap.MadeExcOf s.heap h1 e cls vs)
  (hQ:∀ h',Flies X.prog X.w X.outer X.H₀ X.s₀.heap H e cls h'→Q () { s with heap:=h' }):wpAny M X.A (leaving X.env (.ref e)) Q E { s with heap:=h1 }:=by
 have hfr:X.A.frames=some (X.env::X.outer):=by rw [← hstk]; exact I.ok.frames
 have hfs:frs X.stack=X.env.locals::frs X.outer:=by rw [hstk]; unfold frs; rw [List.filterMap_cons,hf]
 have hl:s.heap.FunFrames (PySem.W.hideAll s.heap (frs X.stack)) (X.env::X.outer):=by
  have z:=I.stack
  rw [hstk] at z
  refine PySem.W.funFrames_hide z fun env he a ha=>?_
  rw [hstk]
  exact List.mem_filterMap.mpr ⟨env,he,ha⟩
 have nx:∀ b,b∉X.ex:=fun b z=>by rw [hex] at z; cases z
 have nst:∀ b o,X.s₀.heap.get? b=some o→b∉frs X.outer→b∉frs X.stack:=fun b o q nb z=>by
  rw [hfs] at z
  rcases List.mem_cons.mp z with z | z
  ·exact I.neL q z
  ·exact nb z
 refine PySem.wpAny_leaves_madeW (s:={ s with heap:=h1 }) (h:=s.heap) (base:=PySem.W.hideAll s.heap (frs X.stack)) hfr hf (fun b o q=>PySem.W.of_hideAll _ q) hl hx fun h' t x1 x2 x3 x4=>hQ h' ⟨⟨_,_,x1,fun b o q n nb=>?_,fun b o q nb=>?_,?_⟩,fun b o q hb=>?_,fun b o q n=>I.base.free b o q n (nx b),I.base.tups,I.base.frzs,I.base.tbls,?_⟩
 ·exact PySem.W.hideAll_get _ (I.base.keep b o q n nb (nx b)) (nst b o q nb)
 ·obtain ⟨o',z⟩:=I.base.there b o q (nx b)
  exact ⟨o',PySem.W.hideAll_get _ z (nst b o q nb)⟩
 ·exact I.hok.part fun b u hb q=>PySem.W.hideAll_get _ q fun z=>hb (I.stkFree b z)
 ·obtain ⟨sl,z⟩:=I.base.slot b o q (I.ok.frf b hb) hb (nx b)
  obtain ⟨_,ob,ho,hd⟩:=I.funs.mem hb
  rw [z] at ho
  cases ho
  obtain ⟨sl',z'⟩:=x4 b _ (hx.keeps b _ z) hd
  exact ⟨sl',z'⟩
 ·cases q:X.s₀.heap.get? e with
  | none=>rfl
  | some o=>
   obtain ⟨o',z⟩:=I.base.there e o q (nx e)
   rw [hx.new] at z; cases z
theorem Yo {Q:Unit→Shared→Prop} (I:Inv X pins σ H s) (hstk:X.stack=X.env::X.outer) (hf:X.env.frame=some X.env.locals) (hex:X.ex=[]) (f:Flies X.prog X.w X.stack H s.heap H' e cls s'.heap)
  (hQ:∀ h',Flies X.prog X.w X.outer X.H₀ X.s₀.heap H' e cls h'→Q () { s' with heap:=h' }):wpAny M X.A (leaving X.env (.ref e)) Q E s':=by
 have hfr:X.A.frames=some (X.env::X.outer):=by rw [← hstk]; exact I.ok.frames
 have hfs:frs X.stack=X.env.locals::frs X.outer:=by rw [hstk]; unfold frs; rw [List.filterMap_cons,hf]
 have nx:∀ b,b∉X.ex:=fun b z=>by rw [hex] at z; cases z
 have nst:∀ b o,X.s₀.heap.get? b=some o→b∉frs X.outer→b∉frs X.stack:=fun b o q nb z=>by
  rw [hfs] at z
  rcases List.mem_cons.mp z with z | z
  ·exact I.neL q z
  ·exact nb z
 obtain ⟨B,a0,fl,k1,k2,k3⟩:=f.ex
 have fl':=fl
 rw [hstk] at fl'
 refine PySem.wpAny_leaves_onW hfr hf fl' fun h' x1 x2=>hQ h' ⟨⟨B,a0,x1,fun b o q n nb=>?_,fun b o q nb=>?_,k3⟩,fun b o q hb=>?_,fun b o q n=>?_,fun b xs q=>f.tups b xs (I.base.tups b xs q),fun b o u q=>f.frzs b o u (I.base.frzs b o u q),fun b ps q=>?_,?_⟩
 ·exact k1 b o (I.base.keep b o q n nb (nx b)) (I.base.free b o q n (nx b)) (nst b o q nb)
 ·obtain ⟨o',z⟩:=I.base.there b o q (nx b)
  exact k2 b o' z (nst b o q nb)
 ·obtain ⟨sl,z⟩:=I.base.slot b o q (I.ok.frf b hb) hb (nx b)
  have hb':b∈frs X.stack:=by rw [hfs]; exact List.mem_cons_of_mem _ hb
  obtain ⟨sl',z'⟩:=f.slot b _ z hb'
  obtain ⟨_,ob,ho,hd⟩:=fl.2.2.1.mem hb'
  rw [z'] at ho
  cases ho
  obtain ⟨sl2,z2⟩:=x2 b _ z' hd
  exact ⟨sl2,z2⟩
 ·obtain ⟨o',z⟩:=I.base.there b o q (nx b)
  exact f.free b o' z (I.base.free b o q n (nx b))
 ·obtain ⟨m1,e1⟩:=I.base.tbls b ps q
  obtain ⟨m2,e2⟩:=f.tbls b _ e1
  exact ⟨m1++m2,by rw [e2,Array.append_assoc]⟩
 ·cases q:X.s₀.heap.get? e with
  | none=>rfl
  | some o=>
   obtain ⟨o',z⟩:=I.base.there e o q (nx e)
   rw [f.new] at z; cases z
end
def ExcK (K:PySem.W.Frag) (C:Addr):Prop:=PySem.W.excIn K C [.type "ValueError",.type "Exception",.type "BaseException",.type "object"] "ValueError.__new__"=true
theorem fP {K:PySem.W.Frag} {h:Heap} {C:Addr} (X:K.In h) (q:ExcK K C):∃ bm N nm qn bs hdct sn sub ab col dd k0 k1 k2 k3 k5 mN,h.get? C=some (excClassObj nm qn C N bs bm hdct sn sub ab col dd k0 k1 k2 k3 k5 "ValueError.__new__")∧h.Ns N mN∧mN "__init__"=none∧OwnTail h [.type "ValueError",.type "Exception",.type "BaseException",.type "object"] bm:=by
 unfold ExcK PySem.W.excIn at q
 split at q
 ·rename_i d1 cl s1 look
  split at q
  ·rename_i C1 tl w0 w1 w2 w3 nid w5 em es
   simp only [Bool.and_eq_true,Bool.not_eq_true',beq_iff_eq] at q
   obtain ⟨⟨⟨⟨⟨rfl,rfl⟩,q1⟩,q2⟩,q3⟩,q4⟩:=q
   obtain ⟨a1,a2,a3,a4,a5,a6,a7,a8,a9,b1,b2⟩:=cl
   dsimp only at em q1 q3 q4
   subst em q1
   obtain rfl:s1=#[w0,w1,w2,w3,some (.builtin "ValueError.__new__"),w5]:=by
    obtain ⟨l⟩:=s1
    simp only at es; rw [es]
   exact ⟨tl,a4,a1,a5,a2,a6,a7,a8,a9,b1,d1,w0,w1,w2,w3,w5,_,X _ _ look,.of_isNs (PySem.W.isNs_of_in X q3),PySem.W.nsMap_none_of_in X q3 q4,PySem.W.tail_of_in X q2⟩
  ·cases q
 ·cases q
def XOk (X:Cx) (C:Addr) (H:Hp):Prop:=∀ (pins:List (Addr × Obj)) (σ:St) (s:Shared) (h1:Heap) (e:Addr) (vs:List Value),Inv X pins σ H s→Heap.MadeExcOf s.heap h1 e (.ref C) vs→X.xe (.ref e) { s with heap:=h1 }
def dP (X:Cx) (C:Addr) (te:TE):TS:=fun _ σ H=>te σ H fun _ H1=>XOk X C H1
theorem lH {X:Cx} {C:Addr} {x:Str} {a:Expr} {te:TE} {np cpos pos:Pos} (hc:X.calm=true) (hg:Gl X x) (hm:X.mg x=some (.ref C)) (hC:ExcK X.K C) (ha:PE X a te)
  (hdb:(x == ("__debug__":Str))=false:=by decide) (he:starEach [a] X.env=(false,eval a X.env)::starEach [] X.env:=by rfl):PS X (.Raise (some (.Call (.Name x np) [a] [] cpos)) none pos) (dP X C te):=by
 intro pins s σ H D I h
 obtain ⟨bm,N,nm,qn,bs,hdct,sn,sub,ab,col,dd,k0,k1,k2,k3,k5,mN,hO,hN,hni,T⟩:=fP I.ok.mod.kin hC
 refine PySem.wpAny_Raise_call_subU (C:=C) (nm:=nm) (q:=qn) (N:=N) (bs:=bs) (bm:=bm) (hdct:=hdct) (sn:=sn) (sub:=sub) (ab:=ab) (col:=col) (dd:=dd) (k0:=k0) (k1:=k1) (k2:=k2) (k3:=k3) (k5:=k5)
  PySem.F.excBase_ValueError (by decide) PySem.F.excBase_ValueError (mN:=mN) (T.hasType PySem.F.excBase_ValueError.hasBase) (I.ok.hd hc) (by rw [he]; rfl) hni (uG I hg hm ⟨rfl,?_⟩ hdb)
 have z:=zE ha yf he cpos pins s σ H (fun us H1=>us.length=1∧XOk X C H1) I (show te σ H (fun x H1=>[x].length=1∧XOk X C H1) from by
  have h:te σ H (fun _ H1=>XOk X C H1):=h
  simpa using h)
 rw [he] at z ⊢
 refine Calls.evalArgs_plain (thn z fun vs s1 ⟨us,H1,I1,r,hl,q⟩=>⟨rfl,?_,I1.bk _ _ hO,hN.keeps I1.bk,T.keeps I1.bk,fun h' e hx=>q pins σ s1 h' e vs I1 hx⟩)
 show vs.length≤_
 rw [← r.length,hl]
 decide
def CX1 (P:Program) (w:World):CXT:=fun outer H s E e s'=>∃ a C H',e=.ref a∧s'.os=s.os∧AllBare s'.gens∧Flies P w outer H s.heap H' a (.ref C) s'.heap∧E (.ref C) none H'
section
variable {P:Program} {w:World} {K:PySem.W.Frag} {mg:Str→Option Value} {base:Heap} {N:List Str} {qual:Str} {scope:Scope} {f C:Addr} {cd:Value} {A:Around} {outer:List Env} {s:Shared} {H H1:Hp} {E:XK}
theorem dG (h:E (.ref C) none H1):XOk (yn (CX1 P w) P w K mg base N qual scope f cd A outer s H E) C H1:=fun pins σ s' h1 e vs I hx=>
 kL (X:=yn (CX1 P w) P w K mg base N qual scope f cd A outer s H E) I rfl rfl rfl hx fun h' fl=>⟨e,C,H1,rfl,I.os,I.bare,fl,h⟩
theorem Xl:PassesOwn (model P w) (A.deeper (envOfC qual scope s.heap.objs.size f cd)) (envOfC qual scope s.heap.objs.size f cd) (yn (CX1 P w) P w K mg base N qual scope f cd A outer s H E).xe:=PassesOwn.leaving
end
section
variable {X:Cx} {CX:CXT} {k:Nat} {f C:Addr} {fd:FuncData} {ps:List Str} {sp:Sp} {dvs:List V} {ds:List Value} {x y:Str} {p pos:Pos} {e:Expr} {es:List Expr} {t:TA}
end
abbrev TB:=(St→Hp→Prop)→XK→St→Hp→Prop
section
variable {X:Cx} {pins:List (Addr × Obj)} {σ:St} {H:Hp} {s:Shared} {a:Addr}
end
section
variable {X:Cx} {t:TB} {th:TS} {y:Str} {c:Value} {py hpos pos:Pos} {body:List Stmt} {b₀:Stmt} {suite:List Stmt}
end
section
variable {X:Cx} {pins:List (Addr × Obj)} {σ:St} {H:Hp} {s:Shared}
end
section
variable {X:Cx} {t:TB} {th:TS} {y n:Str} {j:Nat} {c:Value} {py hpos pos:Pos} {body:List Stmt} {b₀:Stmt} {suite:List Stmt}
def Ends.off (D:Ends) (j:Nat):Ends:=⟨fun σ H=>D.nx (σ.set j none) H,D.rt,fun σ H=>D.bk (σ.set j none) H,fun σ H=>D.ct (σ.set j none) H⟩
end
end L2
namespace L2
open PySem PySem.Spec PyProof.Rows PySem.W PySem.Builtin PySem.Builtin.ObjectAttr PySem.Builtin.Getset_descriptor
structure dE (K:PySem.W.Frag) (C:Addr):Prop where
 ga:PySem.W.findIn K (.ref C) "__getattribute__"=some (some (.builtin "BaseException.__getattribute__"))
 gn:PySem.W.findIn K (.ref C) "__getattr__"=some none
 ha:PySem.W.findIn K (.ref C) "__class__"=some (some (.builtin "object.__class__"))
 hn:PySem.W.specialIn K (.builtin "object.__class__") "__get__"=some (some (.builtin "getset_descriptor.__get__"))
 htk:PySem.W.takesIn K (.builtin "object.__class__")=some true
 hm:PySem.W.mroIn K C (.type "object")=some true
 hb:PySem.W.mroIn K C (.type "BaseException")=some true
section
variable {prog:Program} {w:World} {A:Around} {E:Value→Shared→Prop} {s:Shared} {K:PySem.W.Frag} {a C:Addr} {oa:Obj}
end
end L2
namespace OD
open PySem PySem.Spec PyProof.Rows L2
variable {Z:Hp}
def XOn (X:Cx) (C:Addr) (H':Hp):Prop:=∀ (pins:List (Addr × Obj)) (σ:L2.St) (H:Hp) (s:Shared) (a:Addr) (s':Shared),Inv X pins σ H s→s'.os=s.os→AllBare s'.gens→Flies X.prog X.w X.stack H s.heap H' a (.ref C) s'.heap→X.xe (.ref a) s'
def UC (X:Cx):XK:=fun cls _ H'=>∃ C,cls=.ref C∧XOn X C H'
theorem tq {X:Cx}:ud (CX1 X.prog X.w) X (UC X):=fun pins σ H s e s' I ⟨a,C,H',ee,os,bare,fl,C',ec,h⟩=>by
 cases ec
 subst ee
 exact h pins σ H s a s' I os bare fl
def Rz (X:Cx) (C:Addr):Prop:=∀ H',Same (Zx X) H'→XOk X C H'∧XOn X C H'
section
variable {P:Program} {w:World} {K:PySem.W.Frag} {mg:Str→Option Value} {base:Heap} {N:List Str} {qual:Str} {scope:Scope} {f C:Addr} {cd:Value} {A:Around} {outer:List Env} {s:Shared} {H H1:Hp} {E:XK}
theorem lx (h:∀ H',Same H H'→E (.ref C) none H'):Rz (yn (CX1 P w) P w K mg base N qual scope f cd A outer s H E) C:=fun H' z=>by
 rw [mY] at z
 refine ⟨dG (h H' z),fun pins σ H2 s2 a s' I os bare fl=>?_⟩
 exact Yo (X:=yn (CX1 P w) P w K mg base N qual scope f cd A outer s H E) I rfl rfl rfl fl fun h' fl'=>⟨a,C,H',rfl,os.trans I.os,bare,fl',h H' z⟩
end
abbrev y9:=List Dt→(Dt→Prop)→(Addr→Prop)→Prop
def uP (K:PySem.W.Frag) (S:y9):Sp:=fun vs H Q E=>∃ (W:Vw) (ds:List Dt) (Qd:Dt→Prop) (Ed:Addr→Prop),W.h=H∧AllIs K W.g ds vs∧S ds Qd Ed∧(∀ d v W',Le W W'→Is K W'.g d v→Qd d→Q v W'.h)∧∀ C H',Same W.h H'→Ed C→E (.ref C) none H'
def vx (K:PySem.W.Frag) (S:y9):Sp:=fun vs H Q E=>∃ (W:Vw) (ds:List Dt) (Qd:Dt→Prop) (Ed:Addr→Prop),W.h=H∧AllIs K W.g ds vs∧S ds Qd Ed∧
 (∀ es p xs W',Le W W'→W.h p=none→W'.h p=some (.lst xs)→W'.g p=none→AllIs K W'.g es xs→Qd (.lst es)→Q (.ref p) W'.h)∧∀ C H',Same W.h H'→Ed C→E (.ref C) none H'
structure DOkX (P:Program) (w:World) (K:PySem.W.Frag) (mg:Str→Option Value) (base:Heap) (n:Nat) (x:Str) (S:y9):Prop where
 ex:∃ f fd ps,mg x=some (.ref f)∧PySem.W.keepIn K (.ref f)=true∧Binds K fd ps []∧FnOk P w K mg base (CX1 P w) n f fd ps (uP K S)
structure FOkX (P:Program) (w:World) (K:PySem.W.Frag) (mg:Str→Option Value) (base:Heap) (n:Nat) (x:Str) (S:y9):Prop where
 ex:∃ f fd ps,mg x=some (.ref f)∧PySem.W.keepIn K (.ref f)=true∧Binds K fd ps []∧FnOk P w K mg base (CX1 P w) n f fd ps (vx K S)
section
variable {P:Program} {w:World} {K:PySem.W.Frag} {mg:Str→Option Value} {base:Heap}
theorem Fun.okX {CX:CXT} {x qual:Str} {st:Stmt} {f:Addr} {fd:FuncData} {N ps:List Str} {k:Nat} {sp:Sp} (F:Fun K x qual st f fd) (S:zg N ps (defScope st)) (len:∀ vs H Q E,sp vs H Q E→vs.length=ps.length)
  (hbody:∀ (cdv:Value) (A:Around) (outer:List Env) (s:Shared) (H:Hp) (vs:List V) (Q:VK) (E:XK),Room k (A.deeper (envOfC qual (defScope st) s.heap.objs.size f cdv))→sp vs H Q E→
   ∃ t,PSs (yn CX P w K mg base N qual (defScope st) f cdv A outer s H E) (defBody st) t∧t { nx:=fun _ H'=>Q .non H',rt:=Q } (start N vs) H):FnOk P w K mg base CX (k+1) f fd ps sp:=by
 obtain ⟨oc,od,kV,doc,pm,an,cdv,ct,osl,rfl,lk,hcd⟩:=F.ex
 exact db lk hcd S len fun A outer s H vs Q E hr h=>hbody cdv A outer s H vs Q E hr h
theorem VS {x qual:Str} {st:Stmt} {f:Addr} {fd:FuncData} {N ps:List Str} {k:Nat} {S:y9} (F:Fun K x qual st f fd) (sc:zg N ps (defScope st)) (len:∀ ds Q R,S ds Q R→ds.length=ps.length)
  (hbody:∀ (cdv:Value) (A:Around) (outer:List Env) (s:Shared) (H:Hp) (E:XK),Room k (A.deeper (envOfC qual (defScope st) s.heap.objs.size f cdv))→∀ (ds:List Dt) (Q:Dt→Prop) (R:Addr→Prop),S ds Q R→
   (∀ C,R C→Rz (yn (CX1 P w) P w K mg base N qual (defScope st) f cdv A outer s H E) C)→
   ∃ t,DSs (yn (CX1 P w) P w K mg base N qual (defScope st) f cdv A outer s H E) .d (defBody st) t∧t { nx:=fun _=>Q .non,rt:=Q } (z_ N.length ds)):FnOk P w K mg base (CX1 P w) (k+1) f fd ps (uP K S):=by
 refine Fun.okX F sc (fun vs H Q E h=>?_) (fun cdv A outer s H vs Q E hr h=>?_)
 ·obtain ⟨W,ds,Qd,Ed,_,ia,hS,_⟩:=h
  rw [← ia.length]
  exact len ds Qd Ed hS
 obtain ⟨W,ds,Qd,Ed,rfl,ia,hS,kk,ke⟩:=h
 obtain ⟨t,⟨ts,p,l⟩,ht⟩:=hbody cdv A outer s W.h E hr ds Qd Ed hS fun C hC=>lx fun H' z=>ke C H' z hC
 refine ⟨ts,p,l W W.g (z_ N.length ds) (start N vs) W { nx:=fun _=>Qd .non,rt:=Qd } _ (xy ia (vy (Nat.succ_ne_self _))) ⟨fun ρ σ W' a q=>kk .non .non W' a.le (is_non.mpr rfl) q,fun d v W' s' i' q=>kk d v W' s' i' q,fun _ _ _ _ q=>q.elim,fun _ _ _ _ q=>q.elim⟩ ht⟩
theorem VR {x qual:Str} {st:Stmt} {f:Addr} {fd:FuncData} {N ps:List Str} {k:Nat} {S:y9} (F:Fun K x qual st f fd) (sc:zg N ps (defScope st)) (len:∀ ds Q R,S ds Q R→ds.length=ps.length)
  (hbody:∀ (cdv:Value) (A:Around) (outer:List Env) (s:Shared) (H:Hp) (E:XK),Room k (A.deeper (envOfC qual (defScope st) s.heap.objs.size f cdv))→∀ (ds:List Dt) (Q:Dt→Prop) (R:Addr→Prop),S ds Q R→
   (∀ C,R C→Rz (yn (CX1 P w) P w K mg base N qual (defScope st) f cdv A outer s H E) C)→
   ∃ t,DSs (yn (CX1 P w) P w K mg base N qual (defScope st) f cdv A outer s H E) .l (defBody st) t∧t { nx:=fun _=>False,rt:=Q } (z_ N.length ds)):FnOk P w K mg base (CX1 P w) (k+1) f fd ps (vx K S):=by
 refine Fun.okX F sc (fun vs H Q E h=>?_) (fun cdv A outer s H vs Q E hr h=>?_)
 ·obtain ⟨W,ds,Qd,Ed,_,ia,hS,_⟩:=h
  rw [← ia.length]
  exact len ds Qd Ed hS
 obtain ⟨W,ds,Qd,Ed,rfl,ia,hS,kk,ke⟩:=h
 obtain ⟨t,⟨ts,p,l⟩,ht⟩:=hbody cdv A outer s W.h E hr ds Qd Ed hS fun C hC=>lx fun H' z=>ke C H' z hC
 exact ⟨ts,p,l W W.g (z_ N.length ds) (start N vs) W { nx:=fun _=>False,rt:=Qd } _ (xy ia (vy (Nat.succ_ne_self _))) ⟨fun ρ σ W' a q=>q.elim,fun d v W' s' ⟨es,p,xs,e1,e2,e3,e4,e5,e6⟩ q=>by subst e1; subst e2; exact kk es p xs W' s' e3 e4 e5 e6 q,fun _ _ _ _ q=>q.elim,fun _ _ _ _ q=>q.elim⟩ ht⟩
theorem DOkX.mk' {x qual:Str} {st:Stmt} {f:Addr} {fd:FuncData} {ps:List Str} {n:Nat} {S:y9} (F:Fun K x qual st f fd) (hm:mg x=some (.ref f)) (hb:Binds K fd ps []) (h:FnOk P w K mg base (CX1 P w) n f fd ps (uP K S)):DOkX P w K mg base n x S:=
 ⟨f,fd,ps,hm,F.kp,hb,h⟩
theorem FOkX.mk' {x qual:Str} {st:Stmt} {f:Addr} {fd:FuncData} {ps:List Str} {n:Nat} {S:y9} (F:Fun K x qual st f fd) (hm:mg x=some (.ref f)) (hb:Binds K fd ps []) (h:FnOk P w K mg base (CX1 P w) n f fd ps (vx K S)):FOkX P w K mg base n x S:=
 ⟨f,fd,ps,hm,F.kp,hb,h⟩
theorem DOkX.mono {x:Str} {m n:Nat} {S:y9} (h:DOkX P w K mg base m x S) (hl:m≤n):DOkX P w K mg base n x S:=
 let ⟨f,fd,ps,h1,h2,h3,h4⟩:=h.ex; ⟨f,fd,ps,h1,h2,h3,h4.mono hl⟩
theorem FOkX.mono {x:Str} {m n:Nat} {S:y9} (h:FOkX P w K mg base m x S) (hl:m≤n):FOkX P w K mg base n x S:=
 let ⟨f,fd,ps,h1,h2,h3,h4⟩:=h.ex; ⟨f,fd,ps,h1,h2,h3,h4.mono hl⟩
end
section
variable {X:Cx} {e a:Expr} {es:List Expr} {t:DTA} {ta:DTE} {n:Nat} {x y:Str} {S:y9} {p pos np cpos:Pos} {fr:Fr} {C:Addr}
theorem ni {F:Hp} {W:Vw} {ρ:DS} {σ:L2.St} {K:PySem.W.Frag} (r:Rl K Z F W ρ σ):Same Z W.h:=r.z.trans r.fr
def oU (X:Cx) (S:y9) (t:DTA):DTE:=fun ρ Q=>t ρ fun ds=>S ds Q (Rz X)
theorem jk (G:DOkX X.prog X.w X.K X.mg X.base n x S) (hr:Room n X.A) (hg:Gl X x) (ha:DA X (e::es) t) (hdb:(x == ("__debug__":Str))=false:=by decide)
  (he:starEach (e::es) X.env=(false,eval e X.env)::starEach es X.env:=by rfl) (hpl:(backTo pos (starEach es X.env)).any (·.1)=false:=by rfl):DE X (.Call (.Name x p) (e::es) [] pos) (oU X S t):=by
 obtain ⟨f,fd,ps,hm,hk,hb,F⟩:=G.ex
 obtain ⟨te,p1,l1⟩:=ha
 refine ⟨_,xL F hr hg hm hk hb .nil tq p1 hdb he hpl,fun ρ σ H Q r h R k=>l1 ρ σ H _ r h _ fun ds vs H1 s1 i1 q1=>?_⟩
 rw [List.append_nil]
 exact ⟨H1,ds,Q,Rz X,rfl,i1,q1,fun d v H2 s2 i2 q2=>k d v H2 (s1.trans s2) i2 q2,fun C H' s' hC=>⟨C,rfl,(hC H' (((ni r).trans s1.h).trans s')).2⟩⟩
theorem je (G:FOkX X.prog X.w X.K X.mg X.base n x S) (hr:Room n X.A) (hg:Gl X x) (ha:DA X (e::es) t) (hdb:(x == ("__debug__":Str))=false:=by decide)
  (he:starEach (e::es) X.env=(false,eval e X.env)::starEach es X.env:=by rfl) (hpl:(backTo pos (starEach es X.env)).any (·.1)=false:=by rfl):DF X (.Call (.Name x p) (e::es) [] pos) (oU X S t):=by
 obtain ⟨f,fd,ps,hm,hk,hb,F⟩:=G.ex
 obtain ⟨te,p1,l1⟩:=ha
 refine ⟨_,xL F hr hg hm hk hb .nil tq p1 hdb he hpl,fun ρ σ H Q r h R k=>l1 ρ σ H _ r h _ fun ds vs H1 s1 i1 q1=>?_⟩
 rw [List.append_nil]
 exact ⟨H1,ds,Q,Rz X,rfl,i1,q1,fun es p xs H2 s2 h0 h1 h2 i2 q2=>k es p xs H2 (s1.trans s2) (s1.h.free h0) h1 h2 i2 q2,fun C H' s' hC=>⟨C,rfl,(hC H' (((ni r).trans s1.h).trans s')).2⟩⟩
def YA (X:Cx) (C:Addr) (ta:DTE):DTS:=fun _ ρ=>ta ρ fun _=>Rz X C
theorem kX (hc:X.calm=true) (hg:Gl X x) (hm:X.mg x=some (.ref C)) (hC:ExcK X.K C) (ha:DE X a ta) (hdb:(x == ("__debug__":Str))=false:=by decide)
  (he:starEach [a] X.env=(false,eval a X.env)::starEach [] X.env:=by rfl):DSt X fr (.Raise (some (.Call (.Name x np) [a] [] cpos)) none pos) (YA X C ta):=by
 obtain ⟨te,p1,l1⟩:=ha
 exact ⟨_,lH hc hg hm hC p1 hdb he,fun W0 G ρ σ W D D' at_ s h=>l1 ρ σ W _ at_.rl h _ fun d v W1 s1 i1 q1=>(q1 W1.h ((ni at_.rl).trans s1.h)).1⟩
def Wu (K:PySem.W.Frag) (Z:Hp) (fr:Fr) (t:DTS):TS:=fun D' σ H=>∃ (W0:Vw) (G:Hp) (ρ:DS) (W:Vw) (D:DEnds),W.h=H∧At K Z W0 G W ρ σ∧Sim K Z fr W0 G D D'∧t D ρ
theorem DSs.up {sts:List Stmt} {t:DTS} (h:DSs X fr sts t):PSs X sts (Wu X.K (Zx X) fr t):=by
 obtain ⟨ts,p,l⟩:=h
 intro pins s σ H D' I q
 obtain ⟨W0,G,ρ,W,D,rfl,a,sm,ht⟩:=q
 exact p pins s σ W.h D' I (l W0 G ρ σ W D D' a sm ht)
def Vw.at (W:Vw) (H':Hp) (s:Same W.h H'):Vw:=⟨W.g,H',W.sub.trans s⟩
variable {b₀:Stmt} {suite:List Stmt} {th:DTS} {c:Value} {py hpos epos tpos:Pos}
end
theorem Rl.unset {K:PySem.W.Frag} {F:Hp} {W:Vw} {ρ:DS} {σ:L2.St} (r:Rl K Z F W ρ σ) (j:Nat):Rl K Z F W (ρ.set j .none) (σ.set j none):=by
 refine ⟨by rw [List.length_set,List.length_set]; exact r.len,fun i d q=>?_,fun i ds q=>?_,fun i k ds es hik q1 q2=>?_,r.fr,r.z,fun i c ds q=>?_⟩
 ·rcases zk q with ⟨_,_,e1⟩ | ⟨hij,q⟩
  ·cases e1
  ·rw [List.getElem?_set_ne hij]; exact r.at_ i d q
 ·rcases zk q with ⟨_,_,e1⟩ | ⟨hij,q⟩
  ·cases e1
  ·rw [List.getElem?_set_ne hij]; exact r.ow i ds q
 ·rcases zk q1 with ⟨_,_,e1⟩ | ⟨h1,q1⟩
  ·cases e1
  rcases zk q2 with ⟨_,_,e1⟩ | ⟨h2,q2⟩
  ·cases e1
  rw [List.getElem?_set_ne h1,List.getElem?_set_ne h2]; exact r.ne i k ds es hik q1 q2
 ·rcases zk q with ⟨_,_,e1⟩ | ⟨hij,q⟩
  ·cases e1
  obtain ⟨⟨ys',g1,g2⟩,k1,k2⟩:=r.ar i c ds q
  refine ⟨⟨ys',by rw [List.getElem?_set_ne hij]; exact g1,g2⟩,fun k es' q'=>?_,fun k c' es' q'=>?_⟩
  ·rcases zk q' with ⟨_,_,e1⟩ | ⟨hik,q'⟩
   ·cases e1
   ·rw [List.getElem?_set_ne hik]; exact k1 k es' q'
  ·rcases zk q' with ⟨_,_,e1⟩ | ⟨hik,q'⟩
   ·cases e1
   exact k2 k c' es' q'
theorem At.unset {K:PySem.W.Frag} {W0 W:Vw} {G:Hp} {ρ:DS} {σ:L2.St} (a:At K Z W0 G W ρ σ) (j:Nat):At K Z W0 G W (ρ.set j .none) (σ.set j none):=⟨a.le,a.gs,a.rl.unset j⟩
abbrev DEnds.off (D:DEnds) (j:Nat):DEnds:=⟨fun ρ=>D.nx (ρ.set j .none),D.rt,fun ρ=>D.bk (ρ.set j .none),fun ρ=>D.ct (ρ.set j .none)⟩
theorem Sim.off {K:PySem.W.Frag} {fr:Fr} {W0:Vw} {G:Hp} {D:DEnds} {D':Ends} (s:Sim K Z fr W0 G D D') (j:Nat):Sim K Z fr W0 G (D.off j) (D'.off j):=
 ⟨fun ρ σ W' a q=>s.nx _ _ W' (a.unset j) q,s.tl,fun ρ σ W' a q=>s.bk _ _ W' (a.unset j) q,fun ρ σ W' a q=>s.ct _ _ W' (a.unset j) q⟩
section
variable {X:Cx} {e:Expr} {es:List Expr} {t:DTA} {n:Nat} {x y m:Str} {i j:Nat} {S:y9} {p pos py hpos epos tpos:Pos} {fr:Fr} {b₀:Stmt} {suite:List Stmt} {th:DTS} {c:Value}
end
end OD
namespace OD
variable {Z:Hp}
open PySem PySem.Spec PyProof.Rows L2
def PC (X:Cx) (ifs:List Expr) (t:TT):Prop:=
 ∀ (pins:List (Addr × Obj)) (s:Shared) (σ:St) (H:Hp) (Q:Bool→Hp→Prop) (E:Value→Shared→Prop),(∀ v s,X.xe v s→E v s)→Inv X pins σ H s→t σ H Q→
  wpAny (model X.prog X.w) X.A (forIn ifs true fun c r=>if r=true then do let ok ← isTrue c X.env (eval c X.env); pure (ForInStep.yield ok) else pure (ForInStep.yield r)) (TP X pins σ Q) E s
section
variable {X:Cx} {pins:List (Addr × Obj)} {σ:St} {H:Hp} {s:Shared} {scope:Scope} {cl:List (Str × Addr)} {bs caps:List Str} {js:List Nat} {fp:List Addr}
end
end OD
namespace OD
variable {Z:Hp}
open PySem PySem.Spec PyProof.Rows L2
abbrev DTI:=DS→(Nat→(Nat→Dt→Prop)→Prop)→Prop
def DC (X:Cx) (ifs:List Expr) (t:DTT):Prop:=∃ tt,PC X ifs tt∧LiT X.K (Zx X) tt t
def Wt (K:PySem.W.Frag) (t:DTT):TT:=fun σ H R=>∃ (F:Hp) (ρ:DS) (W:Vw) (Q:Bool→Prop),W.h=H∧Rl K (fun _=>none) F W ρ σ∧t ρ Q∧∀ d W',Le W W'→Q d→R d W'.h
theorem DC.up {X:Cx} {ifs:List Expr} {t:DTT} (h:DC X ifs t) (hz:X.stack.length=X.outer.length:=by rfl):PC X ifs (Wt X.K t):=by
 obtain ⟨te,p,l⟩:=h
 intro pins s σ H R E hE I q
 obtain ⟨F,ρ,W,Q,rfl,r,h,k⟩:=q
 have r':Rl X.K (Zx X) F W ρ σ:=by unfold Zx; rw [if_pos (Or.inl hz)]; exact r
 exact p pins s σ W.h R E hE I (l ρ σ W Q r' h R k)
section
variable {X:Cx} {fr:Fr} {osc scope:Scope} {bs caps:List Str} {js:List Nat} {N0:List Str} {L:Addr} {tg iter elt a:Expr} {ifs:List Expr} {ta te:DTE} {di:DTI} {tt:DTT} {dg:Dt→List Dt→Prop} {gt:TG} {px p0 pos pos1:Pos}
end
end OD
namespace OD
variable {Z:Hp}
open PySem PySem.Spec PyProof.Rows L2
section
variable {K:PySem.W.Frag} {F:Hp} {W W' W0:Vw}
theorem NewL.mono {d:Dt} {v:V} (h:NewL K F W d v) (s:Le W W'):NewL K F W' d v:=by
 obtain ⟨es,p,xs,h1,h2,h3,h4,h5,h6⟩:=h
 exact ⟨es,p,xs,h1,h2,h3,s.h _ _ h4,s.n p (by rw [h4]; intro z; cases z) h5,h6.mono s⟩
theorem Prt.mono {b:Bool} {d:Dt} {v:V} (h:Prt K F W b d v) (s:Le W W'):Prt K F W' b d v:=by
 cases b with
 | false=>exact Is.mono h s
 | true=>
  rcases h with h | ⟨h1,h2⟩
  ·exact .inl (h.mono s)
  ·exact .inr ⟨h1,Is.mono h2 s⟩
theorem Prt.frz {b:Bool} {d:Dt} {u:V} (le:Le W0 W) (h:Prt K W0.h W b d u):∃ W1:Vw,W1.h=W.h∧Same W.g W1.g∧Le W0 W1∧Is K W1.g d u∧
  ∀ b2 d2 u2,Prt K W0.h W b2 d2 u2→(∀ es fs,b=true→b2=true→d=.lst es→d2=.lst fs→u≠u2)→Prt K W0.h W1 b2 d2 u2:=by
 cases b with
 | false=>exact ⟨W,rfl,Same.refl _,le,h,fun _ _ _ k _=>k⟩
 | true=>
  rcases h with ⟨es,p,xs,rfl,rfl,h3,h4,h5,h6⟩ | ⟨_,h2⟩
  ·refine ⟨W.frz p _ h4,rfl,zI h5 _,vV le h3 h4 h5,is_lst.mpr ⟨p,xs,rfl,zu,AllIs.mono0 (zI h5 _) h6⟩,fun b2 d2 u2 k ne=>?_⟩
   cases b2 with
   | false=>exact Is.mono0 (zI h5 _) k
   | true=>
    rcases k with ⟨fs,q,ys,rfl,rfl,k3,k4,k5,k6⟩ | ⟨k1,k2⟩
    ·have hq:q≠p:=fun z=>ne es fs rfl rfl rfl rfl (by rw [z])
     exact .inl ⟨fs,q,ys,rfl,rfl,k3,k4,(zw hq).trans k5,AllIs.mono0 (zI h5 _) k6⟩
    ·exact .inr ⟨k1,Is.mono0 (zI h5 _) k2⟩
  ·exact ⟨W,rfl,Same.refl _,le,h2,fun _ _ _ k _=>k⟩
theorem Tld.frz {fr:Fr} {d:Dt} {v:V} (le:Le W0 W) (h:Tld K W0.h W fr d v):∃ W1:Vw,W1.h=W.h∧Le W0 W1∧Is K W1.g d v:=by
 match fr,h with
 | .d,h=>exact ⟨W,rfl,le,h⟩
 | .l,⟨es,p,xs,e1,e2,h3,h4,h5,h6⟩=>
  subst e1; subst e2
  exact ⟨W.frz p _ h4,rfl,vV le h3 h4 h5,is_lst.mpr ⟨p,xs,rfl,zu,AllIs.mono0 (zI h5 _) h6⟩⟩
 | .t a b,⟨d1,d2,q,u1,u2,e1,e2,hq,p1,p2,ne⟩=>
  subst e1; subst e2
  obtain ⟨W1,e1,s1,le1,i1,k1⟩:=p1.frz le
  obtain ⟨W2,e2,s2,le2,i2,_⟩:=(k1 b d2 u2 p2 ne).frz le1
  exact ⟨W2,e2.trans e1,le2,is_tup.mpr ⟨q,_,rfl,s2 _ _ (s1 _ _ hq),allIs_cons.mpr ⟨u1,_,rfl,Is.mono0 s2 i1,allIs_cons.mpr ⟨u2,_,rfl,i2,allIs_nil.mpr rfl⟩⟩⟩⟩
end
def nP (K:PySem.W.Frag) (fr:Fr) (S:DSp):Sp:=fun vs H Q _=>∃ (W:Vw) (ds:List Dt) (Qd:Dt→Prop),W.h=H∧AllIs K W.g ds vs∧S ds Qd∧∀ d v W',Le W W'→Tld K W.h W' fr d v→Qd d→Q v W'.h
def qg (K:PySem.W.Frag) (fr:Fr) (S:y9):Sp:=fun vs H Q E=>∃ (W:Vw) (ds:List Dt) (Qd:Dt→Prop) (Ed:Addr→Prop),W.h=H∧AllIs K W.g ds vs∧S ds Qd Ed∧
 (∀ d v W',Le W W'→Tld K W.h W' fr d v→Qd d→Q v W'.h)∧∀ C H',Same W.h H'→Ed C→E (.ref C) none H'
structure TOk (P:Program) (w:World) (K:PySem.W.Frag) (mg:Str→Option Value) (base:Heap) (n:Nat) (x:Str) (fr:Fr) (S:DSp):Prop where
 ex:∃ f fd ps,mg x=some (.ref f)∧PySem.W.keepIn K (.ref f)=true∧Binds K fd ps []∧FnOk P w K mg base CX0 n f fd ps (nP K fr S)
structure TOkX (P:Program) (w:World) (K:PySem.W.Frag) (mg:Str→Option Value) (base:Heap) (n:Nat) (x:Str) (fr:Fr) (S:y9):Prop where
 ex:∃ f fd ps,mg x=some (.ref f)∧PySem.W.keepIn K (.ref f)=true∧Binds K fd ps []∧FnOk P w K mg base (CX1 P w) n f fd ps (qg K fr S)
section
variable {P:Program} {w:World} {K:PySem.W.Frag} {mg:Str→Option Value} {base:Heap} {fr:Fr}
theorem TOk.dok {x:Str} {n:Nat} {S:DSp} (h:TOk P w K mg base n x fr S):DOk P w K mg base n x S:=
 let ⟨f,fd,ps,h1,h2,h3,h4⟩:=h.ex; ⟨f,fd,ps,h1,h2,h3,h4.imp fun vs H Q E ⟨W,ds,Qd,a,b,c,k⟩=>⟨W,ds,Qd,a,b,c,fun d v W' le t q=>by
  obtain ⟨W1,e1,le1,i1⟩:=t.frz le
  rw [← e1]
  exact k d v W1 le1 i1 q⟩⟩
theorem TOkX.dok {x:Str} {n:Nat} {S:y9} (h:TOkX P w K mg base n x fr S):DOkX P w K mg base n x S:=
 let ⟨f,fd,ps,h1,h2,h3,h4⟩:=h.ex; ⟨f,fd,ps,h1,h2,h3,h4.imp fun vs H Q E ⟨W,ds,Qd,Ed,a,b,c,k,ke⟩=>⟨W,ds,Qd,Ed,a,b,c,fun d v W' le t q=>by
  obtain ⟨W1,e1,le1,i1⟩:=t.frz le
  rw [← e1]
  exact k d v W1 le1 i1 q,ke⟩⟩
theorem okT {x qual:Str} {st:Stmt} {f:Addr} {fd:FuncData} {N ps:List Str} {k:Nat} {S:DSp} (F:Fun K x qual st f fd) (sc:zg N ps (defScope st)) (len:∀ ds Q,S ds Q→ds.length=ps.length)
  (hbody:∀ (cdv:Value) (A:Around) (outer:List Env) (s:Shared) (H:Hp) (E:XK),Room k (A.deeper (envOfC qual (defScope st) s.heap.objs.size f cdv))→∀ (ds:List Dt) (Q:Dt→Prop),S ds Q→
   ∃ t,DSs (yn CX0 P w K mg base N qual (defScope st) f cdv A outer s H E).nox fr (defBody st) t∧t { nx:=fun _=>False,rt:=Q } (z_ N.length ds)):FnOk P w K mg base CX0 (k+1) f fd ps (nP K fr S):=by
 refine F.ok sc (fun vs H Q E h=>?_) (fun cdv A outer s H vs Q E hr h=>?_)
 ·obtain ⟨W,ds,Qd,_,ia,hS,_⟩:=h
  rw [← ia.length]
  exact len ds Qd hS
 obtain ⟨W,ds,Qd,rfl,ia,hS,kk⟩:=h
 obtain ⟨t,⟨ts,p,l⟩,ht⟩:=hbody cdv A outer s W.h E hr ds Qd hS
 exact ⟨ts,p,l W W.g (z_ N.length ds) (start N vs) W { nx:=fun _=>False,rt:=Qd } _ (xy ia (vy (Nat.succ_ne_self _))) ⟨fun ρ σ W' a q=>q.elim,kk,fun _ _ _ _ q=>q.elim,fun _ _ _ _ q=>q.elim⟩ ht⟩
theorem VQ {x qual:Str} {st:Stmt} {f:Addr} {fd:FuncData} {N ps:List Str} {k:Nat} {S:y9} (F:Fun K x qual st f fd) (sc:zg N ps (defScope st)) (len:∀ ds Q R,S ds Q R→ds.length=ps.length)
  (hbody:∀ (cdv:Value) (A:Around) (outer:List Env) (s:Shared) (H:Hp) (E:XK),Room k (A.deeper (envOfC qual (defScope st) s.heap.objs.size f cdv))→∀ (ds:List Dt) (Q:Dt→Prop) (R:Addr→Prop),S ds Q R→
   (∀ C,R C→Rz (yn (CX1 P w) P w K mg base N qual (defScope st) f cdv A outer s H E) C)→
   ∃ t,DSs (yn (CX1 P w) P w K mg base N qual (defScope st) f cdv A outer s H E) fr (defBody st) t∧t { nx:=fun _=>False,rt:=Q } (z_ N.length ds)):FnOk P w K mg base (CX1 P w) (k+1) f fd ps (qg K fr S):=by
 refine Fun.okX F sc (fun vs H Q E h=>?_) (fun cdv A outer s H vs Q E hr h=>?_)
 ·obtain ⟨W,ds,Qd,Ed,_,ia,hS,_⟩:=h
  rw [← ia.length]
  exact len ds Qd Ed hS
 obtain ⟨W,ds,Qd,Ed,rfl,ia,hS,kk,ke⟩:=h
 obtain ⟨t,⟨ts,p,l⟩,ht⟩:=hbody cdv A outer s W.h E hr ds Qd Ed hS fun C hC=>lx fun H' z=>ke C H' z hC
 exact ⟨ts,p,l W W.g (z_ N.length ds) (start N vs) W { nx:=fun _=>False,rt:=Qd } _ (xy ia (vy (Nat.succ_ne_self _))) ⟨fun ρ σ W' a q=>q.elim,kk,fun _ _ _ _ q=>q.elim,fun _ _ _ _ q=>q.elim⟩ ht⟩
theorem TOk.mk' {x qual:Str} {st:Stmt} {f:Addr} {fd:FuncData} {ps:List Str} {n:Nat} {S:DSp} (F:Fun K x qual st f fd) (hm:mg x=some (.ref f)) (hb:Binds K fd ps []) (h:FnOk P w K mg base CX0 n f fd ps (nP K fr S)):TOk P w K mg base n x fr S:=
 ⟨f,fd,ps,hm,F.kp,hb,h⟩
theorem TOkX.mk' {x qual:Str} {st:Stmt} {f:Addr} {fd:FuncData} {ps:List Str} {n:Nat} {S:y9} (F:Fun K x qual st f fd) (hm:mg x=some (.ref f)) (hb:Binds K fd ps []) (h:FnOk P w K mg base (CX1 P w) n f fd ps (qg K fr S)):TOkX P w K mg base n x fr S:=
 ⟨f,fd,ps,hm,F.kp,hb,h⟩
end
def LiR (K:PySem.W.Frag) (Z:Hp) (fr:Fr) (te:TE) (t:DTE):Prop:=
 ∀ {F:Hp} (ρ:DS) (σ:St) (H:Vw) (Q:Dt→Prop),Rl K Z F H ρ σ→t ρ Q→∀ R:VK,(∀ d v H',Le H H'→Tld K H.h H' fr d v→Q d→R v H'.h)→te σ H.h R
def DR (X:Cx) (fr:Fr) (e:Expr) (t:DTE):Prop:=∃ te,PE X e te∧LiR X.K (Zx X) fr te t
def LiP (K:PySem.W.Frag) (Z:Hp) (b:Bool) (te:TE) (t:DTE):Prop:=
 ∀ {F:Hp} (ρ:DS) (σ:St) (H:Vw) (Q:Dt→Prop),Rl K Z F H ρ σ→t ρ Q→∀ R:VK,(∀ d v H',Le H H'→Prt K F H' b d v→Q d→R v H'.h)→te σ H.h R
def DP (X:Cx) (b:Bool) (e:Expr) (t:DTE):Prop:=∃ te,PE X e te∧LiP X.K (Zx X) b te t
theorem lh {K:PySem.W.Frag} {F G:Hp} {W:Vw} {fr:Fr} {d:Dt} {v:V} (z:∀ p,F p=none→G p=none) (h:Tld K F W fr d v):Tld K G W fr d v:=by
 have pp:∀ {b:Bool} {d:Dt} {v:V},Prt K F W b d v→Prt K G W b d v:=fun {b d v} h=>by
  cases b with
  | false=>exact h
  | true=>exact h.imp (fun h=>h.le z) id
 match fr,h with
 | .d,h=>exact h
 | .l,h=>exact NewL.le h z
 | .t a b,⟨d1,d2,q,u1,u2,e1,e2,hq,p1,p2,ne⟩=>exact ⟨d1,d2,q,u1,u2,e1,e2,hq,pp p1,pp p2,ne⟩
section
variable {X:Cx} {fr:Fr} {a b:Bool} {e e1 e2:Expr} {es:List Expr} {t t1 t2:DTE} {ta:DTA} {n:Nat} {x y:Str} {S:DSp} {SX:y9} {p pos p0 p1 p2:Pos} {i j:Nat}
theorem f_ (G:TOk X.prog X.w X.K X.mg X.base n x fr S) (hr:Room n X.A) (hg:Gl X x) (ha:DA X (e::es) ta) (hdb:(x == ("__debug__":Str))=false:=by decide)
  (he:starEach (e::es) X.env=(false,eval e X.env)::starEach es X.env:=by rfl) (hpl:(backTo pos (starEach es X.env)).any (·.1)=false:=by rfl):DR X fr (.Call (.Name x p) (e::es) [] pos) (jm S ta):=by
 obtain ⟨f,fd,ps,hm,hk,hb,F⟩:=G.ex
 obtain ⟨te,p1,l1⟩:=ha
 refine ⟨_,xL F hr hg hm hk hb .nil tu p1 hdb he hpl,fun ρ σ H Q r h R k=>l1 ρ σ H _ r h _ fun ds vs H1 s1 i1 q1=>?_⟩
 rw [List.append_nil]
 exact ⟨H1,ds,Q,rfl,i1,q1,fun d v H2 s2 t2 q2=>k d v H2 (s1.trans s2) (lh (fun _ z=>s1.h.free z) t2) q2⟩
theorem jb (G:TOkX X.prog X.w X.K X.mg X.base n x fr SX) (hr:Room n X.A) (hg:Gl X x) (ha:DA X (e::es) ta) (hdb:(x == ("__debug__":Str))=false:=by decide)
  (he:starEach (e::es) X.env=(false,eval e X.env)::starEach es X.env:=by rfl) (hpl:(backTo pos (starEach es X.env)).any (·.1)=false:=by rfl):DR X fr (.Call (.Name x p) (e::es) [] pos) (oU X SX ta):=by
 obtain ⟨f,fd,ps,hm,hk,hb,F⟩:=G.ex
 obtain ⟨te,p1,l1⟩:=ha
 refine ⟨_,xL F hr hg hm hk hb .nil tq p1 hdb he hpl,fun ρ σ H Q r h R k=>l1 ρ σ H _ r h _ fun ds vs H1 s1 i1 q1=>?_⟩
 rw [List.append_nil]
 exact ⟨H1,ds,Q,Rz X,rfl,i1,q1,fun d v H2 s2 t2 q2=>k d v H2 (s1.trans s2) (lh (fun _ z=>s1.h.free z) t2) q2,fun C H' s' hC=>⟨C,rfl,(hC H' (((ni r).trans s1.h).trans s')).2⟩⟩
def Ud (t:DTE):DTE:=fun ρ Q=>t ρ fun d=>∃ d1 es,d=.tup [d1,.lst es]∧Q (.lst es)
theorem Yu {jj} (h:DR X (.t a true) e t) (hs:vw (.Constant (.int 1) jj p0)):DF X (.Subscript e (.Constant (.int 1) jj p0) pos) (Ud t):=by
 obtain ⟨te,p1,l1⟩:=h
 refine ⟨_,nn oB p1 og hs,fun ρ σ H Q r h R k=>l1 ρ σ H _ r h _ fun d v H1 s1 ⟨d1,d2,q,u1,u2,e1,e2,hq,pt1,pt2,ne⟩ ⟨d1',es,ed,qq⟩=>?_⟩
 subst e2
 rw [ed] at e1
 cases e1
 rcases pt2 with ⟨fs,p,xs,e1,e2,h3,h4,h5,h6⟩ | ⟨z,_⟩
 ·cases e1; subst e2
  exact .inr (.inl ⟨q,_,1,_,rfl,rfl,.of (H1.sub _ _ hq),rfl,k es p xs H1 s1 h3 h4 h5 h6 qq⟩)
 ·cases z
theorem V9 (h:DE X e t):DP X false e t:=let ⟨te,p,l⟩:=h; ⟨te,p,fun ρ σ H Q r h R k=>l ρ σ H Q r h R k⟩
theorem V8 (h:DF X e t):DP X true e t:=let ⟨te,p,l⟩:=h; ⟨te,p,fun ρ σ H Q r h R k=>l ρ σ H Q r h R fun es q xs H' s h0 h1 h2 i z=>k (.lst es) (.ref q) H' s (.inl ⟨es,q,xs,rfl,rfl,r.fr.free h0,h1,h2,i⟩) z⟩
def Ui (i:Nat):DTE:=fun ρ Q=>∃ ds,ρ[i]? = some (.own ds)∧Q (.lst ds)
def dn (t1 t2:DTE):DTS:=fun D ρ=>t1 ρ fun d1=>t2 ρ fun d2=>D.rt (.tup [d1,d2])
theorem fW {x1} (h1:DP X a e1 t1) (h2:DP X b e2 t2) (hne:a=false∨b=false:=by first | exact .inl rfl | exact .inr rfl)
  (hst:starEach [e1,e2] X.env=(false,eval e1 X.env)::starEach [e2] X.env:=by rfl) (hst2:starEach [e2] X.env=(false,eval e2 X.env)::starEach [] X.env:=by rfl):
  DSt X (.t a b) (.Return (some (.Tuple [e1,e2] x1 p0)) pos) (dn t1 t2):=by
 obtain ⟨te1,q1,l1⟩:=h1
 obtain ⟨te2,q2,l2⟩:=h2
 refine ⟨_,tj (oe (zE q1 (zE q2 yf hst2) hst)),fun W0 G ρ σ W D D' at_ s h=>?_⟩
 refine l1 ρ σ W _ at_.rl h _ fun d1 u1 W1 s1 pt1 h=>?_
 refine l2 ρ σ W1 _ (at_.rl.mono s1) h _ fun d2 u2 W2 s2 pt2 q=>?_
 refine ⟨by show 2≤_; decide,fun p hp=>?_⟩
 have s3:=vU hp (.tup [u1,u2])
 refine s.tl (.tup [d1,d2]) (.ref p) (W2.new p (.tup [u1,u2])) ((at_.le.trans s1).trans (s2.trans s3)) ⟨d1,d2,p,u1,u2,rfl,rfl,zu,(pt1.mono s2).mono s3,pt2.mono s3,fun _ _ z1 z2=>?_⟩ q
 rcases hne with z | z
 ·rw [z1] at z; cases z
 ·rw [z2] at z; cases z
theorem kW {x1} (i:Nat) (h2:DF X e2 t2) (hN:X.N[i]? = some x:=by rfl) (hv:Vis X.env.scope x:=by first | exact Or.inl rfl | exact Or.inr (Or.inl rfl) | exact Or.inr (Or.inr rfl)) (hd:(x == ("__debug__":Str))=false:=by decide)
  (hcd:(x == ("__classdict__":Str))=false:=by decide)
  (hst:starEach [.Name x p1,e2] X.env=(false,eval (.Name x p1) X.env)::starEach [e2] X.env:=by rfl) (hst2:starEach [e2] X.env=(false,eval e2 X.env)::starEach [] X.env:=by rfl):
  DSt X (.t true true) (.Return (some (.Tuple [.Name x p1,e2] x1 p0)) pos) (dn (Ui i) t2):=by
 obtain ⟨te2,q2,l2⟩:=h2
 refine ⟨_,tj (oe (zE (z8 hN hv hd hcd) (zE q2 yf hst2) hst)),fun W0 G ρ σ W D D' at_ s h=>?_⟩
 obtain ⟨ds,e,h⟩:=h
 obtain ⟨c,xs,e1,k2,k3,k4,k5⟩:=at_.rl.ow i ds e
 refine ⟨.ref c,e1,l2 ρ σ W _ at_.rl h _ fun es q ys W2 s2 h0 h1 h2 i2 qq=>?_⟩
 refine ⟨by show 2≤_; decide,fun p hp=>?_⟩
 have s3:=vU hp (.tup [.ref c,.ref q])
 have n1:NewL X.K W0.h W (.lst ds) (.ref c):=⟨ds,c,xs,rfl,rfl,k4,k2,k3,k5⟩
 have n2:NewL X.K W0.h W2 (.lst es) (.ref q):=⟨es,q,ys,rfl,rfl,at_.le.h.free h0,h1,h2,i2⟩
 refine s.tl _ (.ref p) (W2.new p (.tup [.ref c,.ref q])) (at_.le.trans (s2.trans s3)) ⟨_,_,p,_,_,rfl,rfl,zu,.inl ((n1.mono s2).mono s3),.inl (n2.mono s3),fun _ _ _ _ _ _ z=>?_⟩ qq
 cases z
 rw [h0] at k2
 cases k2
def slP:Bool→Dt→Sl
 | true,.lst es=>.own es
 | _,d=>.some d
theorem Rl.ownN {K:PySem.W.Frag} {F:Hp} {W:Vw} {ρ:DS} {σ:St} (r:Rl K Z F W ρ σ) {p:Addr} {xs:List V} {ds:List Dt} (i:Nat) (nep:∀ (j:Nat) (es:List Dt),ρ[j]? = some (Sl.own es)→σ[j]?≠some (some (V.ref p))) (nea:∀ (j:Nat) (a:Addr) (es:List Dt),ρ[j]? = some (Sl.arg a es)→a≠p)
  (hF:F p=none) (h1:W.h p=some (.lst xs)) (h2:W.g p=none) (h3:AllIs K W.g ds xs):Rl K Z F W (ρ.set i (.own ds)) (σ.set i (some (.ref p))):=by
 refine ⟨by rw [List.length_set,List.length_set]; exact r.len,fun j e q=>?_,fun j es q=>?_,fun j k es es' hjk q1 q2=>?_,r.fr,r.z,fun j a fs q=>?_⟩
 ·rcases zk q with ⟨_,_,e1⟩ | ⟨hij,q⟩
  ·cases e1
  ·rw [List.getElem?_set_ne hij]
   exact r.at_ j e q
 ·rcases zk q with ⟨rfl,hl,e1⟩ | ⟨hij,q⟩
  ·cases e1
   exact ⟨p,xs,by rw [List.getElem?_set_self (by rw [← r.len]; exact hl)],h1,h2,hF,h3⟩
  ·rw [List.getElem?_set_ne hij]
   exact r.ow j es q
 ·rcases zk q1 with ⟨rfl,hl,e1⟩ | ⟨hij,q1⟩
  ·rcases zk q2 with ⟨rfl,_,_⟩ | ⟨hik,q2⟩
   ·exact absurd rfl hjk
   ·rw [List.getElem?_set_self (by rw [← r.len]; exact hl),List.getElem?_set_ne hik]
    exact fun z=>nep k es' q2 z.symm
  ·rcases zk q2 with ⟨rfl,hl,_⟩ | ⟨hik,q2⟩
   ·rw [List.getElem?_set_self (by rw [← r.len]; exact hl),List.getElem?_set_ne hij]
    exact nep j es q1
   ·rw [List.getElem?_set_ne hij,List.getElem?_set_ne hik]
    exact r.ne j k es es' hjk q1 q2
 ·rcases zk q with ⟨_,_,e1⟩ | ⟨hij,q⟩
  ·cases e1
  obtain ⟨⟨ys,g1,g2⟩,k1,k2⟩:=r.ar j a fs q
  refine ⟨⟨ys,by rw [List.getElem?_set_ne hij]; exact g1,g2⟩,fun k es q'=>?_,fun k c es q'=>?_⟩
  ·rcases zk q' with ⟨rfl,hl,e1⟩ | ⟨hik,q'⟩
   ·rw [List.getElem?_set_self (by rw [← r.len]; exact hl)]
    intro z
    cases z
    exact nea j _ fs q rfl
   ·rw [List.getElem?_set_ne hik]
    exact k1 k es q'
  ·rcases zk q' with ⟨_,_,e1⟩ | ⟨hik,q'⟩
   ·cases e1
   exact k2 k c es q'
theorem Rl.part {K:PySem.W.Frag} {F F':Hp} {W:Vw} {ρ:DS} {σ:St} (r:Rl K Z F W ρ σ) {b:Bool} {d:Dt} {v:V} (i:Nat) (h:Prt K F' W b d v) (hF:∀ p,F' p=none→F p=none)
  (nep:∀ (p:Addr) (j:Nat) (es fs:List Dt),b=true→d=.lst fs→v=.ref p→F' p=none→ρ[j]? = some (Sl.own es)→σ[j]?≠some (some (V.ref p))) (nea:∀ (p:Addr) (j:Nat) (a:Addr) (es:List Dt),F' p=none→ρ[j]? = some (Sl.arg a es)→a≠p):
  Rl K Z F W (ρ.set i (slP b d)) (σ.set i (some v)):=by
 cases b with
 | false=>cases d <;> exact r.set i h
 | true=>
  rcases h with ⟨es,p,xs,rfl,rfl,h3,h4,h5,h6⟩ | ⟨z,h2⟩
  ·exact r.ownN i (fun j fs e=>nep p j fs es rfl rfl rfl h3 e) (fun j a fs e=>nea p j a fs h3 e) (hF p h3) h4 h5 h6
  ·cases d <;> first | exact r.set i h2 | cases z
end
end OD
namespace L2
open PySem PySem.Spec PyProof.Rows
def Cx.arg (X:Cx):Cx:={ X with fn:=fun y=>!(y == "") }
section
variable {X:Cx} {pins:List (Addr × Obj)} {σ:St} {H:Hp} {s:Shared}
theorem Inv.arg (I:Inv X pins σ H s) (hf:∀ y,X.fn y=true):Inv X.arg pins σ H s:=
 ⟨⟨I.ok.mod,I.ok.kind,I.ok.glob,I.ok.blt,I.ok.above,I.ok.inj,I.ok.has,fun x c _=>I.ok.cab x c (hf x),I.ok.hd,I.ok.frames,I.ok.stk,I.ok.exf,I.ok.bs,I.ok.bsz,I.ok.noex,I.ok.exfs,I.ok.funs,I.ok.frf⟩,I.os,I.bare,I.base,I.loc,I.cell,I.free,I.freeC,I.pin,I.hok,I.len⟩
theorem Inv.outA (ok:X.Ok) (I:Inv X.arg pins σ H s):Inv X pins σ H s:=⟨ok,I.os,I.bare,I.base,I.loc,I.cell,I.free,I.freeC,I.pin,I.hok,I.len⟩
theorem SP.outA {D:Ends} {f:Flow} {s':Shared} (ok:X.Ok) (h:SP X.arg pins D f s'):SP X pins D f s':=by
 cases f with
 | next=>obtain ⟨σ',H',I,q⟩:=h; exact ⟨σ',H',I.outA ok,q⟩
 | brk=>obtain ⟨σ',H',I,q⟩:=h; exact ⟨σ',H',I.outA ok,q⟩
 | cont=>obtain ⟨σ',H',I,q⟩:=h; exact ⟨σ',H',I.outA ok,q⟩
 | ret u=>obtain ⟨v,σ',H',I,r,q⟩:=h; exact ⟨v,σ',H',I.outA ok,r,q⟩
theorem PSs.outA {sts:List Stmt} {ts:TS} (h:PSs X.arg sts ts) (hf:∀ y,X.fn y=true):PSs X sts ts:=fun pins s σ H D I q=>thn (h pins s σ H D (I.arg hf) q) fun _ _ z=>SP.outA I.ok z
theorem kH:Vv X (fun o i H Q=>∃ p xs k v,o=.ref p∧i=.int k∧0≤k∧H p=some (.lst xs)∧xs[k.toNat]? = some v∧Q v H):=by
 intro pins s σ H o i ov iv Q I ro ri h
 obtain ⟨p,xs,k,v,rfl,rfl,h0,hp,hv,q⟩:=h
 cases ro
 obtain ⟨t,rfl⟩:=ri
 obtain ⟨its,r,pl,hz⟩:=I.list (.of hp)
 obtain ⟨w,ew,rw'⟩:=r.get hv
 have hl:=r.length
 have hn:=w6
 have hk:k.toNat<xs.length:=by
  rcases Nat.lt_or_ge k.toNat xs.length with z | z
  ·exact z
  ·rw [List.getElem?_eq_none z] at hv; cases hv
 exact wpAny_getItem_list pl.isList h0 (by omega) (by simpa using ew) ⟨v,H,I,rw',q⟩
end
end L2
namespace OD
variable {Z:Hp}
open PySem PySem.Spec PyProof.Rows L2
theorem dF {X:Cx}:Zx X.arg=fun _=>none:=if_pos (.inr (by show (!(("":Str) == ""))=false; decide))
def Vw.del (W:Vw) (a:Addr) (hg:W.g a=none):Vw:=⟨W.g,fun b=>if b=a then none else W.h b,fun b o q=>by
 have:b≠a:=fun e=>by rw [e,hg] at q; cases q
 show (if b=a then none else W.h b)=some o
 rw [if_neg this]
 exact W.sub _ _ q⟩
theorem ub {W:Vw} {a b:Addr} {hg:W.g a=none} (h:b≠a):(W.del a hg).h b=W.h b:=if_neg h
theorem jf (W:Vw) (a:Addr) (hg:W.g a=none):Le (W.del a hg) W:=⟨Same.refl _,fun b o q=>by
 by_cases e:b=a
 ·subst e
  have q:(if b=b then none else W.h b)=some o:=q
  rw [if_pos rfl] at q
  cases q
 ·rw [← ub (hg:=hg) e]; exact q,fun _ _ h=>h⟩
theorem Le.undel {W0 W W':Vw} {a:Addr} {hg:W.g a=none} (l0:Le W0 W) (h0:W0.h a=none) (l:Le (W.del a hg) W'):Le W0 W':=
 ⟨l0.g.trans l.g,fun b o q=>by
  have e:b≠a:=fun e=>by rw [e,h0] at q; cases q
  exact l.h b o ((ub e).trans (l0.h b o q)),fun b h1 h2=>by
  have e:b≠a:=fun e=>h1 (e ▸ h0)
  exact l.n b (by rw [ub e]; exact fun z=>h1 (l0.h.free z)) (l0.n b h1 h2)⟩
theorem Rl.lent {K:PySem.W.Frag} {F:Hp} {W W':Vw} {ρ:DS} {σ:St} (r:Rl K Z F W ρ σ) {i:Nat} {ds fs:List Dt} {a:Addr} {ys:List V} (hi:ρ[i]? = some (.own ds)) (ha:σ[i]? = some (some (.ref a))) (hg:W.g a=none) (hF:F a=none)
  (le:Le (W.del a hg) W') (h1:W'.h a=some (.lst ys)) (h2:W'.g a=none) (h3:AllIs K W'.g fs ys):Rl K Z F W' (ρ.set i (.own fs)) σ:=by
 have other:∀ j gs,j≠i→ρ[j]? = some (.own gs)→σ[j]?≠some (some (.ref a)):=fun j gs hj q z=>r.ne j i gs ds hj q hi (z.trans ha.symm)
 have keep:∀ b xs,b≠a→W.h b=some (.lst xs)→W.g b=none→W'.h b=some (.lst xs)∧W'.g b=none:=fun b xs hb q1 q2=>
  ⟨le.h b _ ((ub hb).trans q1),le.n b (by rw [ub hb,q1]; intro z; cases z) q2⟩
 refine ⟨by rw [List.length_set]; exact r.len,fun j e q=>?_,fun j gs q=>?_,fun j k gs gs' hjk q1 q2=>?_,fun p o q=>?_,r.z,fun j c gs q=>?_⟩
 ·rcases zk q with ⟨_,_,e1⟩ | ⟨hij,q⟩
  ·cases e1
  ·obtain ⟨v,e1,e2⟩:=r.at_ j e q
   exact ⟨v,e1,Is.mono0 le.g e2⟩
 ·rcases zk q with ⟨rfl,_,e1⟩ | ⟨hij,q⟩
  ·cases e1
   exact ⟨a,ys,ha,h1,h2,hF,h3⟩
  ·obtain ⟨b,xs,e1,e2,e3,e4,e5⟩:=r.ow j gs q
   have hb:b≠a:=fun z=>other j gs (fun z=>hij z.symm) q (z ▸ e1)
   obtain ⟨k1,k2⟩:=keep b xs hb e2 e3
   exact ⟨b,xs,e1,k1,k2,e4,AllIs.mono0 le.g e5⟩
 ·have k1:∃ hs,ρ[j]? = some (.own hs):=by
   rcases zk q1 with ⟨rfl,_,_⟩ | ⟨_,q⟩
   ·exact ⟨_,hi⟩
   ·exact ⟨_,q⟩
  have k2:∃ hs,ρ[k]? = some (.own hs):=by
   rcases zk q2 with ⟨rfl,_,_⟩ | ⟨_,q⟩
   ·exact ⟨_,hi⟩
   ·exact ⟨_,q⟩
  obtain ⟨_,k1⟩:=k1
  obtain ⟨_,k2⟩:=k2
  exact r.ne j k _ _ hjk k1 k2
 ·have e:p≠a:=fun e=>by rw [e,hF] at q; cases q
  exact le.h p o ((ub e).trans (r.fr p o q))
 ·rcases zk q with ⟨_,_,e1⟩ | ⟨hij,q⟩
  ·cases e1
  obtain ⟨⟨xs,g1,g2,g3,g4,g5⟩,k1,k2⟩:=r.ar j c gs q
  have hc:c≠a:=fun z=>k1 i ds hi (by rw [z]; exact ha)
  obtain ⟨m1,m2⟩:=keep c xs hc g2 g3
  refine ⟨⟨xs,g1,m1,m2,g4,AllIs.mono0 le.g g5⟩,fun k es' q'=>?_,fun k c' es' q'=>?_⟩
  ·rcases zk q' with ⟨rfl,_,_⟩ | ⟨_,q'⟩
   ·exact k1 i ds hi
   ·exact k1 k es' q'
  ·rcases zk q' with ⟨_,_,e1⟩ | ⟨hik,q'⟩
   ·cases e1
   exact k2 k c' es' q'
theorem Rl.putA {K:PySem.W.Frag} {F:Hp} {W:Vw} {ρ:DS} {σ:St} (r:Rl K Z F W ρ σ) {i:Nat} {ds es:List Dt} {a:Addr} {ys:List V} (hi:ρ[i]? = some (.arg a ds)) (hg:W.g a=none) (hF:F a=none) (h3:AllIs K W.g es ys):
  Rl K Z F (W.mine a (.lst ys) hg) (ρ.set i (.arg a es)) σ:=by
 obtain ⟨⟨xs,ha,_⟩,no,on⟩:=r.ar i a ds hi
 refine ⟨by rw [List.length_set]; exact r.len,fun j e q=>?_,fun j fs q=>?_,fun j k fs fs' hjk q1 q2=>?_,fun p o q=>?_,r.z,fun j c fs q=>?_⟩
 ·rcases zk q with ⟨_,_,e1⟩ | ⟨hij,q⟩
  ·cases e1
  ·exact r.at_ j e q
 ·rcases zk q with ⟨_,_,e1⟩ | ⟨hij,q⟩
  ·cases e1
  ·obtain ⟨b,xs,e1,e2,e3,e4,e5⟩:=r.ow j fs q
   have hb:b≠a:=fun z=>no j fs q (z ▸ e1)
   exact ⟨b,xs,e1,(zw hb).trans e2,e3,e4,e5⟩
 ·rcases zk q1 with ⟨_,_,e1⟩ | ⟨_,q1⟩
  ·cases e1
  rcases zk q2 with ⟨_,_,e1⟩ | ⟨_,q2⟩
  ·cases e1
  exact r.ne j k _ _ hjk q1 q2
 ·have e:p≠a:=fun e=>by rw [e,hF] at q; cases q
  exact (zw (H:=W.h) (o:=.lst ys) e).trans (r.fr p o q)
 ·rcases zk q with ⟨rfl,hl,e1⟩ | ⟨hij,q⟩
  ·cases e1
   refine ⟨⟨ys,ha,zu,hg,hF,h3⟩,fun k es' q'=>?_,fun k c' es' q'=>?_⟩
   ·rcases zk q' with ⟨_,_,e1⟩ | ⟨_,q'⟩
    ·cases e1
    ·exact no k es' q'
   ·rcases zk q' with ⟨rfl,_,_⟩ | ⟨hik,q'⟩
    ·rfl
    ·exact on k c' es' q'
  ·exact absurd (on j c fs q) (fun z=>hij z.symm)
theorem At.putA {K:PySem.W.Frag} {W0 W:Vw} {G:Hp} {ρ:DS} {σ:St} (at_:At K Z W0 G W ρ σ) {i:Nat} {ds es:List Dt} {a:Addr} {ys:List V} (hi:ρ[i]? = some (.arg a ds)) (hg:W.g a=none) (hF:W0.h a=none) (h3:AllIs K W.g es ys):
  At K Z W0 G (W.mine a (.lst ys) hg) (ρ.set i (.arg a es)) σ:=
 ⟨⟨at_.le.g,fun b o q=>by
   have:b≠a:=fun e=>by rw [e,hF] at q; cases q
   show upd W.h a _ b=some o
   rw [zw this]; exact at_.le.h _ _ q,at_.le.n⟩,at_.gs,at_.rl.putA hi hg hF h3⟩
abbrev ASp:=Dt→List Dt→List Dt→(List Dt→Prop)→Prop
def pI (K:PySem.W.Frag) (S:ASp):Sp:=fun vs H Q _=>∃ (W:Vw) (d0:Dt) (es0 ds:List Dt) (Qd:List Dt→Prop) (v0:V) (a:Addr) (xs vs':List V) (hg:W.g a=none),W.h=H∧vs=v0::.ref a::vs'∧W.h a=some (.lst xs)∧Is K W.g d0 v0∧AllIs K W.g es0 xs∧AllIs K W.g ds vs'∧S d0 es0 ds Qd∧
 ∀ es ys W',Le (W.del a hg) W'→W'.h a=some (.lst ys)→W'.g a=none→AllIs K W'.g es ys→Qd es→Q .non W'.h
structure AOk (P:Program) (w:World) (K:PySem.W.Frag) (mg:Str→Option Value) (base:Heap) (n:Nat) (x:Str) (S:ASp):Prop where
 ex:∃ f fd ps,mg x=some (.ref f)∧PySem.W.keepIn K (.ref f)=true∧Binds K fd ps []∧FnOk P w K mg base CX0 n f fd ps (pI K S)
def tW (n:Nat) (d0:Dt) (a:Addr) (es0 ds:List Dt):DS:=.some d0::.arg a es0::(ds.map Sl.some++List.replicate (n - (ds.length+2)) Sl.none)
section
variable {P:Program} {w:World} {K:PySem.W.Frag} {mg:Str→Option Value} {base:Heap}
theorem ml {W:Vw} {N:List Str} {d0:Dt} {v0:V} {a:Addr} {es0 ds:List Dt} {xs vs:List V} (hg:W.g a=none) (ha:W.h a=some (.lst xs)) (i0:Is K W.g d0 v0) (i1:AllIs K W.g es0 xs) (i2:AllIs K W.g ds vs):
  Rl K (fun _=>none) (W.del a hg).h W (tW N.length d0 a es0 ds) (L2.start N (v0::.ref a::vs)):=by
 have hl:=i2.length
 have cls:∀ (i:Nat) (y:Sl),(ds.map Sl.some++List.replicate (N.length - (ds.length+2)) Sl.none)[i]? = some y→(∃ d,ds[i]? = some d∧y=.some d)∨y=.none:=fun i y e=>by
  by_cases hi:i<ds.length
  ·rw [List.getElem?_append_left (by rw [List.length_map]; exact hi),List.getElem?_map] at e
   obtain ⟨d',h1,h2⟩:=Option.map_eq_some_iff.mp e
   exact .inl ⟨d',h1,h2.symm⟩
  ·rw [List.getElem?_append_right (by rw [List.length_map]; omega),List.getElem?_replicate] at e
   split at e
   ·exact .inr (Option.some.inj e).symm
   ·cases e
 have noOwn:∀ (i:Nat) (es:List Dt),(tW N.length d0 a es0 ds)[i]? = some (.own es)→False:=fun i es e=>by
  match i,e with
  | 0,e=>cases e
  | 1,e=>cases e
  | i+2,e=>
   rcases cls i _ e with ⟨_,_,e1⟩ | e1 <;> cases e1
 have dela:(W.del a hg).h a=none:=if_pos rfl
 refine ⟨?_,fun i d e=>?_,fun i es e=>(noOwn i es e).elim,fun i j es fs _ e _=>(noOwn i es e).elim,(jf W a hg).h,(fun _ _ q=>nomatch q),fun i c es e=>?_⟩
 ·unfold L2.start tW
  rw [List.length_cons,List.length_cons,List.length_append,List.length_append,List.length_map,List.length_map,List.length_replicate,List.length_replicate,List.length_cons,List.length_cons,hl]
  omega
 ·match i,e with
  | 0,e=>cases e; exact ⟨v0,rfl,i0⟩
  | 1,e=>cases e
  | i+2,e=>
   rcases cls i _ e with ⟨d',q,e1⟩ | e1
   ·cases e1
    obtain ⟨v,h1,h2⟩:=i2.get q
    refine ⟨v,?_,h2⟩
    have hi:i<vs.length:=by
     rcases Nat.lt_or_ge i vs.length with h | h
     ·exact h
     ·rw [List.getElem?_eq_none h] at h1; cases h1
    unfold L2.start
    show (vs.map some++_)[i]? = _
    rw [List.getElem?_append_left (by rw [List.length_map]; exact hi),List.getElem?_map,h1]
    rfl
   ·cases e1
 ·have hone:∀ (j:Nat) (b:Addr) (es:List Dt),(tW N.length d0 a es0 ds)[j]? = some (.arg b es)→j=1∧b=a∧es=es0:=fun j b es e=>by
   match j,e with
   | 0,e=>cases e
   | 1,e=>cases e; exact ⟨rfl,rfl,rfl⟩
   | j + 2,e=>rcases cls j _ e with ⟨_,_,e1⟩ | e1 <;> cases e1
  obtain ⟨rfl,rfl,rfl⟩:=hone i c es e
  exact ⟨⟨xs,rfl,ha,hg,dela,i1⟩,fun j es e=>(noOwn j es e).elim,fun j b es e=>(hone j b es e).1⟩
theorem okA {x qual:Str} {st:Stmt} {f:Addr} {fd:FuncData} {N ps:List Str} {k:Nat} {S:ASp} (F:Fun K x qual st f fd) (sc:zg N ps (defScope st)) (len:∀ d0 es0 ds Q,S d0 es0 ds Q→ds.length+2=ps.length)
  (hbody:∀ (cdv:Value) (A:Around) (outer:List Env) (s:Shared) (H:Hp) (E:XK),Room k (A.deeper (envOfC qual (defScope st) s.heap.objs.size f cdv))→∀ (d0:Dt) (es0 ds:List Dt) (Q:List Dt→Prop) (a:Addr),S d0 es0 ds Q→
   ∃ t,DSs (yn CX0 P w K mg base N qual (defScope st) f cdv A outer s H E).nox.arg .d (defBody st) t∧t { nx:=fun ρ=>∃ es,ρ[1]? = some (.arg a es)∧Q es,rt:=fun _=>False } (tW N.length d0 a es0 ds)):FnOk P w K mg base CX0 (k+1) f fd ps (pI K S):=by
 refine F.ok sc (fun vs H Q E h=>?_) (fun cdv A outer s H vs Q E hr h=>?_)
 ·obtain ⟨W,d0,es0,ds,Qd,v0,a,xs,vs',hg,rfl,rfl,h1,h2,h3,h4,hS,_⟩:=h
  rw [List.length_cons,List.length_cons,← h4.length]
  exact len _ _ _ _ hS
 obtain ⟨W,d0,es0,ds,Qd,v0,a,xs,vs',hg,rfl,rfl,h1,h2,h3,h4,hS,kk⟩:=h
 obtain ⟨t,⟨ts,p,l⟩,ht⟩:=hbody cdv A outer s W.h E hr d0 es0 ds Qd a hS
 rw [dF] at l
 refine ⟨ts,p.outA (fun _=>rfl),l (W.del a hg) W.g _ (start N (v0::.ref a::vs')) W { nx:=fun ρ=>∃ es,ρ[1]? = some (.arg a es)∧Qd es,rt:=fun _=>False } _ ⟨jf W a hg,Same.refl _,ml hg h1 h2 h3 h4⟩ ⟨fun ρ σ W' at_ ⟨es,e,q⟩=>?_,fun _ _ _ _ _ q=>q.elim,fun _ _ _ _ q=>q.elim,fun _ _ _ _ q=>q.elim⟩ ht⟩
 obtain ⟨⟨ys,_,g2,g3,_,g5⟩,_,_⟩:=at_.rl.ar 1 a es e
 exact kk es ys W' at_.le g2 g3 g5 q
theorem AOk.mk' {x qual:Str} {st:Stmt} {f:Addr} {fd:FuncData} {ps:List Str} {n:Nat} {S:ASp} (F:Fun K x qual st f fd) (hm:mg x=some (.ref f)) (hb:Binds K fd ps []) (h:FnOk P w K mg base CX0 n f fd ps (pI K S)):AOk P w K mg base n x S:=
 ⟨f,fd,ps,hm,F.kp,hb,h⟩
end
section
variable {X:Cx} {fr:Fr} {e e0 k:Expr} {es:List Expr} {t te tk:DTE} {ta:DTA} {n:Nat} {x y:Str} {S:ASp} {p pos p0 p1 p2 p3:Pos} {i:Nat}
def YH (i:Nat) (S:ASp) (t:DTE) (ta:DTA):DTS:=fun D ρ=>∃ ds,ρ[i]? = some (.own ds)∧t ρ fun d0=>ta ρ fun fs=>S d0 ds fs fun es=>D.nx (ρ.set i (.own es))
theorem ja (i:Nat) (G:AOk X.prog X.w X.K X.mg X.base n x S) (hr:Room n X.A) (hg:Gl X x) (h0:DE X e0 t) (ha:DA X es ta) (hN:X.N[i]? = some y:=by rfl) (hv:Vis X.env.scope y:=by first | exact Or.inl rfl | exact Or.inr (Or.inl rfl) | exact Or.inr (Or.inr rfl)) (hd:(y == ("__debug__":Str))=false:=by decide)
  (hcd:(y == ("__classdict__":Str))=false:=by decide) (hdb:(x == ("__debug__":Str))=false:=by decide)
  (he:starEach (e0::.Name y p1::es) X.env=(false,eval e0 X.env)::starEach (.Name y p1::es) X.env:=by rfl) (he2:starEach (.Name y p1::es) X.env=(false,eval (.Name y p1) X.env)::starEach es X.env:=by rfl)
  (hpl:(backTo p2 (starEach (.Name y p1::es) X.env)).any (·.1)=false:=by rfl) (hs:swapsWith (.Call (.Name x p) (e0::.Name y p1::es) [] p2) none pos.line X.env=pure false:=by rfl):
  DSt X fr (.Expr (.Call (.Name x p) (e0::.Name y p1::es) [] p2) pos) (YH i S t ta):=by
 obtain ⟨f,fd,ps,hm,hk,hb,F⟩:=G.ex
 obtain ⟨tt,q0,l0⟩:=h0
 obtain ⟨tts,q1,l1⟩:=ha
 refine ⟨_,xf (xL F hr hg hm hk hb .nil tu (zE q0 (zE (z8 hN hv hd hcd) q1 he2) he) hdb he hpl) hs,fun W0 G ρ σ W D D' at_ s h=>?_⟩
 obtain ⟨ds,ei,h⟩:=h
 obtain ⟨a,xs,k1,k2,k3,k4,k5⟩:=at_.rl.ow i ds ei
 refine l0 ρ σ W _ at_.rl h _ fun d0 v0 W1 s1 i0 h=>?_
 refine ⟨.ref a,k1,l1 ρ σ W1 _ (at_.rl.mono s1) h _ fun fs vs W2 s2 i2 h=>?_⟩
 have s12:=s1.trans s2
 have hg2:W2.g a=none:=s12.n a (by rw [k2]; intro z; cases z) k3
 show pI X.K S ((v0::.ref a::vs)++[]) W2.h _ E0
 rw [List.append_nil]
 refine ⟨W2,d0,ds,fs,_,v0,a,xs,vs,hg2,rfl,rfl,s12.h _ _ k2,i0.mono s2,k5.mono s12,i2,h,fun es ys W' le m1 m2 m3 q=>?_⟩
 have a2:=at_.step s12
 exact s.nx _ _ W' ⟨a2.le.undel k4 le,a2.gs.trans le.g,a2.rl.lent ei k1 hg2 k4 le m1 m2 m3⟩ q
def WZ (i:Nat):DTE:=fun ρ Q=>∃ a ds,ρ[i]? = some (.arg a ds)∧Q (.int ds.length)
theorem eB (i:Nat) (hg:Gl X "len") (hm:X.mg "len"=none) (hN:X.N[i]? = some x:=by rfl) (hv:Vis X.env.scope x:=by first | exact Or.inl rfl | exact Or.inr (Or.inl rfl) | exact Or.inr (Or.inr rfl)) (hd:(x == ("__debug__":Str))=false:=by decide)
  (hcd:(x == ("__classdict__":Str))=false:=by decide) (hs:starEach [.Name x p1] X.env=(false,eval (.Name x p1) X.env)::starEach [] X.env:=by rfl) (hpl:(backTo pos (starEach [] X.env)).any (·.1)=false:=by rfl):
  DE X (.Call (.Name "len" p0) [.Name x p1] [] pos) (WZ i):=by
 refine ⟨_,yK xT hg hm PySem.boot_len (zE (z8 hN hv hd hcd) yf hs) (by decide) (by decide) hs hpl,fun ρ σ H Q r h R k=>?_⟩
 obtain ⟨a,ds,e,q⟩:=h
 obtain ⟨⟨xs,e1,e2,e3,e4,e5⟩,_,_⟩:=r.ar i a ds e
 exact ⟨.ref a,e1,a,xs,rfl,.inl (.of e2),by rw [← e5.length]; exact k _ _ H (Le.refl H) (is_int.mpr rfl) q⟩
def Vi (i:Nat) (te:DTE):DTS:=fun D ρ=>∃ a ds,ρ[i]? = some (.arg a ds)∧te ρ fun d=>ds.length≤100000∧D.nx (ρ.set i (.arg a (ds++[d])))
theorem fZ (i:Nat) (h:DE X e te) (hN:X.N[i]? = some x:=by rfl) (hv:Vis X.env.scope x:=by first | exact Or.inl rfl | exact Or.inr (Or.inl rfl) | exact Or.inr (Or.inr rfl)) (hd:(x == ("__debug__":Str))=false:=by decide)
  (hcd:(x == ("__classdict__":Str))=false:=by decide) (hst:starEach [e] X.env=(false,eval e X.env)::starEach [] X.env:=by rfl) (hpl:(backTo p2 (starEach [] X.env)).any (·.1)=false:=by rfl)
  (hfew:((backTo p2 (starEach [e] X.env)).all (fun x=>!x.1) && (backToKw p2 (keywordEach [] X.env)).all (fun x=>x.1.isSome)
   && decide ([e].length+([]:List Keyword).length+(if ([]:List Keyword).isEmpty then 0 else 1)<30))=true:=by rfl)
  (hbase:attributeBase (.Name x p0) "append" X.env (eval (.Name x p0) X.env)=eval (.Name x p0) X.env:=by rfl) (hline:(p1.endLine == p2.line)=true:=by rfl)
  (hs:swapsWith (.Call (.Attribute (.Name x p0) "append" p1) [e] [] p2) none pos.line X.env=pure false:=by rfl):
  DSt X fr (.Expr (.Call (.Attribute (.Name x p0) "append" p1) [e] [] p2) pos) (Vi i te):=by
 obtain ⟨tt,p,l⟩:=h
 refine ⟨_,xf (nq PySem.F.plainAttrs_list PySem.F.slot_list_append PySem.F.type_list_append vT (z8 hN hv hd hcd) (zE p yf hst) hbase hfew hline hst hpl) hs,fun W0 G ρ σ W D D' at_ s h=>?_⟩
 obtain ⟨b,ds,ei,h⟩:=h
 obtain ⟨⟨xs,e1,e2,e3,e4,e5⟩,_,_⟩:=at_.rl.ar i b ds ei
 refine ⟨.ref b,e1,.inl ⟨rfl,xs,.of e2⟩,l ρ σ W _ at_.rl h _ fun d v W1 s1 i1 ⟨hl,q1⟩=>?_⟩
 have a1:=at_.step s1
 have hg1:W1.g b=none:=s1.n b (by rw [e2]; intro z; cases z) e3
 refine ⟨b,xs,v,rfl,rfl,s1.h _ _ e2,by rw [← e5.length]; exact Nat.lt_of_le_of_lt hl (by decide),?_⟩
 exact s.nx _ _ _ (a1.putA ei hg1 e4 ((e5.mono s1).append (allIs_cons.mpr ⟨v,[],rfl,i1,allIs_nil.mpr rfl⟩))) q1
def Vg (i:Nat) (g:Int→Int→Int) (tk te:DTE):DTS:=fun D ρ=>∃ a ds,ρ[i]? = some (.arg a ds)∧tk ρ fun z=>∃ n m,z=.int n∧0≤n∧ds[n.toNat]? = some (.int m)∧te ρ fun d=>∃ y,d=.int y∧D.nx (ρ.set i (.arg a (ds.set n.toNat (.int (g m y)))))
theorem Yj {n:Int} {k:Nat} (h0:0≤n) (h:n.toNat<k):ixN k n=some n.toNat:=by
 unfold ixN
 rw [if_pos h0,if_pos (by omega)]
theorem fY (i:Nat) {op:Operator} {g:Int→Int→Int} (ho:PIp X op (ipI g)) (hk:DE X k tk) (h:DE X e te) (hN:X.N[i]? = some x:=by rfl) (hv:Vis X.env.scope x:=by first | exact Or.inl rfl | exact Or.inr (Or.inl rfl) | exact Or.inr (Or.inr rfl)) (hd:(x == ("__debug__":Str))=false:=by decide)
  (hcd:(x == ("__classdict__":Str))=false:=by decide)
  (ha:∀ ov iv new,augStore k ov iv new=(do holding [new,ov,iv] (setItem ov iv new); release [new,ov,iv] []; pure .next):=by intros; rfl):
  DSt X fr (.AugAssign (.Subscript (.Name x p0) k p1) op e pos) (Vg i g tk te):=by
 obtain ⟨tt,p,l⟩:=h
 obtain ⟨tk',pk,lk⟩:=hk
 refine ⟨_,j0 (z8 hN hv hd hcd) pk kH p ho qx ha,fun W0 G ρ σ W D D' at_ s h=>?_⟩
 obtain ⟨b,ds,ei,h⟩:=h
 obtain ⟨⟨xs,e1,e2,e3,e4,e5⟩,_,_⟩:=at_.rl.ar i b ds ei
 refine ⟨.ref b,e1,lk ρ σ W _ at_.rl h _ fun z v W1 s1 i1 ⟨n,m,ez,h0,hm,q1⟩=>?_⟩
 subst ez
 obtain rfl:=is_int.mp i1
 obtain ⟨u,hu,iu⟩:=e5.get hm
 obtain rfl:=is_int.mp iu
 refine ⟨b,xs,n,.int m,rfl,rfl,h0,s1.h _ _ e2,hu,l ρ σ W1 _ (at_.rl.mono s1) q1 _ fun d v W2 s2 i2 ⟨y,ed,q2⟩=>?_⟩
 subst ed
 have s12:=s1.trans s2
 have hg2:W2.g b=none:=s12.n b (by rw [e2]; intro z; cases z) e3
 have hl:n.toNat<xs.length:=by
  rcases Nat.lt_or_ge n.toNat xs.length with z | z
  ·exact z
  ·rw [List.getElem?_eq_none z] at hu; cases hu
 refine ⟨m,y,rfl,is_int.mp i2,b,xs,n,n.toNat,rfl,rfl,s12.h _ _ e2,Yj h0 hl,?_⟩
 exact s.nx _ _ _ ((at_.step s12).putA ei hg2 e4 ((e5.mono s12).set n.toNat (is_int.mpr rfl))) q2
def Uv (i:Nat) (te:DTE):DTS:=fun D ρ=>∃ ds,ρ[i]? = some (.own ds)∧te ρ fun d=>∃ es,d=.lst es∧ds.length+es.length≤16000000∧D.nx (ρ.set i (.own (ds++es)))
theorem Yt (i:Nat) (h:DE X e te) (hN:X.N[i]? = some x:=by rfl) (hv:Vis X.env.scope x:=by first | exact Or.inl rfl | exact Or.inr (Or.inl rfl) | exact Or.inr (Or.inr rfl)) (hd:(x == ("__debug__":Str))=false:=by decide)
  (hcd:(x == ("__classdict__":Str))=false:=by decide) (hst:starEach [e] X.env=(false,eval e X.env)::starEach [] X.env:=by rfl) (hpl:(backTo p2 (starEach [] X.env)).any (·.1)=false:=by rfl)
  (hfew:((backTo p2 (starEach [e] X.env)).all (fun x=>!x.1) && (backToKw p2 (keywordEach [] X.env)).all (fun x=>x.1.isSome)
   && decide ([e].length+([]:List Keyword).length+(if ([]:List Keyword).isEmpty then 0 else 1)<30))=true:=by rfl)
  (hbase:attributeBase (.Name x p0) "extend" X.env (eval (.Name x p0) X.env)=eval (.Name x p0) X.env:=by rfl) (hline:(p1.endLine == p2.line)=true:=by rfl)
  (hs:swapsWith (.Call (.Attribute (.Name x p0) "extend" p1) [e] [] p2) none pos.line X.env=pure false:=by rfl):
  DSt X fr (.Expr (.Call (.Attribute (.Name x p0) "extend" p1) [e] [] p2) pos) (Uv i te):=by
 obtain ⟨tt,p,l⟩:=h
 refine ⟨_,xf (nq PySem.F.plainAttrs_list PySem.F.slot_list_extend PySem.F.type_list_extend mE (z8 hN hv hd hcd) (zE p yf hst) hbase hfew hline hst hpl) hs,fun W0 G ρ σ W D D' at_ s h=>?_⟩
 obtain ⟨ds,ei,h⟩:=h
 obtain ⟨b,xs,e1,e2,e3,e4,e5⟩:=at_.rl.ow i ds ei
 refine ⟨.ref b,e1,.inl ⟨rfl,xs,.of e2⟩,l ρ σ W _ at_.rl h _ fun d v W1 s1 i1 ⟨es,ed,hl,q1⟩=>?_⟩
 subst ed
 obtain ⟨c,zs,rfl,hc,ic⟩:=is_lst.mp i1
 have a1:=at_.step s1
 have hg1:W1.g b=none:=s1.n b (by rw [e2]; intro z; cases z) e3
 refine ⟨b,c,xs,zs,rfl,rfl,s1.h _ _ e2,W1.sub _ _ hc,by rw [← e5.length,← ic.length]; exact Nat.le_trans hl (by decide),?_⟩
 exact s.nx _ _ _ (a1.put ei e1 hg1 e4 ((e5.mono s1).append ic)) q1
def VM:Dt→Bool
 | .tup ds=>ds.all uZ
 | d=>uZ d
theorem uY {K:PySem.W.Frag} {G G':Hp}:∀ {ds:List Dt} {vs:List V},ds.all uZ=true→AllIs K G ds vs→AllIs K G' ds vs
 | [],_,_,h=>allIs_nil.mpr (allIs_nil.mp h)
 | d::ds,_,z,h=>by
  obtain ⟨x,r,rfl,h1,h2⟩:=allIs_cons.mp h
  rw [List.all_cons,Bool.and_eq_true] at z
  exact allIs_cons.mpr ⟨x,r,rfl,nh z.1 h1,uY z.2 h2⟩
def Ve (t:DTE):DTE:=fun ρ Q=>t (ρ.map fz) fun d=>VM d=true∧Q d
theorem nL (h:DE X e t):DE X e (Ve t):=by
 obtain ⟨te,p,l⟩:=h
 refine ⟨te,p,fun ρ σ H Q r hq R k=>?_⟩
 obtain ⟨W',e,sg,r',gl⟩:=r.bor
 have:=l (ρ.map fz) σ W' _ r' hq R fun d v H1 s1 i1 ⟨hs,q1⟩=>by
  obtain ⟨H2,e2,_,s2⟩:=vq e s1 sg
  cases d with
  | tup ds=>
   obtain ⟨p,xs,rfl,hp,ia⟩:=is_tup.mp i1
   have sub:Same (upd H.g p (.tup xs)) H1.h:=fun b o q=>by
    by_cases hb:b=p
    ·subst hb; rw [zu] at q; rw [← Option.some.inj q]; exact H1.sub _ _ hp
    ·rw [zw hb] at q; exact H1.sub _ _ (s1.g _ _ (sg _ _ q))
   have le:Le H ⟨upd H.g p (.tup xs),H1.h,sub⟩:=⟨fun b o q=>by
     show upd H.g p (.tup xs) b=some o
     by_cases hb:b=p
     ·subst hb
      rw [zu]
      have:=s1.g _ _ (sg _ _ q)
      rw [hp] at this
      exact this
     ·rw [zw hb]; exact q,e ▸ s1.h,fun b z1 z2=>by
     show upd H.g p (.tup xs) b=none
     have hb:b≠p:=fun hb=>by
      subst hb
      cases hw:W'.g b with
      | none=>
       have:=s1.n b (by rw [e]; exact z1) hw
       rw [hp] at this
       cases this
      | some o=>
       rcases gl b o hw with z | ⟨ys,rfl⟩
       ·rw [z2] at z; cases z
       ·have:=s1.g _ _ hw
        rw [hp] at this
        cases this
     rw [zw hb]; exact z2⟩
   exact k (.tup ds) (.ref p) ⟨upd H.g p (.tup xs),H1.h,sub⟩ le (is_tup.mpr ⟨p,xs,rfl,zu,uY hs ia⟩) q1
  | _=>
   rw [← e2]
   first | (refine k _ v H2 s2 (nh ?_ i1) q1; exact hs) | cases hs
 rw [e] at this
 exact this
end
end OD
namespace OD
variable {Z:Hp}
open PySem PySem.Spec PyProof.Rows L2
section
variable {X:Cx} {tg:Expr}
variable {a b c:Expr} {ta:DTA} {p0 pos1:Pos}
end
end OD
namespace L2
open PySem PySem.Spec PyProof.Rows
section
variable {X:Cx}
end
end L2
namespace OD
variable {Z:Hp}
open PySem PySem.Spec PyProof.Rows L2
abbrev DTB:=Prop→(Addr→Prop)→DS→Prop
section
variable {X:Cx} {e:Expr} {es:List Expr} {t:DTA} {n:Nat} {x y m:Str} {j:Nat} {S:y9} {p pos py hpos epos tpos:Pos} {fr:Fr} {th:DTS} {c:Value} {b₀:Stmt} {suite body:List Stmt} {d:DTB}
end
end OD
namespace OD
open PySem L2
variable {X:Cx} {e:Expr} {t:DTE}
end OD
namespace OD
open PySem L2 PyProof.Rows
section
variable {Z F:Hp} {K:PySem.W.Frag} {W W' W0:Vw} {G:Hp} {ρ:DS} {σ:L2.St}
theorem qv {α:Type} {l:List α} {x y:α} {i:Nat} (q:(l++[x])[i]? = some y):l[i]? = some y∨(i=l.length∧x=y):=by
 rcases Nat.lt_trichotomy i l.length with h | h | h
 ·rw [List.getElem?_append_left h] at q; exact .inl q
 ·subst h
  rw [List.getElem?_append_right (Nat.le_refl _),Nat.sub_self] at q
  exact .inr ⟨rfl,Option.some.inj q⟩
 ·rw [List.getElem?_eq_none (by rw [List.length_append]; show l.length+1≤i; omega)] at q
  cases q
theorem wu {α:Type} {l:List α} {y:α} {i:Nat} (q:l[i]? = some y):i<l.length:=by
 rcases Nat.lt_or_ge i l.length with h | h
 ·exact h
 ·rw [List.getElem?_eq_none h] at q; cases q
theorem xB {α:Type} {l:List α} {x y:α} {i:Nat} (q:l[i]? = some y):(l++[x])[i]? = some y:=by rw [List.getElem?_append_left (wu q)]; exact q
theorem rj {α:Type} {l:List α} {x:α} {i:Nat} (h:i<l.length):(l++[x])[i]? = l[i]?:=List.getElem?_append_left h
theorem Rl.hide (r:Rl K Z F W ρ σ) (j:Nat) (o:Option V):Rl K Z F W (ρ.set j .none) (σ.set j o):=by
 have u:=r.unset j
 have hs:∀ i,i≠j→(σ.set j o)[i]? = (σ.set j none)[i]?:=fun i hi=>by rw [List.getElem?_set_ne (fun z=>hi z.symm),List.getElem?_set_ne (fun z=>hi z.symm)]
 have hj:∀ i y,(ρ.set j Sl.none)[i]? = some y→y≠Sl.none→i≠j:=fun i y q hy e=>by
  subst e
  rcases zk q with ⟨_,_,e1⟩ | ⟨z,_⟩
  ·exact hy e1.symm
  ·exact z rfl
 refine ⟨by rw [List.length_set,List.length_set]; exact r.len,fun i d q=>?_,fun i ds q=>?_,fun i k ds es hik q1 q2=>?_,r.fr,r.z,fun i c ds q=>?_⟩
 ·rw [hs i (hj i _ q (fun z=>nomatch z))]; exact u.at_ i d q
 ·rw [hs i (hj i _ q (fun z=>nomatch z))]; exact u.ow i ds q
 ·rw [hs i (hj i _ q1 (fun z=>nomatch z)),hs k (hj k _ q2 (fun z=>nomatch z))]; exact u.ne i k ds es hik q1 q2
 ·obtain ⟨⟨xs,h1,h2⟩,k1,k2⟩:=u.ar i c ds q
  refine ⟨⟨xs,by rw [hs i (hj i _ q (fun z=>nomatch z))]; exact h1,h2⟩,fun k es q'=>?_,k2⟩
  rw [hs k (hj k _ q' (fun z=>nomatch z))]; exact k1 k es q'
theorem Rl.push (r:Rl K Z F W ρ σ):Rl K Z F W (ρ++[Sl.none]) (σ++[none]):=by
 have hs:∀ i y,ρ[i]? = some y→(σ++[none])[i]? = σ[i]?:=fun i y q=>rj (by rw [← r.len]; exact wu q)
 have cl:∀ i y,(ρ++[Sl.none])[i]? = some y→y≠Sl.none→ρ[i]? = some y:=fun i y q hy=>by
  rcases qv q with q | ⟨_,e⟩
  ·exact q
  ·exact absurd e.symm hy
 refine ⟨by rw [List.length_append,List.length_append,r.len]; rfl,fun i d q=>?_,fun i ds q=>?_,fun i k ds es hik q1 q2=>?_,r.fr,r.z,fun i c ds q=>?_⟩
 ·have q:=cl i _ q (fun z=>nomatch z)
  rw [hs i _ q]; exact r.at_ i d q
 ·have q:=cl i _ q (fun z=>nomatch z)
  rw [hs i _ q]; exact r.ow i ds q
 ·have q1:=cl i _ q1 (fun z=>nomatch z)
  have q2:=cl k _ q2 (fun z=>nomatch z)
  rw [hs i _ q1,hs k _ q2]; exact r.ne i k ds es hik q1 q2
 ·have q:=cl i _ q (fun z=>nomatch z)
  obtain ⟨⟨xs,h1,h2⟩,k1,k2⟩:=r.ar i c ds q
  refine ⟨⟨xs,by rw [hs i _ q]; exact h1,h2⟩,fun k es q'=>?_,fun k b es q'=>k2 k b es (cl k _ q' (fun z=>nomatch z))⟩
  have q':=cl k _ q' (fun z=>nomatch z)
  rw [hs k _ q']; exact k1 k es q'
theorem Rl.snocOff {x:Sl} {o:Option V} (r:Rl K Z F W (ρ++[x]) (σ++[o])):Rl K Z F W ρ σ:=by
 have len:ρ.length=σ.length:=by have:=r.len; rw [List.length_append,List.length_append] at this; exact Nat.succ.inj this
 have hs:∀ i y,ρ[i]? = some y→(σ++[o])[i]? = σ[i]?:=fun i y q=>rj (by rw [← len]; exact wu q)
 refine ⟨len,fun i d q=>?_,fun i ds q=>?_,fun i k ds es hik q1 q2=>?_,r.fr,r.z,fun i c ds q=>?_⟩
 ·rw [← hs i _ q]; exact r.at_ i d (xB q)
 ·rw [← hs i _ q]; exact r.ow i ds (xB q)
 ·rw [← hs i _ q1,← hs k _ q2]; exact r.ne i k ds es hik (xB q1) (xB q2)
 ·obtain ⟨⟨xs,h1,h2⟩,k1,k2⟩:=r.ar i c ds (xB q)
  exact ⟨⟨xs,by rw [← hs i _ q]; exact h1,h2⟩,fun k es q'=>by rw [← hs k _ q']; exact k1 k es (xB q'),fun k b es q'=>k2 k b es (xB q')⟩
theorem ve {α:Type} {l:List α} {x y:α} {n:Nat} (h:n=l.length):(l++[x]).set n y=l++[y]:=by
 subst h
 rw [List.set_append_right _ _ (Nat.le_refl _),Nat.sub_self]; rfl
theorem xc {α:Type} {l:List α} {x:α} {n:Nat} (h:n=l.length):(l++[x])[n]? = some x:=by
 subst h
 rw [List.getElem?_append_right (Nat.le_refl _),Nat.sub_self]; rfl
structure TAt (K:PySem.W.Frag) (Z:Hp) (W0:Vw) (G:Hp) (W:Vw) (ρ:DS) (σ:L2.St) (i:Nat) (es:List Dt) (d:Dt):Prop where
 ex:∃ p q v,At K Z W0 G W (ρ++[.own es]) (σ++[some (.ref p)])∧σ[i]? = some (some (.ref q))∧W.g q=some (.tup [.ref p,v])∧Is K W.g d v
variable {i:Nat} {es:List Dt} {d:Dt}
theorem TAt.step (t:TAt K Z W0 G W ρ σ i es d) (s:Le W W'):TAt K Z W0 G W' ρ σ i es d:=
 let ⟨p,q,v,a,h1,h2,h3⟩:=t.ex; ⟨p,q,v,a.step s,h1,s.g _ _ h2,h3.mono s⟩
theorem TAt.off (t:TAt K Z W0 G W ρ σ i es d):At K Z W0 G W ρ σ:=let ⟨_,_,_,a,_⟩:=t.ex; ⟨a.le,a.gs,a.rl.snocOff⟩
theorem TAt.bor (t:TAt K Z W0 G W ρ σ i es d):∃ W':Vw,W'.h=W.h∧Same W.g W'.g∧Rl K Z W0.h W' ((ρ.set i (.some (.tup [.lst es,d]))).map fz) σ:=by
 obtain ⟨p,q,v,a,h1,h2,h3⟩:=t.ex
 have len:ρ.length=σ.length:=by have:=a.rl.len; rw [List.length_append,List.length_append] at this; exact Nat.succ.inj this
 obtain ⟨b,xs,e1,e2,e3,e4,e5⟩:=a.rl.ow ρ.length es (xc rfl)
 rw [xc len] at e1
 cases e1
 have r1:=a.rl.frz (xc rfl) (xc len) e2 e3 e5
 rw [ve rfl] at r1
 have sg:Same W.g (W.frz p _ e2).g:=zI e3 _
 have r2:=r1.snocOff.set (d:=.tup [.lst es,d]) (v:=.ref q) i (is_tup.mpr ⟨q,_,rfl,sg _ _ h2,allIs_cons.mpr ⟨_,_,rfl,is_lst.mpr ⟨p,xs,rfl,zu,AllIs.mono0 sg e5⟩,allIs_cons.mpr ⟨v,_,rfl,Is.mono0 sg h3,allIs_nil.mpr rfl⟩⟩⟩)
 have es:σ.set i (some (.ref q))=σ:=by
  apply List.ext_getElem?
  intro j
  by_cases hj:i=j
  ·subst hj; rw [List.getElem?_set_self (wu h1)]; exact h1.symm
  ·rw [List.getElem?_set_ne hj]
 rw [es] at r2
 obtain ⟨W',f1,f2,f3,_⟩:=r2.bor
 exact ⟨W',f1,sg.trans f2,f3⟩
abbrev DTG:=List Dt→Dt→DTS
def UB (K:PySem.W.Frag) (Z:Hp) (fr:Fr) (i:Nat) (ts:TS) (t:DTG):Prop:=∀ (W0:Vw) (G:Hp) (ρ:DS) (σ:L2.St) (W:Vw) (D:DEnds) (D':Ends) (es:List Dt) (d:Dt),TAt K Z W0 G W ρ σ i es d→Sim K Z fr W0 G D D'→t es d D ρ→ts D' σ W.h
def mX (X:Cx) (fr:Fr) (i:Nat) (sts:List Stmt) (t:DTG):Prop:=∃ ts,PSs X sts ts∧UB X.K (Zx X) fr i ts t
end
section
variable {X:Cx} {fr:Fr} {st:Stmt} {zX:List Stmt} {t:DTE} {u:DTS} {ug:DTG} {e:Expr} {te:DTE} {pos p0 p1 p2 p3 pos':Pos} {i j:Nat} {x y:Str}
def WM (i:Nat) (te:DTE) (u:DTG):DTS:=fun D ρ=>te ρ fun dd=>∃ es d s,dd=.tup [.lst es,d]∧ρ[i]? = some s∧u es d D (ρ.set i .none)
theorem fS (hN:X.N.Nodup) (hi:X.N[i]? = some x) (hx:Loc X.env.scope x) (h:DR X (.t true false) e te) (h2:mX X fr i zX ug) (hs:swapsWith e (some (.Name x pos')) pos.line X.env=pure false:=by rfl) (hf:X.fn x=true∨X.env.scope.names.lookup x=some .local:=by first | exact .inl rfl | exact .inr rfl | assumption):
  DSs X fr (.Assign [.Name x pos'] e pos::zX) (WM i te ug):=by
 obtain ⟨tt,p,l⟩:=h
 obtain ⟨us,p2,l2⟩:=h2
 refine ⟨_,xt (rC hN hi hx p hs hf) p2,fun W0 G ρ σ W D D' at_ s h=>l ρ σ W _ at_.rl h _ fun dd v W1 s1 tl ⟨es,d,s0,ed,hs0,qq⟩=>?_⟩
 obtain ⟨d1,d2,q,u1,u2,e1,e2,hq,pt1,pt2,_⟩:=tl
 subst e2
 rw [ed] at e1
 cases e1
 rcases pt1 with ⟨fs,a,xs,k1,k2,k3,k4,k5,k6⟩ | ⟨z,_⟩
 ·cases k1; subst k2
  refine l2 W0 G _ _ W1 D D' es d ⟨a,q,u2,?_,?_,hq,pt2⟩ s qq
  ·have a1:=at_.step s1
   have r1:=(a1.rl.hide i (some (V.ref q))).push
   have len:(ρ.set i Sl.none).length=(σ.set i (some (V.ref q))).length:=by rw [List.length_set,List.length_set]; exact at_.rl.len
   have back:∀ k y,(ρ.set i Sl.none++[Sl.none])[k]? = some y→y≠Sl.none→ρ[k]? = some y∧(σ.set i (some (V.ref q))++[none])[k]? = σ[k]?:=fun k y z hy=>by
    rcases qv z with z | ⟨_,z⟩
    ·rcases zk z with ⟨_,_,z⟩ | ⟨hik,z⟩
     ·exact absurd z.symm hy
     ·exact ⟨z,by rw [rj (by rw [List.length_set,← at_.rl.len]; exact wu z),List.getElem?_set_ne hik]⟩
    ·exact absurd z.symm hy
   have r2:=r1.ownN (p:=a) (xs:=xs) (ds:=es) (ρ.set i Sl.none).length (fun k fs z z'=>?_) (fun k c fs z z'=>?_) (at_.rl.fr.free k3) k4 k5 k6
   ·rw [ve rfl,ve len] at r2
    exact ⟨a1.le,a1.gs,r2⟩
   ·obtain ⟨z1,z2⟩:=back k _ z (fun z=>nomatch z)
    obtain ⟨c,ys,m1,m2,_⟩:=at_.rl.ow k fs z1
    rw [z2,m1] at z'
    cases z'
    rw [k3] at m2
    cases m2
   ·obtain ⟨z1,_⟩:=back k _ z (fun z=>nomatch z)
    obtain ⟨⟨ys,_,m2,_⟩,_,_⟩:=at_.rl.ar k c fs z1
    rw [z',k3] at m2
    cases m2
  ·rw [List.getElem?_set_self (by rw [← at_.rl.len]; exact wu hs0)]
 ·cases z
def Us (i:Nat) (c:DTT) (t:DTS) (u:DTG):DTG:=fun es d D ρ=>c ((ρ.set i (.some (.tup [.lst es,d]))).map fz) fun b=>if b=true then t { D with nx:=fun _=>False } ρ else u es d D ρ
theorem oQ {c:Expr} {a:List Stmt} {tc:DTT} {ta:DTS} (hc:DT X c tc) (ha:DSs X fr a ta) (h2:mX X fr i zX ug):mX X fr i (.If c a [] pos::zX) (Us i tc ta ug):=by
 obtain ⟨t0,p0,l0⟩:=hc
 obtain ⟨t1,p1,l1⟩:=ha
 obtain ⟨us,p2,l2⟩:=h2
 refine ⟨_,xt (eU p0 p1 nk) p2,fun W0 G ρ σ W D D' es d ta s h=>?_⟩
 obtain ⟨W',e,sg,r'⟩:=ta.bor
 have:=l0 _ σ W' _ r' h (fun b H1=>if b=true then t1 { D' with nx:=us D' } σ H1 else us D' σ H1) fun b H1 s1 q1=>?_
 ·rw [e] at this
  exact this
 ·obtain ⟨H2,e2,_,s2⟩:=vq e s1 sg
  rw [← e2]
  cases b with
  | true=>
   show t1 { D' with nx:=us D' } σ H2.h
   exact l1 W0 G ρ σ H2 { D with nx:=fun _=>False } { D' with nx:=us D' } (ta.step s2).off ⟨fun _ _ _ _ q=>q.elim,s.tl,s.bk,s.ct⟩ q1
  | false=>
   show us D' σ H2.h
   exact l2 W0 G ρ σ H2 D D' es d (ta.step s2) s q1
def WO (i j:Nat) (te:DTE) (u:DTG):DTG:=fun es d D ρ=>te ((ρ.set i (.some (.tup [.lst es,d]))).map fz) fun dd=>∃ fs s,dd=.lst fs∧fs.all uZ=true∧ρ[j]? = some s∧u es d D (ρ.set j (.own fs))
theorem fU (hij:i≠j) (hN:X.N.Nodup) (hj:X.N[j]? = some y) (hx:Loc X.env.scope y) (h:DF X e te) (h2:mX X fr i zX ug) (hs:swapsWith e (some (.Name y pos')) pos.line X.env=pure false:=by rfl) (hf:X.fn y=true∨X.env.scope.names.lookup y=some .local:=by first | exact .inl rfl | exact .inr rfl | assumption):
  mX X fr i (.Assign [.Name y pos'] e pos::zX) (WO i j te ug):=by
 obtain ⟨tt,p,l⟩:=h
 obtain ⟨us,p2,l2⟩:=h2
 refine ⟨_,xt (rC hN hj hx p hs hf) p2,fun W0 G ρ σ W D D' es d ta s h=>?_⟩
 obtain ⟨W',e,sg,r'⟩:=ta.bor
 have:=l _ σ W' _ r' h (fun v H1=>us D' (σ.set j (some v)) H1) fun gs b xs H1 s1 h0 h1 h2 ia ⟨fs,sj,ef,hsc,hsj,q1⟩=>?_
 ·rw [e] at this
  exact this
 ·obtain ⟨H2,e2,eg,s2⟩:=vq e s1 sg
  obtain rfl:gs=fs:=by injection ef
  rw [e] at h0
  rw [← e2] at h1
  show us D' (σ.set j (some (V.ref b))) H1.h
  rw [← e2]
  have hg:H2.g b=none:=by
   rw [eg]
   cases z:W.g b with
   | none=>rfl
   | some o=>rw [W.sub _ _ z] at h0; cases h0
  obtain ⟨c,q,v,at_,k1,k2,k3⟩:=ta.ex
  have len:ρ.length=σ.length:=by have:=at_.rl.len; rw [List.length_append,List.length_append] at this; exact Nat.succ.inj this
  have a2:=at_.own s2 j h0 h1 hg (uY hsc ia)
  rw [List.set_append_left _ _ (wu hsj),List.set_append_left _ _ (by rw [← len]; exact wu hsj)] at a2
  exact l2 W0 G _ _ H2 D D' es d ⟨c,q,v,a2,by rw [List.getElem?_set_ne (fun z=>hij z.symm)]; exact k1,s2.g _ _ k2,k3.mono s2⟩ s q1
def Vh (te:DTE) (u:DTS):DTG:=fun es _ D ρ=>te ρ fun _=>es.length≤100000∧u D ρ
theorem fV {jj ps} (h:DE X e te) (h2:DSs X fr zX u) (hN:X.N[i]? = some x:=by rfl) (hv:Vis X.env.scope x:=by first | exact Or.inl rfl | exact Or.inr (Or.inl rfl) | exact Or.inr (Or.inr rfl)) (hd:(x == ("__debug__":Str))=false:=by decide)
  (hcd:(x == ("__classdict__":Str))=false:=by decide) (hst:starEach [e] X.env=(false,eval e X.env)::starEach [] X.env:=by rfl) (hpl:(backTo p2 (starEach [] X.env)).any (·.1)=false:=by rfl)
  (hfew:((backTo p2 (starEach [e] X.env)).all (fun x=>!x.1) && (backToKw p2 (keywordEach [] X.env)).all (fun x=>x.1.isSome)
   && decide ([e].length+([]:List Keyword).length+(if ([]:List Keyword).isEmpty then 0 else 1)<30))=true:=by rfl)
  (hix:vw (.Constant (.int 0) jj p3):=by exact fun _ _=>rfl)
  (hbase:attributeBase (.Subscript (.Name x p0) (.Constant (.int 0) jj p3) ps) "append" X.env (eval (.Subscript (.Name x p0) (.Constant (.int 0) jj p3) ps) X.env)=eval (.Subscript (.Name x p0) (.Constant (.int 0) jj p3) ps) X.env:=by rfl) (hline:(p1.endLine == p2.line)=true:=by rfl)
  (hs:swapsWith (.Call (.Attribute (.Subscript (.Name x p0) (.Constant (.int 0) jj p3) ps) "append" p1) [e] [] p2) none pos.line X.env=pure false:=by rfl):
  mX X fr i (.Expr (.Call (.Attribute (.Subscript (.Name x p0) (.Constant (.int 0) jj p3) ps) "append" p1) [e] [] p2) pos::zX) (Vh te u):=by
 obtain ⟨tt,p,l⟩:=h
 obtain ⟨us,pu,l2⟩:=h2
 refine ⟨_,xt (xf (nq PySem.F.plainAttrs_list PySem.F.slot_list_append PySem.F.type_list_append vT (nn oB (z8 hN hv hd hcd) og hix) (zE p yf hst) hbase hfew hline hst hpl) hs) pu,fun W0 G ρ σ W D D' es d ta s h=>?_⟩
 obtain ⟨c,q,v,at_,k1,k2,k3⟩:=ta.ex
 have len:ρ.length=σ.length:=by have:=at_.rl.len; rw [List.length_append,List.length_append] at this; exact Nat.succ.inj this
 obtain ⟨b,xs,e1,e2,e3,e4,e5⟩:=at_.rl.ow ρ.length es (xc rfl)
 rw [xc len] at e1
 cases e1
 refine ⟨_,k1,.inr (.inl ⟨q,_,0,_,rfl,rfl,.of (W.sub _ _ k2),rfl,.inl ⟨rfl,xs,.of e2⟩,?_⟩)⟩
 refine l ρ σ W _ at_.rl.snocOff h _ fun dd v1 W1 s1 i1 ⟨hl,q1⟩=>?_
 have a1:=at_.step s1
 have hg1:W1.g c=none:=s1.n c (by rw [e2]; intro z; cases z) e3
 refine ⟨c,xs,v1,rfl,rfl,s1.h _ _ e2,by rw [← e5.length]; exact Nat.lt_of_le_of_lt hl (by decide),?_⟩
 have a2:=a1.put (xc rfl) (xc len) hg1 e4 ((e5.mono s1).append (allIs_cons.mpr ⟨v1,[],rfl,i1,allIs_nil.mpr rfl⟩))
 rw [ve rfl] at a2
 exact l2 W0 G ρ σ _ D D' ⟨a2.le,a2.gs,a2.rl.snocOff⟩ s q1
end
end OD
namespace My
open PySem L2 OD
local macro_rules | `(tactic| walk_at "sc") => `(tactic| exact ⟨rfl, rfl, rfl, by decide +kernel, rfl, by decide +kernel, by decide +kernel⟩)
local macro_rules | `(tactic| walk_at "ln") => `(tactic| (intros; rename_i h; repeat (first | (obtain ⟨e, _⟩ := h; subst e; rfl) | obtain ⟨_, h⟩ := h)))
local macro_rules | `(tactic| walk_at "bm") => `(tactic| (intro _ _ _ _ _ _ us hl; first | (exact match us, hl with | [_], _ => rfl) | (exact match us, hl with | [_, _], _ => rfl) | (exact match us, hl with | [_, _, _], _ => rfl) | (exact match us, hl with | [_, _, _, _], _ => rfl) | (exact match us, hl with | [_, _, _, _, _], _ => rfl) | (exact match us, hl with | [_, _, _, _, _, _], _ => rfl) | (exact match us, hl with | [_, _, _, _, _, _, _], _ => rfl)))
local macro_rules | `(tactic| walk_at "rd1") => `(tactic| first | refine ⟨_, rfl, ?_⟩ | refine ⟨_, _, rfl, rfl, ?_⟩ | refine ⟨_, _, _, _, rfl, rfl, rfl, ?_⟩ | refine ⟨_, _, _, rfl, rfl, rfl, ?_⟩ | refine V1 ?_ | refine V2 ?_ | refine ⟨rfl, rfl, ?_⟩ | refine ⟨rfl, ?_⟩ | refine ⟨jq (by decide), ?_⟩ | refine ⟨du (by decide), ?_⟩ | refine ⟨Vk (by decide), ?_⟩ | refine ⟨Ws (by decide), ?_⟩ | refine ⟨Z8 (by decide), ?_⟩ | refine ⟨_, _, rfl, ?_⟩)
local macro_rules | `(tactic| walk_at "rd") => `(tactic| repeat (walk_at "rd1"))
theorem ifT {b:Bool} {A B:Prop} (e:b=true) (h:A):if b=true then A else B:=by rw [if_pos e]; exact h
theorem ifF {b:Bool} {A B:Prop} (e:b=false) (h:B):if b=true then A else B:=by rw [if_neg (by rw [e]; exact Bool.false_ne_true)]; exact h
theorem ifB {b:Bool} {A B:Prop} (h1:b=true→A) (h2:b=false→B):if b=true then A else B:=by
 cases b with
 | true=>exact ifT rfl (h1 rfl)
 | false=>exact ifF rfl (h2 rfl)
theorem eqI {a b:Int} (h:a=b):eqD (.int a) (.int b)=true:=by rw [yS]; exact beq_iff_eq.mpr h
theorem neI {a b:Int} (h:a≠b):eqD (.int a) (.int b)=false:=by rw [yS]; exact beq_eq_false_iff_ne.mpr h
theorem rP {a b:Int} (h:eqD (.int a) (.int b)=true):a=b:=by rw [yS] at h; exact beq_iff_eq.mp h
theorem rO {a b:Int} (h:eqD (.int a) (.int b)=false):a≠b:=by rw [yS] at h; exact beq_eq_false_iff_ne.mp h
theorem nT {b:Bool} (h:b=true):(!b)=false:=by rw [h]; rfl
theorem nF {b:Bool} (h:b=false):(!b)=true:=by rw [h]; rfl
theorem Xu {b:Bool} (h:(!b)=true):b=false:=by cases b <;> first | rfl | cases h
theorem Xv {b:Bool} (h:(!b)=false):b=true:=by cases b <;> first | rfl | cases h
def zB (ns:List Int):Dt:=.lst (ns.map Dt.int)
def trim (ns:List Int):List Int:=(ns.reverse.dropWhile (· == 0)).reverse
def jI:DSp:=fun ds Q=>∃ ns k,ds=[.scr ns,.int k]∧0≤k∧∀ z:Int,Q (.int z)
def nV:DSp:=fun ds Q=>∃ ns:List Int,ds=[.scr ns]∧ns.length≤63∧Q (.bl true)
theorem vt {xs:List Int} {k:Int} (h0:0≤k) (h:k<xs.length):atI (xs.map Dt.int) k=some (.int (xs.getD k.toNat 0)):=by
 have e:((k.toNat:Nat):Int)=k:=Int.toNat_of_nonneg h0
 have hl:k.toNat<xs.length:=by omega
 have:=xU (j:=k.toNat) (xs:=xs.map Dt.int) (v:=.int (xs.getD k.toNat 0)) (by
  rw [List.getElem?_map,List.getElem?_eq_getElem hl,List.getD_eq_getElem?_getD,List.getElem?_eq_getElem hl]
  rfl)
 rwa [e] at this
theorem xo {ns:List Int} {i:Nat} (h:i<ns.length):atI (ns.map Dt.int) (i:Int)=some (.int (ns.getD i 0)):=by
 refine xU ?_
 rw [List.getElem?_map,List.getElem?_eq_getElem h,List.getD_eq_getElem?_getD,List.getElem?_eq_getElem h]
 rfl
theorem fI {n:Nat} {k:Int} (h0:0≤k) (h:k<n):ixN n k=some k.toNat:=by
 unfold ixN
 rw [if_pos h0,if_pos h]
theorem kz {n:Nat} (h:0<n):ixN n (-1)=some (n - 1):=by
 unfold ixN
 rw [if_neg (by decide),if_pos (by omega)]
 congr 1
 omega
theorem wB {xs:List Int} {z:Int}:atI ((xs++[z]).map Dt.int) (-1)=some (.int z):=by
 unfold atI
 rw [kz (by rw [List.length_map,List.length_append]; exact Nat.succ_pos _)]
 show ((xs++[z]).map Dt.int)[((xs++[z]).map Dt.int).length - 1]? = _
 rw [List.length_map,List.length_append,List.map_append,List.getElem?_append_right (by rw [List.length_map]; exact Nat.le_of_eq (Nat.add_sub_cancel ..).symm)]
 rw [List.length_map,show xs.length+[z].length - 1 - xs.length=0 by simp]
 rfl
theorem YL {ns:List Int} {n:Nat}:(ns.map Dt.int).all (okE n)=true:=by
 rw [List.all_eq_true]
 intro x hx
 obtain ⟨z,_,e⟩:=List.mem_map.mp hx
 subst e
 cases n <;> rfl
theorem xO (ns:List Int):okE 40 (zB ns)=true:=YL (n:=39)
theorem oP (ns:List Int):eqD (zB ns) (zB ns)=true:=kP 40 (xO ns)
theorem jn (ms:List Int) (lo hi:Option Int):∃ ms':List Int,jo (ms.map Dt.int) lo hi=ms'.map Dt.int∧ms'.length≤ms.length∧∀ z∈ms',z∈ms:=by
 unfold jo
 rw [← List.map_drop,← List.map_take]
 refine ⟨_,rfl,?_,fun t ht=>List.mem_of_mem_drop (List.mem_of_mem_take ht)⟩
 rw [List.length_take,List.length_drop]
 omega
theorem kI {ns:List Int} {i:Nat} {x:Dt} (h:(ns.map Dt.int)[i]? = some x):x=.int (ns.getD i 0)∧i<ns.length:=by
 rw [List.getElem?_map] at h
 cases q:ns[i]? with
 | none=>rw [q] at h; cases h
 | some z=>
  rw [q] at h
  have hl:i<ns.length:=by
   rcases Nat.lt_or_ge i ns.length with h | h
   ·exact h
   ·rw [List.getElem?_eq_none h] at q; cases q
  rw [List.getD_eq_getElem?_getD,q]
  exact ⟨(Option.some.inj h).symm,hl⟩
theorem vv (xs:List Int) (z:Int):xs.map Dt.int++[.int z]=(xs++[z]).map Dt.int:=by rw [List.map_append]; rfl
theorem qy (xs:List Int) (j:Nat) (z:Int):(xs.map Dt.int).set j (.int z)=(xs.set j z).map Dt.int:=by rw [List.map_set]
theorem sX (xs:List Int):(xs.map Dt.int).dropLast=xs.dropLast.map Dt.int:=by rw [List.map_dropLast]
theorem zA (xs:List Int):(xs.map Dt.int).length=xs.length:=List.length_map _
theorem qr:trim []=[]:=rfl
theorem xq (xs:List Int):trim (xs++[0])=trim xs:=by
 unfold trim
 rw [List.reverse_append]
 rfl
theorem vc {xs:List Int} {z:Int} (h:z≠0):trim (xs++[z])=xs++[z]:=by
 unfold trim
 rw [List.reverse_append]
 show (List.dropWhile _ (z::xs.reverse)).reverse=_
 rw [List.dropWhile_cons,if_neg (by simpa using h),List.reverse_cons,List.reverse_reverse]
theorem zF (xs:List Int):xs=[]∨∃ l z,xs=l++[z]:=by
 rcases List.eq_nil_or_concat xs with h | ⟨l,z,h⟩
 ·exact .inl h
 ·exact .inr ⟨l,z,by rw [h,List.concat_eq_append]⟩
theorem x_ (xs:List Int):(trim xs).length≤xs.length:=by
 unfold trim
 rw [List.length_reverse]
 refine Nat.le_trans (List.dropWhile_sublist _).length_le ?_
 rw [List.length_reverse]
 exact Nat.le_refl _
theorem pL {i:Nat} {D:DEnds} {ρ:DS} {ms:List Int} (hi:ρ[i]? = some (.own (ms.map Dt.int))) (q:D.nx (ρ.set i (.own ((trim ms).map Dt.int)))):
  oT (YI (ui (dOp (gI fun i j=>Dt.bl (decide (j<i))) (dq i) (dC (Dt.int 0)))) (ui (dOp gEq (YF i (YD (dC (Dt.int 1)))) (dC (Dt.int 0))))) (YB i) D ρ:=by
 have hl:i<ρ.length:=by
  rcases Nat.lt_or_ge i ρ.length with h | h
  ·exact h
  ·rw [List.getElem?_eq_none h] at hi; cases hi
 refine ⟨fun m ρ'=>∃ l:List Int,ρ'=ρ.set i (.own (l.map Dt.int))∧l.length=m∧trim l=trim ms,⟨_,ms,?_,rfl,rfl⟩,?_⟩
 ·apply List.ext_getElem?
  intro j
  by_cases hj:i=j
  ·subst hj; rw [List.getElem?_set_self hl]; exact hi
  ·rw [List.getElem?_set_ne hj]
 ·rintro m ρ' ⟨l,rfl,rfl,ht⟩
  have hg:(ρ.set i (.own (l.map Dt.int)))[i]? = some (.own (l.map Dt.int)):=List.getElem?_set_self hl
  refine ⟨_,hg,_,_,rfl,rfl,_,rfl,?_⟩
  rcases zF l with rfl | ⟨l',z,rfl⟩
  ·refine ifF rfl (ifF rfl ?_)
   rw [← ht,qr] at q
   exact q
  ·refine ifT (by rw [decide_eq_true_iff,List.length_map,List.length_append]; simp) ?_
   refine ⟨_,hg,_,rfl,_,_,rfl,wB,rfl,rfl,_,rfl,?_⟩
   by_cases hz:z=0
   ·refine ifT (eqI hz) ?_
    subst hz
    refine ⟨_,hg,by simp,l'.length,by rw [List.length_append]; exact Nat.lt_succ_self _,l',?_,rfl,?_⟩
    ·rw [sX,List.dropLast_concat,List.set_set]
    ·rw [← ht,xq]
   ·refine ifF (neI hz) ?_
    rw [← ht,vc hz] at q
    exact q
theorem qm {i:Nat} {D:DEnds} {ρ:DS} {ms:List Int} (hi:ρ[i]? = some (.own (ms.map Dt.int))) (q:D.nx (ρ.set i (.own ((trim ms).map Dt.int)))):
  oT (YI (dm i) (ui (dOp gEq (YF i (YD (dC (Dt.int 1)))) (dC (Dt.int 0))))) (YB i) D ρ:=by
 have hl:i<ρ.length:=by
  rcases Nat.lt_or_ge i ρ.length with h | h
  ·exact h
  ·rw [List.getElem?_eq_none h] at hi; cases hi
 refine ⟨fun m ρ'=>∃ l:List Int,ρ'=ρ.set i (.own (l.map Dt.int))∧l.length=m∧trim l=trim ms,⟨_,ms,?_,rfl,rfl⟩,?_⟩
 ·apply List.ext_getElem?
  intro j
  by_cases hj:i=j
  ·subst hj; rw [List.getElem?_set_self hl]; exact hi
  ·rw [List.getElem?_set_ne hj]
 ·rintro m ρ' ⟨l,rfl,rfl,ht⟩
  have hg:(ρ.set i (.own (l.map Dt.int)))[i]? = some (.own (l.map Dt.int)):=List.getElem?_set_self hl
  refine ⟨_,hg,?_⟩
  rcases zF l with rfl | ⟨l',z,rfl⟩
  ·refine ifF rfl (ifF rfl ?_)
   rw [← ht,qr] at q
   exact q
  ·refine ifT (by simp) ?_
   refine ⟨_,hg,_,rfl,_,_,rfl,wB,rfl,rfl,_,rfl,?_⟩
   by_cases hz:z=0
   ·refine ifT (eqI hz) ?_
    subst hz
    refine ⟨_,hg,by simp,l'.length,by rw [List.length_append]; exact Nat.lt_succ_self _,l',?_,rfl,?_⟩
    ·rw [sX,List.dropLast_concat,List.set_set]
    ·rw [← ht,xq]
   ·refine ifF (neI hz) ?_
    rw [← ht,vc hz] at q
    exact q
inductive Kd where | plain | below | balanced | growing | falling | pairs
def Kd.num:Kd→Int
 | .plain=>0 | .below=>1 | .balanced=>2 | .growing=>3 | .falling=>4 | .pairs=>5
def Kd.fld:Kd→Str
 | .plain=>"base" | .below=>"base" | .balanced=>"half" | .growing=>"first" | .falling=>"most" | .pairs=>"most"
def Kd.lo:Kd→Int
 | .plain=>2 | .below=>2 | .balanced=>1 | .growing=>2 | .falling=>1 | .pairs=>1
def Kd.hi:Kd→Int
 | .plain=>60 | .below=>60 | .balanced=>30 | .growing=>60 | .falling=>9 | .pairs=>9
def Kd.ok (k:Kd) (n:Int):Prop:=k.lo≤n∧n≤k.hi
def yA:Dt→Option Bool
 | .int _=>some true
 | .bl _=>some false
 | .tup _=>some false
 | .lst _=>some false
 | _=>none
def yU:DSp:=fun ds Q=>∃ d b,ds=[d]∧yA d=some b∧Q (.bl b)
def yE:DSp:=fun ds Q=>∃ n lo hi,ds=[.int n,.int lo,.int hi]∧lo≤n∧n≤hi∧Q (.int n)
inductive Nm where | i (n:Int) | p (a b:Int)
def Nm.dt:Nm→Dt
 | .i n=>.int n
 | .p a b=>.tup [.int a,.int b]
def Nm.re:Nm→Int
 | .i n=>n
 | .p a _=>a
def Nm.im:Nm→Int
 | .i _=>0
 | .p _ b=>b
def Nm.mul:Nm→Nm→Nm
 | .i a,.i b=>.i (a*b)
 | m,n=>.p (m.re*n.re - m.im*n.im) (m.re*n.im+m.im*n.re)
def Nm.mulOk (m n:Nm):Prop:=IntMulOk m.re n.re∧IntMulOk m.im n.im∧IntMulOk m.re n.im∧IntMulOk m.im n.re
def tI:Dt→Option Nm
 | .int a=>some (.i a)
 | .tup [.int a,.int b]=>some (.p a b)
 | _=>none
def wQ:DSp:=fun ds Q=>∃ d m,ds=[d]∧tI d=some m∧Q (.tup [.int m.re,.int m.im])
def jE:DSp:=fun ds Q=>∃ d e m n,ds=[d,e]∧tI d=some m∧tI e=some n∧m.mulOk n∧Q (m.mul n).dt
theorem yH {d:Dt} {m:Nm} (h:tI d=some m):d=m.dt:=by
 unfold tI at h
 split at h
 ·cases h; rfl
 ·cases h; rfl
 ·cases h
theorem uF (m:Nm):tI m.dt=some m:=by cases m <;> rfl
theorem rN (m:Nm):okE 40 m.dt=true:=by cases m <;> rfl
theorem small {n:Int} (h0:-1000000≤n) (h1:n≤1000000) (c:Int):IntMulOk c n:=Ws (by rw [decide_eq_true_iff]; omega)
theorem xC {n:Int} (h0:-1000000≤n) (h1:n≤1000000) (c:Int):IntMulOk n c:=Z8 (by rw [decide_eq_true_iff]; omega)
def Kd.four:Kd→Bool
 | .plain=>true | .below=>true | .balanced=>true | .growing=>true | _=>false
def Kd.five:Kd→Bool
 | .falling=>false | _=>true
def Kd.low:Kd→Int→Int→Int
 | .balanced,n,_=>-n
 | _,_,_=>0
def Kd.high:Kd→Int→Int→Int
 | .plain,n,_=>n - 1
 | .below,n,_=>n - 1
 | .balanced,n,_=>n
 | .growing,n,p=>n+p - 1
 | .falling,n,_=>n
 | .pairs,n,_=>n*n
def Kd.rat:Kd→Int→Int→Int
 | .plain,n,_=>n
 | .below,n,_=>-n
 | .balanced,n,_=>2*n+1
 | .growing,n,p=>n+p
 | _,_,_=>0
def Kd.ratN:Kd→Int→Int→Nm
 | .pairs,n,_=>.p (-n) 1
 | k,n,p=>.i (k.rat n p)
def Nm.add:Nm→Nm→Nm
 | .i a,.i b=>.i (a+b)
 | m,n=>.p (m.re+n.re) (m.im+n.im)
def nY:DSp:=fun ds Q=>∃ d e m n,ds=[d,e]∧tI d=some m∧tI e=some n∧Q (m.add n).dt
def Kd.zero:Kd→Nm
 | .pairs=>.p 0 0
 | _=>.i 0
def wtF (n:Int):Nat→Int × Int
 | 0=>(1,1)
 | j+1=>((wtF n j).2,n*(wtF n j).2+(wtF n j).1)
def wtR (k:Kd) (n:Int):Nat→Nm
 | 0=>k.zero.add (.i 1)
 | j+1=>(k.ratN n j).mul (wtR k n j)
def wt:Kd→Int→Nat→Nm
 | .falling,n,j=>.i (wtF n j).2
 | k,n,j=>wtR k n j
theorem xw {k:Kd} {n:Int} (h:k.ok n):1≤n∧n≤60:=by
 obtain ⟨h1,h2⟩:=h
 cases k <;> simp only [Kd.lo,Kd.hi] at * <;> omega
theorem dR {k:Kd} {n p:Int} (h:k.ok n) (p0:0≤p) (p1:p≤1000):-1000000≤(k.ratN n p).re∧(k.ratN n p).re≤1000000∧-1000000≤(k.ratN n p).im∧(k.ratN n p).im≤1000000:=by
 obtain ⟨h1,h2⟩:=xw h
 cases k <;> simp only [Kd.ratN,Kd.rat,Nm.re,Nm.im] <;> omega
theorem jL {k:Kd} {n:Int} {j:Nat} (h:k.five=true):wt k n j=wtR k n j:=by cases k <;> first | rfl | cases h
theorem eZ {a:Int} {k:Nat} (h:a.natAbs<2 ^ k):Builtin.Int.intBits a≤k:=by
 rw [intBits_le_iff]
 exact h
def bdN (m:Nm) (k:Nat):Prop:=m.re.natAbs<2 ^ k∧m.im.natAbs<2 ^ k
theorem ou {a b:Int} {i j:Nat} (h:a.natAbs<2 ^ i) (h':b.natAbs<2 ^ j) (hij:i+j≤134217728):IntMulOk a b:=IntMulOk.of_le (eZ h) (eZ h') hij
def yk (k:Kd) (n:Int) (ns:List Int):Nat→Nm
 | 0=>k.zero
 | j+1=>(yk k n ns j).add ((Nm.i (ns.getD j 0)).mul (wt k n j))
def bdR (ns:List Int):Prop:=∀ t∈ns,t.natAbs<2 ^ 5000
theorem nO {ns:List Int} (h:bdR ns) (i:Nat):(ns.getD i 0).natAbs<2 ^ 5000:=by
 rw [List.getD_eq_getElem?_getD]
 cases q:ns[i]? with
 | none=>exact Nat.two_pow_pos 5000
 | some z=>exact h z (List.mem_of_getElem? q)
theorem pJ {n:Int} (h1:1≤n) (h2:n≤60):∀ j:Nat,(wtF n j).1.natAbs<2 ^ (12*j+1)∧(wtF n j).2.natAbs<2 ^ (12*j+1)
 | 0=>⟨(by decide:(1:Int).natAbs<2 ^ 1),(by decide:(1:Int).natAbs<2 ^ 1)⟩
 | j+1=>by
  obtain ⟨a,b⟩:=pJ h1 h2 j
  have pw:2 ^ (12*(j+1)+1)=2 ^ (12*j+1)*4096:=by rw [show 12*(j+1)+1=(12*j+1)+12 by omega,Nat.pow_add]
  rw [pw]
  unfold wtF
  dsimp only
  generalize 2 ^ (12 * j + 1)=B at *
  have hm:(n*(wtF n j).2).natAbs≤60*(wtF n j).2.natAbs:=by
   rw [Int.natAbs_mul]
   exact Nat.mul_le_mul_right _ (by omega)
  have hs:=Int.natAbs_add_le (n*(wtF n j).2) (wtF n j).1
  exact ⟨by omega,by omega⟩
theorem Z6 (r w:Nm):(r.mul w).re=r.re * w.re - r.im * w.im:=by cases r <;> cases w <;> simp [Nm.mul,Nm.re,Nm.im]
theorem Z7 (r w:Nm):(r.mul w).im=r.re * w.im + r.im * w.re:=by cases r <;> cases w <;> simp [Nm.mul,Nm.re,Nm.im]
theorem m6 {k:Kd} {n:Int} (h:k.ok n):∀ j:Nat,j≤1000→bdN (wtR k n j) (12*j+1)
 | 0,_=>by cases k <;> exact ⟨(by decide:(1:Int).natAbs < 2 ^ 1),(by decide:(0:Int).natAbs < 2 ^ 1)⟩
 | j+1,hj=>by
  obtain ⟨a,b⟩:=m6 h j (by omega)
  have pw:2 ^ (12*(j+1)+1)=2 ^ (12*j+1)*4096:=by rw [show 12*(j+1)+1=(12*j+1)+12 by omega,Nat.pow_add]
  obtain ⟨r1,r2,r3,r4⟩:=dR (p:=(j:Int)) h (by omega) (by omega)
  have hr:(k.ratN n j).re.natAbs≤2000∧(k.ratN n j).im.natAbs≤1:=by
   obtain ⟨h1,h2⟩:=xw h
   cases k <;> simp only [Kd.ratN,Kd.rat,Nm.re,Nm.im] <;> constructor <;> omega
  unfold bdN
  rw [pw]
  unfold wtR
  generalize 2 ^ (12 * j + 1)=B at *
  generalize k.ratN n j=r at *
  generalize wtR k n j=w at *
  obtain ⟨c,d⟩:=hr
  have m1:(r.re*w.re).natAbs≤2000*w.re.natAbs:=by rw [Int.natAbs_mul]; exact Nat.mul_le_mul_right _ c
  have m2:(r.im*w.im).natAbs≤1*w.im.natAbs:=by rw [Int.natAbs_mul]; exact Nat.mul_le_mul_right _ d
  have m3:(r.re*w.im).natAbs≤2000*w.im.natAbs:=by rw [Int.natAbs_mul]; exact Nat.mul_le_mul_right _ c
  have m4:(r.im*w.re).natAbs≤1*w.re.natAbs:=by rw [Int.natAbs_mul]; exact Nat.mul_le_mul_right _ d
  have s1:(r.re*w.re - r.im*w.im).natAbs≤(r.re*w.re).natAbs+(r.im*w.im).natAbs:=by omega
  have s2:=Int.natAbs_add_le (r.re*w.im) (r.im*w.re)
  rw [Z6,Z7]
  exact ⟨by omega,by omega⟩
theorem YT {k:Kd} {n:Int} (h:k.ok n) {j:Nat} (hj:j≤1000):bdN (wt k n j) (12*j+1):=by
 by_cases h5:k.five=true
 ·rw [jL h5]; exact m6 h j hj
 ·cases k with
  | falling=>
   obtain ⟨h1,h2⟩:=xw h
   exact ⟨(pJ h1 h2 j).2,show (0:Int).natAbs<_ from Nat.two_pow_pos _⟩
  | _=>exact absurd rfl h5
theorem wt4 {k:Kd} {n:Int} (h:k.four=true):∀ j,∃ w,wtR k n j=.i w
 | 0=>by cases k <;> cases h <;> exact ⟨_,rfl⟩
 | j+1=>by
  obtain ⟨w,e⟩:=wt4 (n:=n) h j
  unfold wtR
  rw [e]
  cases k <;> cases h <;> exact ⟨_,rfl⟩
theorem wt2 {n:Int}:∀ j,∃ x y,wtR .pairs n j=.p x y
 | 0=>⟨_,_,rfl⟩
 | j+1=>by
  obtain ⟨x,y,e⟩:=wt2 (n:=n) j
  unfold wtR
  rw [e]
  exact ⟨_,_,rfl⟩
theorem wtI {k:Kd} {n:Int} (h:k≠.pairs) (j:Nat):∃ w,wt k n j=.i w:=by
 cases k with
 | pairs=>exact absurd rfl h
 | falling=>exact ⟨_,rfl⟩
 | _=>exact wt4 rfl _
theorem wsI {k:Kd} {n:Int} {ns:List Int} (h:k≠.pairs):∀ j,∃ w,yk k n ns j=.i w
 | 0=>by cases k <;> first | exact ⟨_,rfl⟩ | exact absurd rfl h
 | j+1=>by
  obtain ⟨a,ea⟩:=wsI (n:=n) (ns:=ns) h j
  obtain ⟨w,ew⟩:=wtI (n:=n) h j
  unfold yk
  rw [ea,ew]
  exact ⟨_,rfl⟩
theorem wsP {n:Int} {ns:List Int}:∀ j,∃ x y,yk .pairs n ns j=.p x y
 | 0=>⟨_,_,rfl⟩
 | j+1=>by
  obtain ⟨x,y,e⟩:=wsP (n:=n) (ns:=ns) j
  obtain ⟨u,v,ew⟩:=wt2 (n:=n) j
  unfold yk
  rw [e]
  show ∃ _ _,(Nm.p x y).add ((Nm.i _).mul (wtR .pairs n j))=_
  rw [ew]
  exact ⟨_,_,rfl⟩
def sF (k:Kd) (n:Int) (j:Nat) (t:Nm):Int:=match k with
 | .pairs=>(t.re+n*t.im).fmod (n*n+1)
 | k=>k.low n j+(t.re - k.low n j).fmod (k.high n j - k.low n j+1)
def sC (k:Kd) (n:Int) (j:Nat) (t:Nm):Nm:=match k with
 | .pairs=>.p (((t.re - sF .pairs n j t)*(-n) - t.im*(-1)).fdiv (n*n+1)) (((t.re - sF .pairs n j t)*(-1)+t.im*(-n)).fdiv (n*n+1))
 | k=>.i ((t.re - sF k n j t).fdiv (k.rat n j))
def Nm.ty (k:Kd) (m:Nm):Prop:=match k with
 | .pairs=>∃ a b,m=.p a b
 | _=>∃ a,m=.i a
def tot (k:Kd) (m:Nm):Prop:=k≠.pairs→∃ a,m=.i a
def cAt (k:Kd) (n:Int) (ts:List Nm):Nat→Nm
 | 0=>k.zero
 | j+1=>sC k n j ((cAt k n ts j).add (ts.getD j (.i 0)))
def fAt (k:Kd) (n:Int) (ts:List Nm) (j:Nat):Int:=sF k n j ((cAt k n ts j).add (ts.getD j (.i 0)))
def xP (k:Kd) (n:Int) (ts:List Nm) (j:Nat):List Int:=(List.range j).map (fAt k n ts)
def crs (k:Kd) (n:Int) (ts:List Nm) (j:Nat):List Nm:=(List.range j).map (cAt k n ts)
def xa:Kd→Nm→Bool
 | .below,.i _=>true
 | .balanced,.i _=>true
 | .pairs,.p _ _=>true
 | .pairs,.i _=>false
 | _,.i a=>decide (0≤a)
 | _,.p _ _=>false
structure Fin (k:Kd) (n:Int) (ts:List Nm) (J:Nat):Prop where
 le:ts.length≤J
 z:cAt k n ts J=k.zero
 nz:∀ j,ts.length≤j→j<J→cAt k n ts j≠k.zero∧xa k (cAt k n ts j)=true
def wN (k:Kd) (n:Int) (ts:List Nm):Nat→Nm
 | 0=>k.zero
 | j+1=>(wN k n ts j).add ((ts.getD j (.i 0)).mul (wt k n j))
def wF (k:Kd) (n:Int) (f:Nat→Int):Nat→Nm
 | 0=>k.zero
 | j+1=>(wF k n f j).add ((Nm.i (f j)).mul (wt k n j))
theorem yg (m n:Nm):(m.add n).re=m.re + n.re:=by cases m <;> cases n <;> simp [Nm.add,Nm.re]
theorem yz (m n:Nm):(m.add n).im=m.im + n.im:=by cases m <;> cases n <;> simp [Nm.add,Nm.im]
theorem zM (r w:Nm):(r.mul w).re=r.re * w.re - r.im * w.im:=by cases r <;> cases w <;> simp [Nm.mul,Nm.re,Nm.im]
theorem zQ (r w:Nm):(r.mul w).im=r.re * w.im + r.im * w.re:=by cases r <;> cases w <;> simp [Nm.mul,Nm.re,Nm.im]
theorem yI {k:Kd} {m:Nm} (h:k≠.pairs) (t:m.ty k):∃ a,m=.i a:=by
 cases k <;> first | exact t | exact absurd rfl h
theorem wG {k:Kd} {a:Int} (h:k≠.pairs):(Nm.i a).ty k:=by
 cases k <;> first | exact ⟨_,rfl⟩ | exact absurd rfl h
theorem yF (k:Kd):(k.zero).ty k:=by cases k <;> first | exact ⟨_,rfl⟩ | exact ⟨_,_,rfl⟩
theorem zT (k:Kd):(k.zero).re=0:=by cases k <;> rfl
theorem z3 (k:Kd):(k.zero).im=0:=by cases k <;> rfl
theorem vS {k:Kd} {m m':Nm} (t:m.ty k) (t':m'.ty k) (h1:m.re=m'.re) (h2:m.im=m'.im):m=m':=by
 by_cases hk:k=.pairs
 ·subst hk
  obtain ⟨a,b,rfl⟩:=t
  obtain ⟨a',b',rfl⟩:=t'
  simp only [Nm.re,Nm.im] at h1 h2
  rw [h1,h2]
 ·obtain ⟨a,rfl⟩:=yI hk t
  obtain ⟨a',rfl⟩:=yI hk t'
  simp only [Nm.re] at h1
  rw [h1]
theorem lw (k:Kd) (n:Int) (j:Nat) (t:Nm):(sC k n j t).ty k:=by
 cases k <;> first | exact ⟨_,rfl⟩ | exact ⟨_,_,rfl⟩
theorem y8 (k:Kd) (n:Int) (ts:List Nm):∀ j,(cAt k n ts j).ty k
 | 0=>yF k
 | j+1=>lw k n j _
theorem wC {k:Kd} {c t:Nm} (h:c.ty k) (h':tot k t):(c.add t).ty k:=by
 by_cases hk:k=.pairs
 ·subst hk
  obtain ⟨a,b,rfl⟩:=h
  cases t <;> exact ⟨_,_,rfl⟩
 ·obtain ⟨a,rfl⟩:=yI hk h
  obtain ⟨b,rfl⟩:=h' hk
  exact wG hk
theorem xr {k:Kd} {ts:List Nm} (h:∀ t∈ts,tot k t) (j:Nat):tot k (ts.getD j (.i 0)):=by
 rw [List.getD_eq_getElem?_getD]
 cases q:ts[j]? with
 | none=>exact fun _=>⟨0,rfl⟩
 | some t=>exact h t (List.mem_of_getElem? q)
theorem ma {lo t n:Int} (hn:0<n):lo≤lo+(t - lo).fmod n∧lo+(t - lo).fmod n≤lo+n - 1∧(lo+(t - lo).fmod n)+((t - (lo+(t - lo).fmod n)).fdiv n)*n=t:=by
 have h0:=Int.fmod_nonneg_of_pos (t - lo) hn
 have h1:=Int.fmod_lt_of_pos (t - lo) hn
 have e:t - (lo+(t - lo).fmod n)=n*(t - lo).fdiv n:=by
  have:=Int.fmod_def (t - lo) n
  omega
 refine ⟨by omega,by omega,?_⟩
 have d:(t - (lo+(t - lo).fmod n)).fdiv n=(t - lo).fdiv n:=by
  rw [e]
  exact Int.mul_fdiv_cancel_left _ (by omega)
 rw [d,Int.mul_comm]
 omega
theorem md {lo t n:Int} (hn:0<n):lo≤lo+(t - lo).fmod n∧lo+(t - lo).fmod n≤lo+n - 1∧(lo+(t - lo).fmod n)+((t - (lo+(t - lo).fmod n)).fdiv (-n))*(-n)=t:=by
 have h0:=Int.fmod_nonneg_of_pos (t - lo) hn
 have h1:=Int.fmod_lt_of_pos (t - lo) hn
 have e:t - (lo+(t - lo).fmod n)=(-n)*(-((t - lo).fdiv n)):=by
  have:=Int.fmod_def (t - lo) n
  rw [Int.neg_mul_neg]
  omega
 refine ⟨by omega,by omega,?_⟩
 have d:(t - (lo+(t - lo).fmod n)).fdiv (-n)=-((t - lo).fdiv n):=by
  rw [e]
  exact Int.mul_fdiv_cancel_left _ (by omega)
 rw [d,Int.neg_mul_neg,Int.mul_comm]
 have:=Int.fmod_def (t - lo) n
 omega
theorem uU {a b m:Int} (N:Int) (hN:N=m*m+1) (f:Int) (hf:f=(a+m*b).fmod N) (t0 t1:Int) (h0:t0=(a - f)*(-m) - b*(-1)) (h1:t1=(a - f)*(-1)+b*(-m)):
  0≤f∧f≤m*m∧f - m*(t0.fdiv N) - t1.fdiv N=a∧t0.fdiv N - m*(t1.fdiv N)=b:=by
 have sq:0≤m*m:=by
  rcases Int.le_total 0 m with h | h
  ·exact Int.mul_nonneg h h
  ·exact Int.mul_nonneg_of_nonpos_of_nonpos h h
 have hp:0<N:=by omega
 have g0:=Int.fmod_nonneg_of_pos (a+m*b) hp
 have g1:=Int.fmod_lt_of_pos (a+m*b) hp
 have e:=Int.fmod_def (a+m*b) N
 rw [← hf] at e g0 g1
 generalize (a+m*b).fdiv N=q at e
 have e0:t0=N*(b - m*q):=by subst hN; grind
 have e1:t1=N*(-q):=by subst hN; grind
 have d0:t0.fdiv N=b - m*q:=by rw [e0]; exact Int.mul_fdiv_cancel_left _ (by omega)
 have d1:t1.fdiv N=-q:=by rw [e1]; exact Int.mul_fdiv_cancel_left _ (by omega)
 rw [d0,d1]
 refine ⟨g0,by omega,?_,?_⟩ <;> subst hN <;> grind
def Kd.size:Kd→Int→Int→Int
 | .plain,n,_=>n
 | .below,n,_=>n
 | .balanced,n,_=>2*n+1
 | .growing,n,p=>n+p
 | _,_,_=>0
theorem vj {k:Kd} (h5:k.five=true) (hk:k≠.pairs):k.four=true:=by
 cases k <;> first | rfl | exact absurd rfl hk | cases h5
theorem rm {k:Kd} (h:k.four=true) (n p:Int):k.high n p - k.low n p+1=k.size n p∧(k.rat n p=k.size n p∨k.rat n p=-(k.size n p)):=by
 cases k <;> cases h <;> simp only [Kd.high,Kd.low,Kd.size,Kd.rat] <;> refine ⟨by omega,?_⟩ <;> first | exact .inl rfl | exact .inr rfl | exact .inr trivial | exact .inl trivial
theorem uV {k:Kd} {n:Int} (h:k.four=true) (hn:k.ok n) (j:Nat):2≤k.size n j:=by
 obtain ⟨h1,h2⟩:=hn
 cases k <;> cases h <;> simp only [Kd.lo,Kd.hi,Kd.size] at * <;> omega
theorem vd {k:Kd} {n:Int} {j:Nat} {t:Nm} (h5:k.five=true) (hn:k.ok n) (ht:t.ty k):
  k.low n j≤sF k n j t∧sF k n j t≤k.high n j∧t.re=sF k n j t+((k.ratN n j).mul (sC k n j t)).re∧t.im=((k.ratN n j).mul (sC k n j t)).im:=by
 by_cases hk:k=.pairs
 ·subst hk
  obtain ⟨g1,g2,g3,g4⟩:=uU (a:=t.re) (b:=t.im) (m:=n) (n*n+1) rfl _ rfl _ _ rfl rfl
  refine ⟨g1,g2,?_,?_⟩
  ·rw [zM]
   show t.re=_+(-n*_ - 1*_)
   unfold sC sF Nm.re Nm.im at *
   dsimp only at *
   grind
  ·rw [zQ]
   show t.im=(-n*_+1*_)
   unfold sC sF Nm.re Nm.im at *
   dsimp only at *
   grind
 ·have h4:=vj h5 hk
  obtain ⟨e1,e2⟩:=rm h4 n j
  have hp:=uV h4 hn j
  obtain ⟨a,rfl⟩:=yI hk ht
  have eF:sF k n j (.i a)=k.low n j + (a - k.low n j).fmod (k.size n j):=by rw [← e1]; cases k <;> first | rfl | exact absurd rfl hk
  have eC:sC k n j (.i a)=.i ((a - sF k n j (.i a)).fdiv (k.rat n j)):=by cases k <;> first | rfl | exact absurd rfl hk
  have eR:k.ratN n j=.i (k.rat n j):=by cases k <;> first | rfl | exact absurd rfl hk
  have s1:=ma (lo:=k.low n j) (t:=a) (n:=k.size n j) (by omega)
  have s2:=md (lo:=k.low n j) (t:=a) (n:=k.size n j) (by omega)
  rw [eC,eR,eF]
  refine ⟨s1.1,by have:=s1.2.1; omega,?_,rfl⟩
  show a=_+k.rat n j*_
  rw [Int.mul_comm (k.rat n j)]
  rcases e2 with e | e
  ·rw [e]; exact s1.2.2.symm
  ·rw [e]; exact s2.2.2.symm
theorem yi {k:Kd} {n:Int} (h5:k.five=true) (j:Nat):wt k n (j+1)=(k.ratN n j).mul (wt k n j):=by
 cases k <;> first | rfl | cases h5
theorem n8 {T1 T2 F1 F2 w1 w2 c1 c2 t1 t2 f r1 r2 d1 d2:Int} (h1:T1=F1+(w1*c1 - w2*c2)) (h2:T2=F2+(w1*c2+w2*c1)) (s1:c1+t1=f+(r1*d1 - r2*d2)) (s2:c2+t2=r1*d2+r2*d1):
  T1+(t1*w1 - t2*w2)=F1+(f*w1 - 0*w2)+((r1*w1 - r2*w2)*d1 - (r1*w2+r2*w1)*d2)∧T2+(t1*w2+t2*w1)=F2+(f*w2+0*w1)+((r1*w1 - r2*w2)*d2+(r1*w2+r2*w1)*d1):=by
 have e1:c1=f+(r1*d1 - r2*d2) - t1:=by omega
 have e2:c2=r1*d2+r2*d1 - t2:=by omega
 subst e1 e2 h1 h2
 constructor <;> grind
theorem dL {k:Kd} {n:Int} {ts:List Nm} (h5:k.five=true) (hn:k.ok n) (ht:∀ t∈ts,tot k t):∀ j,
  (wN k n ts j).re=(wF k n (fAt k n ts) j).re+((wt k n j).mul (cAt k n ts j)).re∧(wN k n ts j).im=(wF k n (fAt k n ts) j).im+((wt k n j).mul (cAt k n ts j)).im
 | 0=>by
  unfold wN wF cAt
  rw [zM,zQ,zT,z3]
  constructor <;> grind
 | j+1=>by
  obtain ⟨i1,i2⟩:=dL h5 hn ht j
  obtain ⟨_,_,s1,s2⟩:=vd (j:=j) h5 hn (wC (y8 k n ts j) (xr ht j))
  have ec:cAt k n ts (j+1)=sC k n j ((cAt k n ts j).add (ts.getD j (.i 0))):=rfl
  have ef:fAt k n ts j=sF k n j ((cAt k n ts j).add (ts.getD j (.i 0))):=rfl
  rw [← ec,← ef] at s1
  rw [← ec] at s2
  rw [yg] at s1
  rw [yz] at s2
  have e1:(wN k n ts (j+1))=(wN k n ts j).add ((ts.getD j (.i 0)).mul (wt k n j)):=rfl
  have e2:(wF k n (fAt k n ts) (j+1))=(wF k n (fAt k n ts) j).add ((Nm.i (fAt k n ts j)).mul (wt k n j)):=rfl
  rw [e1,e2,yi h5]
  rw [zM] at s1
  rw [zQ] at s2
  rw [zM] at i1
  rw [zQ] at i2
  have R:=n8 i1 i2 s1 s2
  simp only [zM,zQ,yg,yz]
  exact R
theorem Vn {k:Kd} {c:Nm} (h:c.ty k):c.add (.i 0)=c:=by
 by_cases hk:k=.pairs
 ·subst hk
  obtain ⟨a,b,rfl⟩:=h
  show Nm.p (a+0) (b+0)=_
  rw [Int.add_zero,Int.add_zero]
 ·obtain ⟨a,rfl⟩:=yI hk h
  show Nm.i (a+0)=_
  rw [Int.add_zero]
theorem YS {k:Kd} {c:Nm} (h:c.ty k):k.zero.add c=c:=by
 by_cases hk:k=.pairs
 ·subst hk
  obtain ⟨a,b,rfl⟩:=h
  show Nm.p (0+a) (0+b)=_
  rw [Int.zero_add,Int.zero_add]
 ·obtain ⟨a,rfl⟩:=yI hk h
  have:k.zero=.i 0:=by cases k <;> first | rfl | exact absurd rfl hk
  rw [this]
  show Nm.i (0+a)=_
  rw [Int.zero_add]
theorem eG {k:Kd} {n:Int} {ts:List Nm} {j:Nat} (h:ts.length≤j):cAt k n ts (j+1)=sC k n j (cAt k n ts j):=by
 have e:ts.getD j (.i 0)=.i 0:=by rw [List.getD_eq_getElem?_getD,List.getElem?_eq_none h]; rfl
 show sC k n j ((cAt k n ts j).add (ts.getD j (.i 0)))=_
 rw [e,Vn (y8 k n ts j)]
theorem qG {s t f a:Int} (hs:2≤s) (f1:0≤f) (f2:f≤s - 1) (q:t=f+s*a):2*a.natAbs≤t.natAbs+1∧(0≤t→0≤a)∧(t.natAbs≤1→0≤t→a=0):=by
 have hm:∀ x:Int,0≤x→2*x≤s*x:=fun x hx=>Int.mul_le_mul_of_nonneg_right hs hx
 have e2:s*(-a)=-(s*a):=Int.mul_neg ..
 have e3:s*(-a - 1)=-(s*a) - s:=by rw [Int.mul_sub,Int.mul_one,e2]
 rcases (by omega:0≤a∨a≤-1) with z | z
 ·have:=hm a z
  exact ⟨by omega,fun _=>z,fun _ _=>by omega⟩
 ·have:=hm (-a - 1) (by omega)
  exact ⟨by omega,fun _=>by omega,fun _ _=>by omega⟩
theorem sM {k:Kd} {n:Int} {j:Nat} {t a:Int} (h4:k.four=true) (hn:k.ok n) (e:sC k n j (.i t)=.i a):
  2*a.natAbs≤t.natAbs+1∧(xa k (.i t)=true→xa k (.i a)=true)∧(t.natAbs≤1→xa k (.i t)=true→a=0∨(t=-1∧a=1)):=by
 have h5:k.five=true:=by cases k <;> first | rfl | cases h4
 have hk:k≠.pairs:=fun z=>by rw [z] at h4; cases h4
 obtain ⟨f1,f2,q,_⟩:=vd (j:=j) h5 hn (t:=.i t) (wG hk)
 rw [e,zM] at q
 have hs:=uV h4 hn j
 obtain ⟨h1,h2⟩:=hn
 generalize sF k n j (.i t)=f at *
 cases k with
 | falling=>cases h4
 | pairs=>cases h4
 | plain=>
  simp only [Kd.ratN,Kd.rat,Nm.re,Nm.im,Kd.low,Kd.high,Kd.size,xa,decide_eq_true_iff] at *
  obtain ⟨p1,p2,p3⟩:=qG (t:=t) (a:=a) hs f1 f2 (by omega)
  exact ⟨p1,p2,fun x y=>.inl (p3 x y)⟩
 | below=>
  simp only [Kd.ratN,Kd.rat,Nm.re,Nm.im,Kd.low,Kd.high,Kd.size,xa] at *
  have q':t=f - n*a:=by rw [q,Int.neg_mul]; omega
  have hm:∀ x:Int,0≤x→2*x≤n*x:=fun x hx=>Int.mul_le_mul_of_nonneg_right hs hx
  have e1:n*(a - 1)=n*a - n:=by rw [Int.mul_sub,Int.mul_one]
  have e2:n*(-a)=-(n*a):=Int.mul_neg ..
  have e3:n*(-a - 1)=-(n*a) - n:=by rw [Int.mul_sub,Int.mul_one,e2]
  refine ⟨?_,fun _=>trivial,fun h3 _=>?_⟩
  ·rcases (by omega:1≤a∨a=0∨a≤-1) with z | z | z
   ·have:=hm (a - 1) (by omega); omega
   ·omega
   ·have:=hm (-a) (by omega); omega
  ·rcases (by omega:2≤a∨a=1∨a=0∨a≤-1) with z | z | z | z
   ·have:=hm (a - 1) (by omega); omega
   ·subst z; omega
   ·exact .inl z
   ·have:=hm (-a) (by omega); omega
 | balanced=>
  simp only [Kd.ratN,Kd.rat,Nm.re,Nm.im,Kd.low,Kd.high,Kd.size,xa,Kd.lo] at *
  have q':t=f+2*(n*a)+a:=by rw [q,Int.add_mul,Int.mul_assoc]; omega
  have hm:∀ x:Int,0≤x→x≤n*x:=fun x hx=>by
   have:=Int.mul_le_mul_of_nonneg_right h1 hx
   omega
  have e1:n*(a - 1)=n*a - n:=by rw [Int.mul_sub,Int.mul_one]
  have e2:n*(-a)=-(n*a):=Int.mul_neg ..
  have e3:n*(-a - 1)=-(n*a) - n:=by rw [Int.mul_sub,Int.mul_one,e2]
  have key:2*a.natAbs≤t.natAbs:=by
   rcases (by omega:1≤a∨a=0∨a≤-1) with z | z | z
   ·have:=hm (a - 1) (by omega); have:=hm a (by omega); omega
   ·omega
   ·have:=hm (-a - 1) (by omega); have:=hm (-a) (by omega); omega
  exact ⟨by omega,fun _=>trivial,fun _ _=>.inl (by omega)⟩
 | growing=>
  simp only [Kd.ratN,Kd.rat,Nm.re,Nm.im,Kd.low,Kd.high,Kd.size,xa,decide_eq_true_iff] at *
  obtain ⟨p1,p2,p3⟩:=qG (t:=t) (a:=a) (s:=n+(j:Int)) hs f1 (by omega) (by omega)
  exact ⟨p1,p2,fun x y=>.inl (p3 x y)⟩
theorem eL {k:Kd} (h4:k.four=true):k.zero=.i 0:=by cases k <;> first | rfl | cases h4
theorem sC4 {k:Kd} {n:Int} {j:Nat} {t:Nm} (h4:k.four=true):∃ a,sC k n j t=.i a:=yI (fun z=>by rw [z] at h4; cases h4) (lw k n j t)
theorem dj {k:Kd} {n:Int} (h4:k.four=true) (hn:k.ok n):∀ (b:Nat) (j:Nat) (c:Nat→Nm) (t:Int),c 0=.i t→(∀ i,c (i+1)=sC k n (j+i) (c i))→xa k (.i t)=true→t.natAbs≤2 ^ b→∃ m,m≤b+2∧c m=k.zero
 | 0,j,c,t,h0,hc,hh,hb=>by
  obtain ⟨a,ea⟩:=sC4 (n:=n) (j:=j) (t:=.i t) h4
  have e1:c 1=.i a:=by rw [hc 0,h0]; exact ea
  obtain ⟨_,s2,s3⟩:=sM h4 hn ea
  rcases s3 hb hh with z | ⟨_,z⟩
  ·exact ⟨1,by omega,by rw [e1,z,eL h4]⟩
  ·obtain ⟨a2,ea2⟩:=sC4 (n:=n) (j:=j+1) (t:=.i a) h4
   have e2:c 2=.i a2:=by rw [hc 1,e1]; exact ea2
   obtain ⟨_,_,s5⟩:=sM h4 hn ea2
   rcases s5 (by omega) (s2 hh) with y | ⟨y,_⟩
   ·exact ⟨2,by omega,by rw [e2,y,eL h4]⟩
   ·omega
 | b+1,j,c,t,h0,hc,hh,hb=>by
  obtain ⟨a,ea⟩:=sC4 (n:=n) (j:=j) (t:=.i t) h4
  have e1:c 1=.i a:=by rw [hc 0,h0]; exact ea
  obtain ⟨s1,s2,_⟩:=sM h4 hn ea
  have hp:2 ^ (b+1)=2*2 ^ b:=by rw [Nat.pow_succ]; omega
  obtain ⟨m,hm,e⟩:=dj h4 hn b (j+1) (fun i=>c (i+1)) a e1 (fun i=>by rw [hc (i+1),show j+(i+1)=j+1+i by omega]) (s2 hh) (by omega)
  exact ⟨m+1,by omega,e⟩
theorem qz {k:Kd} {n:Int} (h4:k.four=true) (hn:k.ok n) {j:Nat} {c:Nat→Nm} {t:Int} (h0:c 0=.i t) (hc:∀ i,c (i+1)=sC k n (j+i) (c i)) (hh:xa k (.i t)=true):∀ i,∃ a,c i=.i a∧xa k (.i a)=true
 | 0=>⟨t,h0,hh⟩
 | i+1=>by
  obtain ⟨a,e,h⟩:=qz h4 hn h0 hc hh i
  obtain ⟨a',e'⟩:=sC4 (n:=n) (j:=j+i) (t:=.i a) h4
  exact ⟨a',by rw [hc i,e]; exact e',(sM h4 hn e').2.1 h⟩
def pA (n a b:Int):Int:=((a - (a+n*b).fmod (n*n+1))*(-n) - b*(-1)).fdiv (n*n+1)
def pB (n a b:Int):Int:=((a - (a+n*b).fmod (n*n+1))*(-1)+b*(-n)).fdiv (n*n+1)
theorem jR (n:Int) (j:Nat) (a b:Int):sC .pairs n j (.p a b)=.p (pA n a b) (pB n a b):=rfl
def pz (n:Int):Nat→Int→Int→Bool
 | 0,a,b=>a == 0 && b == 0
 | m+1,a,b=>(a == 0 && b == 0) || pz n m (pA n a b) (pB n a b)
theorem dS:(List.range 9).all (fun n=>(List.range 31).all fun a=>(List.range 31).all fun b=>pz ((n:Int)+1) 14 ((a:Int) - 15) ((b:Int) - 15))=true:=by decide +kernel
theorem lE {n a b:Int} (n1:1≤n) (n2:n≤9) (a1:-15≤a) (a2:a≤15) (b1:-15≤b) (b2:b≤15):pz n 14 a b=true:=by
 have h:=List.all_eq_true.mp dS (n - 1).toNat (List.mem_range.mpr (by omega))
 have h:=List.all_eq_true.mp h (a+15).toNat (List.mem_range.mpr (by omega))
 have h:=List.all_eq_true.mp h (b+15).toNat (List.mem_range.mpr (by omega))
 rw [show (((n - 1).toNat:Nat):Int)+1=n by omega,show (((a+15).toNat:Nat):Int) - 15=a by omega,show (((b+15).toNat:Nat):Int) - 15=b by omega] at h
 exact h
theorem rB {n:Int}:∀ (m j:Nat) (c:Nat→Nm) (a b:Int),c 0=.p a b→(∀ i,c (i+1)=sC .pairs n (j+i) (c i))→pz n m a b=true→∃ i,i≤m∧c i=Kd.zero .pairs
 | 0,j,c,a,b,h0,hc,h=>by
  unfold pz at h
  rw [Bool.and_eq_true,beq_iff_eq,beq_iff_eq] at h
  exact ⟨0,Nat.le_refl _,by rw [h0,h.1,h.2]; rfl⟩
 | m+1,j,c,a,b,h0,hc,h=>by
  unfold pz at h
  rw [Bool.or_eq_true] at h
  rcases h with h | h
  ·rw [Bool.and_eq_true,beq_iff_eq,beq_iff_eq] at h
   exact ⟨0,by omega,by rw [h0,h.1,h.2]; rfl⟩
  ·obtain ⟨i,hi,e⟩:=rB m (j+1) (fun i=>c (i+1)) _ _ (by rw [hc 0,h0]; exact jR n _ a b) (fun i=>by rw [hc (i+1),show j+(i+1)=j+1+i by omega]) h
   exact ⟨i+1,by omega,e⟩
theorem nt {n a b:Int}:∃ f,0≤f∧f≤n*n∧(a - f)*(a - f)+b*b=(n*n+1)*(pA n a b*pA n a b+pB n a b*pB n a b):=by
 obtain ⟨g1,g2,g3,g4⟩:=uU (a:=a) (b:=b) (m:=n) (n*n+1) rfl _ rfl _ _ rfl rfl
 refine ⟨_,g1,g2,?_⟩
 have e1:pA n a b=((a - (a+n*b).fmod (n*n+1))*(-n) - b*(-1)).fdiv (n*n+1):=rfl
 have e2:pB n a b=((a - (a+n*b).fmod (n*n+1))*(-1)+b*(-n)).fdiv (n*n+1):=rfl
 rw [← e1,← e2] at g3
 rw [← e1,← e2] at g4
 generalize (a + n * b).fmod (n * n + 1)=f at *
 generalize pA n a b=x at *
 generalize pB n a b=y at *
 have ea:a - f=-(n*x) - y:=by omega
 have eb:b=x - n*y:=by omega
 rw [ea,eb]
 grind
theorem zU (x:Int):0≤x*x:=by
 rcases Int.le_total 0 x with h | h
 ·exact Int.mul_nonneg h h
 ·exact Int.mul_nonneg_of_nonpos_of_nonpos h h
theorem kN {n a b f:Int} (n1:1≤n) (n2:n≤9) (f0:0≤f) (f1:f≤n*n) (h:¬ (-15≤a∧a≤15∧-15≤b∧b≤15)):8*((a - f)*(a - f)+b*b)≤5*((n*n+1)*(a*a+b*b)):=by
 have e1:(a - f)*(a - f)=a*a - 2*(a*f)+f*f:=by grind
 have e2:(n*n+1)*(a*a+b*b)=(n*n)*(a*a+b*b)+(a*a+b*b):=by grind
 rw [e1,e2]
 have q1:1≤n*n:=by have:=Int.mul_le_mul n1 n1 (by omega) (by omega); omega
 have q2:n*n≤81:=by have:=Int.mul_le_mul n2 n2 (by omega) (by omega); omega
 have hff:f*f≤(n*n)*(n*n):=Int.mul_le_mul f1 f1 f0 (by omega)
 have hf0:0≤f*f:=zU f
 have haf:-(a.natAbs:Int)*(n*n)≤a*f:=by
  rcases Int.le_total 0 a with z | z
  ·have z1:0≤a*f:=Int.mul_nonneg z f0
   have z2:0≤a*(n*n):=Int.mul_nonneg z (by omega)
   rw [show (a.natAbs:Int)=a by omega,Int.neg_mul]
   omega
  ·rw [show (a.natAbs:Int)=-a by omega,Int.neg_neg]
   exact Int.mul_le_mul_of_nonpos_left z f1
 have hA:(a.natAbs:Int)*a.natAbs=a*a:=by
  rcases Int.le_total 0 a with z | z
  ·rw [show (a.natAbs:Int)=a by omega]
  ·rw [show (a.natAbs:Int)=-a by omega,Int.neg_mul_neg]
 have hB:(b.natAbs:Int)*b.natAbs=b*b:=by
  rcases Int.le_total 0 b with z | z
  ·rw [show (b.natAbs:Int)=b by omega]
  ·rw [show (b.natAbs:Int)=-b by omega,Int.neg_mul_neg]
 have hAB:16≤(a.natAbs:Int)∨16≤(b.natAbs:Int):=by omega
 have hA0:(0:Int)≤(a.natAbs:Int):=Int.natCast_nonneg _
 rw [← hA,← hB]
 generalize (a.natAbs:Int)=A at *
 generalize (b.natAbs:Int)=B at *
 have sB:=zU B
 have s4:=zU (A - 4)
 have s2:=zU (A - 2)
 have x4:(A - 4)*(A - 4)=A*A - 8*A+16:=by grind
 have x2:(A - 2)*(A - 2)=A*A - 4*A+4:=by grind
 rw [x4] at s4
 rw [x2] at s2
 have hb16:16≤B→256≤B*B:=fun z=>by have:=Int.mul_le_mul z z (by decide) (by omega); omega
 have ha16:16≤A→16*A≤A*A:=fun z=>Int.mul_le_mul_of_nonneg_right z (by omega)
 rcases (by omega:n=1∨n=2∨n=3∨n=4∨n=5∨n=6∨n=7∨n=8∨n=9) with z | z | z | z | z | z | z | z | z <;> subst z <;> rcases hAB with z | z <;> first | (have:=ha16 z; omega) | (have:=hb16 z; omega)
theorem qP {n a b:Int} (n1:1≤n) (n2:n≤9) (h:¬ (-15≤a∧a≤15∧-15≤b∧b≤15)):8*(pA n a b*pA n a b+pB n a b*pB n a b)≤5*(a*a+b*b):=by
 obtain ⟨f,f0,f1,e⟩:=nt (n:=n) (a:=a) (b:=b)
 have k:=kN n1 n2 f0 f1 h
 rw [e] at k
 have q1:0<n*n+1:=by have:=zU n; omega
 generalize pA n a b * pA n a b + pB n a b * pB n a b=X at *
 generalize a * a + b * b=Y at *
 generalize n * n + 1=N at *
 have k':N*(8*X)≤N*(5*Y):=by
  have r1:N*(8*X)=8*(N*X):=by grind
  have r2:N*(5*Y)=5*(N*Y):=by grind
  rw [r1,r2]; exact k
 exact Int.le_of_mul_le_mul_left k' q1
theorem WJ {n:Int} (n1:1≤n) (n2:n≤9):∀ (d j:Nat) (c:Nat→Nm) (a b:Int),c 0=.p a b→(∀ i,c (i+1)=sC .pairs n (j+i) (c i))→a*a+b*b≤((2 ^ d:Nat):Int)→∃ m,m≤2*d+16∧c m=Kd.zero .pairs:=by
 intro d
 induction d with
 | zero=>
  intro j c a b h0 hc hb
  have sa:=zU a
  have sb:=zU b
  have hb':a*a+b*b≤1:=hb
  have ha:-15≤a∧a≤15:=by
   constructor
   ·rcases Int.lt_or_le a (-15) with z | z
    ·have:=Int.mul_le_mul (show 16≤-a by omega) (show 16≤-a by omega) (by decide) (by omega)
     rw [Int.neg_mul_neg] at this; omega
    ·exact z
   ·rcases Int.lt_or_le 15 a with z | z
    ·have:=Int.mul_le_mul (show 16≤a by omega) (show 16≤a by omega) (by decide) (by omega)
     omega
    ·exact z
  have hbb:-15≤b∧b≤15:=by
   constructor
   ·rcases Int.lt_or_le b (-15) with z | z
    ·have:=Int.mul_le_mul (show 16≤-b by omega) (show 16≤-b by omega) (by decide) (by omega)
     rw [Int.neg_mul_neg] at this; omega
    ·exact z
   ·rcases Int.lt_or_le 15 b with z | z
    ·have:=Int.mul_le_mul (show 16≤b by omega) (show 16≤b by omega) (by decide) (by omega)
     omega
    ·exact z
  obtain ⟨i,hi,e⟩:=rB 14 j c a b h0 hc (lE n1 n2 ha.1 ha.2 hbb.1 hbb.2)
  exact ⟨i,by omega,e⟩
 | succ d ih=>
  intro j c a b h0 hc hb
  by_cases hin:-15≤a∧a≤15∧-15≤b∧b≤15
  ·obtain ⟨i,hi,e⟩:=rB 14 j c a b h0 hc (lE n1 n2 hin.1 hin.2.1 hin.2.2.1 hin.2.2.2)
   exact ⟨i,by omega,e⟩
  ·have e1:c 1=.p (pA n a b) (pB n a b):=by rw [hc 0,h0]; exact jR n _ a b
   have k1:=qP n1 n2 hin
   by_cases hin2:-15≤pA n a b∧pA n a b≤15∧-15≤pB n a b∧pB n a b≤15
   ·obtain ⟨i,hi,e⟩:=rB 14 (j+1) (fun i=>c (i+1)) _ _ e1 (fun i=>by rw [hc (i+1),show j+(i+1)=j+1+i by omega]) (lE n1 n2 hin2.1 hin2.2.1 hin2.2.2.1 hin2.2.2.2)
    exact ⟨i+1,by omega,e⟩
   ·have k2:=qP n1 n2 hin2
    have e2:c 2=.p (pA n (pA n a b) (pB n a b)) (pB n (pA n a b) (pB n a b)):=by rw [hc 1,e1]; exact jR n _ _ _
    have hp:((2 ^ (d+1):Nat):Int)=2*((2 ^ d:Nat):Int):=by rw [Nat.pow_succ]; omega
    have h2:(0:Int)≤((2 ^ d:Nat):Int):=Int.natCast_nonneg _
    obtain ⟨m,hm,e⟩:=ih (j+2) (fun i=>c (i+2)) _ _ e2 (fun i=>by rw [hc (i+2),show j+(i+2)=j+2+i by omega]) (by omega)
    exact ⟨m+2,by omega,e⟩
theorem dQ {k:Kd} {n:Int} {j:Nat} {c t:Nm} {T:Nat} (h4:k.four=true) (hn:k.ok n) (hc:c.ty k) (ht:tot k t) (b1:c.re.natAbs≤T+1) (b2:t.re.natAbs≤T):(sC k n j (c.add t)).re.natAbs≤T+1:=by
 have hk:k≠.pairs:=fun z=>by rw [z] at h4; cases h4
 obtain ⟨x,rfl⟩:=yI hk hc
 obtain ⟨y,rfl⟩:=ht hk
 obtain ⟨a,ea⟩:=sC4 (n:=n) (j:=j) (t:=.i (x+y)) h4
 have e:(Nm.i x).add (.i y)=.i (x+y):=rfl
 rw [e,ea]
 have:=(sM h4 hn ea).1
 simp only [Nm.re] at *
 omega
theorem nN {k:Kd} {n:Int} {ts:List Nm} {T:Nat} (h4:k.four=true) (hn:k.ok n) (ht:∀ t∈ts,tot k t) (hb:∀ t∈ts,t.re.natAbs≤T):∀ j,(cAt k n ts j).re.natAbs≤T+1
 | 0=>by
  show (k.zero).re.natAbs≤_
  rw [zT]
  exact Nat.zero_le _
 | j+1=>by
  refine dQ h4 hn (y8 k n ts j) (xr ht j) (nN h4 hn ht hb j) ?_
  rw [List.getD_eq_getElem?_getD]
  cases q:ts[j]? with
  | none=>exact Nat.zero_le _
  | some t=>exact hb t (List.mem_of_getElem? q)
theorem eO {x T:Int} (h1:-T≤x) (h2:x≤T):x*x≤T*T:=by
 rcases Int.le_total 0 x with z | z
 ·exact Int.mul_le_mul h2 h2 z (by omega)
 ·have:=Int.mul_le_mul (show -x≤T by omega) (show -x≤T by omega) (by omega) (by omega)
  rwa [Int.neg_mul_neg] at this
theorem mD {n a b x y T:Int} (hT:81≤T) (n1:1≤n) (n2:n≤9) (hx1:-T≤x) (hx2:x≤T) (hy1:-T≤y) (hy2:y≤T) (h:a*a+b*b≤30*(T*T)):
  pA n (a+x) (b+y)*pA n (a+x) (b+y)+pB n (a+x) (b+y)*pB n (a+x) (b+y)≤30*(T*T):=by
 obtain ⟨f,f0,f1,e⟩:=nt (n:=n) (a:=a+x) (b:=b+y)
 have q1:1≤n*n:=by have:=Int.mul_le_mul n1 n1 (by omega) (by omega); omega
 have q2:n*n≤81:=by have:=Int.mul_le_mul n2 n2 (by omega) (by omega); omega
 generalize pA n (a + x) (b + y) * pA n (a + x) (b + y) + pB n (a + x) (b + y) * pB n (a + x) (b + y)=X at *
 have hX:2*X≤(n*n+1)*X∨X<0:=by
  rcases Int.lt_or_le X 0 with z | z
  ·exact .inr z
  ·exact .inl (Int.mul_le_mul_of_nonneg_right (by omega) z)
 have r1:2*((a+x - f)*(a+x - f))≤3*(a*a)+6*((x - f)*(x - f)):=by
  have:=zU (a - 2*(x - f))
  have e1:(a - 2*(x - f))*(a - 2*(x - f))=a*a - 4*(a*(x - f))+4*((x - f)*(x - f)):=by grind
  have e2:(a+x - f)*(a+x - f)=a*a+2*(a*(x - f))+(x - f)*(x - f):=by grind
  omega
 have r2:2*((b+y)*(b+y))≤3*(b*b)+6*(y*y):=by
  have:=zU (b - 2*y)
  have e1:(b - 2*y)*(b - 2*y)=b*b - 4*(b*y)+4*(y*y):=by grind
  have e2:(b+y)*(b+y)=b*b+2*(b*y)+y*y:=by grind
  omega
 have s1:(x - f)*(x - f)≤(2*T)*(2*T):=eO (by omega) (by omega)
 have s2:y*y≤T*T:=eO hy1 hy2
 have s3:(2*T)*(2*T)=4*(T*T):=by grind
 have s4:=zU T
 omega
theorem nM {n:Int} {ts:List Nm} {T:Nat} (hT:81≤T) (hn:Kd.pairs.ok n) (hb:∀ t∈ts,t.re.natAbs≤T∧t.im.natAbs≤T):∀ j,∃ a b,cAt .pairs n ts j=.p a b∧a*a+b*b≤30*((T:Int)*T)
 | 0=>⟨0,0,rfl,by have:=zU (T:Int); omega⟩
 | j+1=>by
  obtain ⟨a,b,e,h⟩:=nM hT hn hb j
  have ht:(ts.getD j (.i 0)).re.natAbs≤T∧(ts.getD j (.i 0)).im.natAbs≤T:=by
   rw [List.getD_eq_getElem?_getD]
   cases q:ts[j]? with
   | none=>exact ⟨Nat.zero_le _,Nat.zero_le _⟩
   | some t=>exact hb t (List.mem_of_getElem? q)
  have ea:(Nm.p a b).add (ts.getD j (.i 0))=.p (a+(ts.getD j (.i 0)).re) (b+(ts.getD j (.i 0)).im):=by
   cases ts.getD j (.i 0) <;> rfl
  refine ⟨_,_,by show sC .pairs n j ((cAt .pairs n ts j).add _)=_; rw [e,ea]; exact jR ..,?_⟩
  have h1:(1:Int)≤n:=hn.1
  have h2:n≤9:=hn.2
  exact mD (by omega) h1 h2 (by omega) (by omega) (by omega) (by omega) h
theorem Ww {P:Nat→Prop}:∀ (m:Nat),P m→∃ i,i≤m∧P i∧∀ l,l<i→¬ P l:=by
 intro m
 induction m using Nat.strongRecOn with
 | ind m ih=>
  intro h
  by_cases hx:∃ l,l<m∧P l
  ·obtain ⟨l,hl,pl⟩:=hx
   obtain ⟨i,hi,h2⟩:=ih l hl pl
   exact ⟨i,by omega,h2⟩
  ·exact ⟨m,Nat.le_refl _,h,fun l hl pl=>hx ⟨l,hl,pl⟩⟩
theorem nc {k:Kd} {n:Int} {ts:List Nm} {b:Nat} (h5:k.five=true) (hn:k.ok n) (ht:∀ t∈ts,tot k t) (hb:∀ t∈ts,t.re.natAbs≤2 ^ b∧t.im.natAbs≤2 ^ b) (b7:7≤b) (hh:xa k (cAt k n ts ts.length)=true):
  ∃ J,Fin k n ts J∧J≤ts.length+4*b+30∧(k≠.pairs→J≤ts.length+b+3):=by
 have hpow:2 ^ (b+1)=2*2 ^ b:=by rw [Nat.pow_succ]; omega
 have h128:128≤2 ^ b:=Nat.pow_le_pow_right (by decide:0<2) b7
 have main:∃ m,m≤4*b+30∧(k≠.pairs→m≤b+3)∧cAt k n ts (ts.length+m)=k.zero∧∀ i,xa k (cAt k n ts (ts.length+i))=true:=by
  have hc:∀ i,cAt k n ts (ts.length+(i+1))=sC k n (ts.length+i) (cAt k n ts (ts.length+i)):=fun i=>eG (j:=ts.length+i) (by omega)
  by_cases hk:k=.pairs
  ·subst hk
   obtain ⟨x,y,e,hxy⟩:=nM (T:=2 ^ b) (by omega) hn hb ts.length
   have hbig:30*(((2 ^ b:Nat):Int)*((2 ^ b:Nat):Int))≤((2 ^ (2*b+5):Nat):Int):=by
    have:2 ^ (2*b+5)=32*(2 ^ b*2 ^ b):=by rw [← Nat.pow_add,show 2*b+5=(b+b)+5 by omega,Nat.pow_add]; omega
    rw [this,← Int.natCast_mul]
    omega
   obtain ⟨m,hm,em⟩:=WJ hn.1 hn.2 (2*b+5) ts.length (fun i=>cAt .pairs n ts (ts.length+i)) x y e hc (Int.le_trans hxy hbig)
   refine ⟨m,by omega,fun z=>absurd rfl z,em,fun i=>?_⟩
   obtain ⟨u,v,e'⟩:=y8 .pairs n ts (ts.length+i)
   rw [e']
   rfl
  ·have h4:=vj h5 hk
   obtain ⟨t,et⟩:=yI hk (y8 k n ts ts.length)
   rw [et] at hh
   have bd:=nN h4 hn ht (fun t h=>(hb t h).1) ts.length
   rw [et] at bd
   have bd':t.natAbs≤2 ^ b+1:=bd
   obtain ⟨m,hm,em⟩:=dj h4 hn (b+1) ts.length (fun i=>cAt k n ts (ts.length+i)) t et hc hh (by omega)
   refine ⟨m,by omega,fun _=>by omega,em,fun i=>?_⟩
   obtain ⟨a,e',h'⟩:=qz h4 hn (c:=fun i=>cAt k n ts (ts.length+i)) et hc hh i
   have e':cAt k n ts (ts.length+i)=.i a:=e'
   rw [e']
   exact h'
 obtain ⟨m,hm,hm4,em,hall⟩:=main
 obtain ⟨i,hi,pi,hl⟩:=Ww (P:=fun i=>cAt k n ts (ts.length+i)=k.zero) m em
 refine ⟨ts.length+i,⟨by omega,pi,fun j h1 h2=>?_⟩,by omega,fun z=>by have:=hm4 z; omega⟩
 have e:j=ts.length+(j - ts.length):=by omega
 rw [e]
 exact ⟨hl _ (by omega),hall _⟩
theorem ww (k:Kd) (n:Int) (ts:List Nm) (j:Nat):(xP k n ts j).length=j:=by unfold xP; rw [List.length_map,List.length_range]
theorem q8 {k:Kd} {n:Int} {ts:List Nm} {j i:Nat} (h:i<j):(xP k n ts j).getD i 0=fAt k n ts i:=by
 unfold xP
 rw [List.getD_eq_getElem?_getD,List.getElem?_map,List.getElem?_range h]
 rfl
theorem mQ (k:Kd) (n:Int) (ts:List Nm) (j:Nat):xP k n ts (j+1)=xP k n ts j++[fAt k n ts j]:=by
 unfold xP
 rw [List.range_succ,List.map_append]
 rfl
theorem jp (k:Kd) (n:Int) (ts:List Nm) (j:Nat):crs k n ts (j+1)=crs k n ts j++[cAt k n ts j]:=by
 unfold crs
 rw [List.range_succ,List.map_append]
 rfl
theorem eE (k:Kd) (n:Int) (ts:List Nm) (j:Nat):(crs k n ts j).length=j:=by unfold crs; rw [List.length_map,List.length_range]
def Kd.isF:Kd→Bool
 | .falling=>true
 | _=>false
structure Legal (k:Kd) (n:Int) (r:List Int):Prop where
 fig:∀ p,p<r.length→k.low n p≤r.getD p 0∧r.getD p 0≤k.high n p
 fal:k.isF=true→∀ p,p+1<r.length→r.getD (p+1) 0=n→r.getD p 0=0
 end_:r=[]∨r.getD (r.length - 1) 0≠0
open Classical in
noncomputable def qR (k:Kd) (n:Int) (r:List Int):Bool:=decide (Legal k n r)
open Classical in
theorem nv {k:Kd} {n:Int} {r:List Int} (h:Legal k n r):qR k n r=true:=by unfold qR; exact decide_eq_true h
open Classical in
theorem rV {k:Kd} {n:Int} {r:List Int} (h:¬ Legal k n r):qR k n r=false:=by unfold qR; exact decide_eq_false h
structure Lg (k:Kd) (n:Int) (r:List Int):Prop where
 fig:∀ p,p<r.length→k.low n p≤r.getD p 0∧r.getD p 0≤k.high n p
 fal:k.isF=true→∀ p,p+1<r.length→r.getD (p+1) 0=n→r.getD p 0=0
theorem tK {k:Kd} {n:Int} (h:k.ok n) (p:Nat):k.low n p≤0∧0≤k.high n p:=by
 obtain ⟨h1,h2⟩:=h
 cases k <;> simp only [Kd.lo,Kd.hi,Kd.low,Kd.high] at * <;> first | omega | exact ⟨Int.le_refl _,Int.mul_nonneg (by omega) (by omega)⟩
theorem zH {r:List Int} {z:Int} {p:Nat} (h:p<r.length):(r++[z]).getD p 0=r.getD p 0:=by
 rw [List.getD_eq_getElem?_getD,List.getD_eq_getElem?_getD,List.getElem?_append_left h]
theorem getD_snoc_eq {r:List Int} {z:Int}:(r++[z]).getD r.length 0=z:=by
 rw [List.getD_eq_getElem?_getD,List.getElem?_append_right (Nat.le_refl _)]
 simp
theorem Lg.nil (k:Kd) (n:Int):Lg k n []:=⟨fun p h=>absurd h (Nat.not_lt_zero _),fun _ p h=>absurd h (Nat.not_lt_zero _)⟩
theorem Lg.pop {k:Kd} {n:Int} {r:List Int} {z:Int} (h:Lg k n (r++[z])):Lg k n r:=by
 refine ⟨fun p hp=>?_,fun hk p hp=>?_⟩
 ·have:=h.fig p (by rw [List.length_append]; omega)
  rwa [zH hp] at this
 ·have:=h.fal hk p (by rw [List.length_append]; omega)
  rwa [zH hp,zH (by omega)] at this
theorem Lg.trim {k:Kd} {n:Int}:∀ {r:List Int},Lg k n r→Legal k n (trim r):=by
 intro r
 generalize hl:r.length=m
 induction m generalizing r with
 | zero=>
  intro h
  obtain rfl:r=[]:=List.length_eq_zero_iff.mp hl
  exact ⟨h.fig,h.fal,.inl rfl⟩
 | succ m ih=>
  intro h
  rcases zF r with rfl | ⟨l,z,rfl⟩
  ·cases hl
  ·by_cases hz:z=0
   ·subst hz
    rw [xq]
    exact ih (by rw [List.length_append] at hl; exact Nat.succ.inj hl) h.pop
   ·rw [vc hz]
    exact ⟨h.fig,h.fal,.inr (by rw [List.length_append]; exact fun e=>hz (by rw [← e]; exact getD_snoc_eq.symm))⟩
theorem Lg.push {k:Kd} {n z:Int} {r:List Int} (h:Lg k n r) (hz:k.low n r.length≤z∧z≤k.high n r.length) (hf:k.isF=true→z=n→r=[]∨r.getD (r.length - 1) 0=0):Lg k n (r++[z]):=by
 refine ⟨fun p hp=>?_,fun hk p hp e=>?_⟩
 ·rw [List.length_append] at hp
  rcases (by simp at hp; omega:p<r.length∨p=r.length) with q | q
  ·rw [zH q]; exact h.fig p q
  ·subst q; rw [getD_snoc_eq]; exact hz
 ·rw [List.length_append] at hp
  rcases (by simp at hp; omega:p+1<r.length∨p+1=r.length) with q | q
  ·rw [zH q] at e
   rw [zH (by omega)]
   exact h.fal hk p q e
  ·rw [q,getD_snoc_eq] at e
   rw [zH (by omega)]
   rcases hf hk e with z | z
   ·rw [z] at q; cases q
   ·rw [show r.length - 1=p by omega] at z; exact z
theorem yp {r:List Int} {i j:Nat} {z:Int} (h:i≠j):(r.set i z).getD j 0=r.getD j 0:=by
 rw [List.getD_eq_getElem?_getD,List.getD_eq_getElem?_getD,List.getElem?_set_ne h]
theorem yq {r:List Int} {i:Nat} {z:Int} (h:i<r.length):(r.set i z).getD i 0=z:=by
 rw [List.getD_eq_getElem?_getD,List.getElem?_set_self h]
 rfl
theorem Lg.zero {k:Kd} {n:Int} {r:List Int} (hn:k.ok n) (h:Lg k n r):Lg k n (r.set (r.length - 1) 0):=by
 refine ⟨fun p hp=>?_,fun hk p hp e=>?_⟩
 ·rw [List.length_set] at hp
  by_cases q:r.length - 1=p
  ·subst q; rw [yq hp]; exact tK hn _
  ·rw [yp q]; exact h.fig p hp
 ·rw [List.length_set] at hp
  have n1:n≠0:=by have:=hn.1; cases k <;> simp only [Kd.lo] at this <;> omega
  by_cases q:r.length - 1=p+1
  ·rw [← q,yq (by omega)] at e; exact absurd e.symm n1
  ·rw [yp q] at e
   rw [yp (by omega)]
   exact h.fal hk p hp e
theorem wE (k:Kd) (n:Int) (ns:List Int):∀ j,yk k n ns j=wF k n (fun i=>ns.getD i 0) j
 | 0=>rfl
 | j+1=>by unfold yk wF; rw [wE k n ns j]
theorem uS {k:Kd} {n:Int} {f g:Nat→Int}:∀ j,(∀ i,i<j→f i=g i)→wF k n f j=wF k n g j
 | 0,_=>rfl
 | j+1,h=>by
  unfold wF
  rw [uS j fun i hi=>h i (by omega),h j (by omega)]
theorem qi (k:Kd) (n:Int) (j:Nat):(wt k n j).ty k:=by
 by_cases hk:k=.pairs
 ·subst hk; exact wt2 j
 ·obtain ⟨w,e⟩:=wtI (n:=n) hk j
  rw [e]
  exact wG hk
theorem wZ {k:Kd} {t w:Nm} (ht:tot k t) (hw:w.ty k):(t.mul w).ty k:=by
 by_cases hk:k=.pairs
 ·subst hk
  obtain ⟨a,b,rfl⟩:=hw
  cases t <;> exact ⟨_,_,rfl⟩
 ·obtain ⟨a,rfl⟩:=ht hk
  obtain ⟨b,rfl⟩:=yI hk hw
  exact wG hk
theorem yb {k:Kd} {m:Nm} (h:m.ty k):tot k m:=fun hk=>yI hk h
theorem ld (k:Kd) (a:Int):tot k (.i a):=fun _=>⟨a,rfl⟩
theorem m9 (k:Kd) (n:Int) (f:Nat→Int):∀ j,(wF k n f j).ty k
 | 0=>yF k
 | j+1=>wC (m9 k n f j) (yb (wZ (ld k _) (qi k n j)))
theorem m7 {k:Kd} {n:Int} {ts:List Nm} (ht:∀ t∈ts,tot k t):∀ j,(wN k n ts j).ty k
 | 0=>yF k
 | j+1=>wC (m7 ht j) (yb (wZ (xr ht j) (qi k n j)))
theorem pE {k:Kd} {m w:Nm} (hm:m.ty k) (hw:w.ty k):m.add ((Nm.i 0).mul w)=m:=by
 refine vS (wC hm (yb (wZ (ld k 0) hw))) hm ?_ ?_
 ·rw [yg,zM]; show m.re+(0*w.re - 0*w.im)=_; rw [Int.zero_mul,Int.zero_mul]; omega
 ·rw [yz,zQ]; show m.im+(0*w.im+0*w.re)=_; rw [Int.zero_mul,Int.zero_mul]; omega
theorem m8 {k:Kd} {n:Int} {ts:List Nm} (ht:∀ t∈ts,tot k t):∀ i,wN k n ts (ts.length+i)=wN k n ts ts.length
 | 0=>rfl
 | i+1=>by
  have e:ts.getD (ts.length+i) (.i 0)=.i 0:=by rw [List.getD_eq_getElem?_getD,List.getElem?_eq_none (by omega)]; rfl
  show (wN k n ts (ts.length+i)).add ((ts.getD (ts.length+i) (.i 0)).mul (wt k n (ts.length+i)))=_
  rw [e,pE (m7 ht _) (qi k n _)]
  exact m8 ht i
def xA (k:Kd) (n:Int) (ts:List Nm):Nm:=wN k n ts ts.length
def zt (k:Kd) (n:Int) (r:List Int):Nm:=yk k n r r.length
theorem Fin.worth {k:Kd} {n:Int} {ts:List Nm} {J:Nat} (F:Fin k n ts J) (h5:k.five=true) (hn:k.ok n) (ht:∀ t∈ts,tot k t):zt k n (xP k n ts J)=xA k n ts:=by
 unfold zt xA
 rw [ww,wE,uS (g:=fAt k n ts) J (fun i hi=>q8 hi)]
 have e:wN k n ts J=wN k n ts ts.length:=by
  rw [show J=ts.length+(J - ts.length) by have:=F.le; omega]
  exact m8 ht _
 obtain ⟨t1,t2⟩:=dL h5 hn ht J
 rw [F.z,zM,zT,z3] at t1
 rw [F.z,zQ,zT,z3] at t2
 rw [← e]
 refine vS (m9 k n _ J) (m7 ht J) ?_ ?_
 ·rw [t1,Int.mul_zero,Int.mul_zero]; omega
 ·rw [t2,Int.mul_zero,Int.mul_zero]; omega
theorem rh {k:Kd} {n:Int} {l:List Int} {z:Int} {j:Nat} (h:j≤l.length):yk k n (l++[z]) j=yk k n l j:=by
 rw [wE,wE]
 exact uS j fun i hi=>zH (by omega)
theorem x8 (k:Kd) (n:Int) (l:List Int) (z:Int):zt k n (l++[z])=(zt k n l).add ((Nm.i z).mul (wt k n l.length)):=by
 unfold zt
 rw [List.length_append]
 show (yk k n (l++[z]) l.length).add ((Nm.i ((l++[z]).getD l.length 0)).mul (wt k n l.length))=_
 rw [rh (Nat.le_refl _),getD_snoc_eq]
theorem zJ (k:Kd) (n:Int) (r:List Int):(zt k n r).ty k:=by
 unfold zt
 rw [wE]
 exact m9 k n _ _
theorem ql (k:Kd) (n:Int) (r:List Int):zt k n (trim r)=zt k n r:=by
 generalize hl:r.length=m
 induction m generalizing r with
 | zero=>
  obtain rfl:r=[]:=List.length_eq_zero_iff.mp hl
  rfl
 | succ m ih=>
  rcases zF r with rfl | ⟨l,z,rfl⟩
  ·cases hl
  ·by_cases hz:z=0
   ·subst hz
    rw [xq,ih l (by rw [List.length_append] at hl; exact Nat.succ.inj hl),x8,pE (zJ k n l) (qi k n _)]
   ·rw [vc hz]
theorem tO {k:Kd} (h5:k.five=true):k.isF=false:=by cases k <;> first | rfl | cases h5
theorem fN {k:Kd} {n:Int} {ts:List Nm} (h5:k.five=true) (hn:k.ok n) (ht:∀ t∈ts,tot k t) (J:Nat):Lg k n (xP k n ts J):=by
 refine ⟨fun p hp=>?_,fun hF=>?_⟩
 ·rw [ww] at hp
  rw [q8 hp]
  obtain ⟨a,b,_⟩:=vd (j:=p) h5 hn (wC (y8 k n ts p) (xr ht p))
  exact ⟨a,b⟩
 ·rw [tO h5] at hF
  cases hF
def mf (k:Kd) (n:Int) (ts:List Nm) (J:Nat):List Int:=trim (xP k n ts J)
theorem uX {k:Kd} {n:Int} {ts:List Nm} {J:Nat} (h5:k.five=true) (hn:k.ok n) (ht:∀ t∈ts,tot k t):Legal k n (mf k n ts J):=(fN h5 hn ht J).trim
theorem uW {k:Kd} {n:Int} {ts:List Nm} {J:Nat} (F:Fin k n ts J) (h5:k.five=true) (hn:k.ok n) (ht:∀ t∈ts,tot k t):zt k n (mf k n ts J)=xA k n ts:=by
 unfold mf
 rw [ql,F.worth h5 hn ht]
theorem pK {k:Kd} {n:Int} {m:Nm} (hm:m.ty k) (h5:k.five=true):xA k n [m]=m:=by
 show (k.zero.add (m.mul (wt k n 0)))=m
 have e:wt k n 0=k.zero.add (.i 1):=by cases k <;> first | rfl | cases h5
 have r1:(wt k n 0).re=1:=by rw [e,yg,zT]; rfl
 have r2:(wt k n 0).im=0:=by rw [e,yz,z3]; rfl
 refine vS (wC (yF k) (yb (wZ (yb hm) (qi k n 0)))) hm ?_ ?_
 ·rw [yg,zM,zT,r1,r2,Int.mul_one,Int.mul_zero]; omega
 ·rw [yz,zQ,z3,r1,r2,Int.mul_one,Int.mul_zero]; omega
theorem oF {k:Kd} {m:Nm} (h:xa k m=true):m.ty k:=by
 cases k <;> cases m <;> first | exact ⟨_,rfl⟩ | exact ⟨_,_,rfl⟩ | cases h
theorem lv {k:Kd} {n:Int} {m:Nm} {b:Nat} (h5:k.five=true) (hn:k.ok n) (hm:xa k m=true) (hb:m.re.natAbs≤2 ^ b∧m.im.natAbs≤2 ^ b) (b7:7≤b):∃ J,Fin k n [m] J∧J≤4*b+31∧(k≠.pairs→J≤b+4):=by
 have ht:∀ t∈[m],tot k t:=fun t h=>by rw [List.mem_singleton.mp h]; exact yb (oF hm)
 have e1:cAt k n [m] 1=sC k n 0 m:=by
  show sC k n 0 (k.zero.add m)=_
  rw [YS (oF hm)]
 obtain ⟨J,F,hJ⟩:=nc (b:=b) h5 hn ht (fun t h=>by rw [List.mem_singleton.mp h]; exact hb) b7 (by
  show xa k (cAt k n [m] 1)=true
  rw [e1]
  by_cases hk:k=.pairs
  ·subst hk
   obtain ⟨x,y,e⟩:=lw .pairs n 0 m
   rw [e]; rfl
  ·have h4:=vj h5 hk
   obtain ⟨t,rfl⟩:=yI hk (oF hm)
   obtain ⟨a,ea⟩:=sC4 (n:=n) (j:=0) (t:=.i t) h4
   rw [ea]
   exact (sM h4 hn ea).2.1 hm)
 exact ⟨J,F,by have:=hJ.1; simp at this; omega,fun z=>by have:=hJ.2 z; simp at this; omega⟩
def uc (k:Kd):DSp:=fun ds Q=>∃ o d m,ds=[o,d]∧tI d=some m∧Q (.bl (xa k m))
def isP:Nm→Bool
 | .p _ _=>true
 | _=>false
def rc:DSp:=fun ds Q=>∃ d m,ds=[d]∧tI d=some m∧Q (.bl (isP m))
def oY:DSp:=fun ds Q=>∃ r,ds=[zB r]∧Q (zB (trim r))
def tX:DSp:=fun ds Q=>∃ xs p,ds=[.lst xs,.int p]∧0≤p∧Q (xs.getD p.toNat (.int 0))
def qt (ts:List Nm):Dt:=.lst (ts.map Nm.dt)
def pC (k:Kd) (n:Int) (ts:List Nm) (j:Nat):List Dt:=(crs k n ts j).map Nm.dt
theorem fL (ts:List Nm) (j:Nat):(ts.map Nm.dt).getD j (.int 0)=(ts.getD j (.i 0)).dt:=by
 rw [List.getD_eq_getElem?_getD,List.getD_eq_getElem?_getD,List.getElem?_map]
 cases ts[j]? <;> rfl
theorem Yp {k:Kd} {m m':Nm} (h:m.ty k) (h':m'.ty k):eqD m.dt m'.dt=true↔m=m':=by
 by_cases hk:k=.pairs
 ·subst hk
  obtain ⟨a,b,rfl⟩:=h
  obtain ⟨c,d,rfl⟩:=h'
  show eqD (.tup [.int a,.int b]) (.tup [.int c,.int d])=true↔_
  rw [vn,xx,xx,vm,yS,yS,Bool.and_eq_true,Bool.and_eq_true,beq_iff_eq,beq_iff_eq]
  constructor
  ·rintro ⟨rfl,rfl,_⟩; rfl
  ·intro e; cases e; exact ⟨rfl,rfl,rfl⟩
 ·obtain ⟨a,rfl⟩:=yI hk h
  obtain ⟨c,rfl⟩:=yI hk h'
  show eqD (.int a) (.int c)=true↔_
  rw [yS,beq_iff_eq]
  constructor
  ·rintro rfl; rfl
  ·intro e; cases e; rfl
def wf (n:Int) (j:Nat):Int:=(wtF n j).2
theorem qo (n:Int):wf n 0=1:=rfl
theorem pM (n:Int):wf n 1=n+1:=by show n*1+1=_; rw [Int.mul_one]
theorem tY (n:Int) (j:Nat):wf n (j+2)=n*wf n (j+1)+wf n j:=rfl
theorem z5 {n:Int} (h:1≤n):∀ j,1≤wf n j∧wf n j≤wf n (j+1)
 | 0=>by rw [qo,pM]; omega
 | j+1=>by
  obtain ⟨a,b⟩:=z5 h j
  have:wf n (j+1)≤n*wf n (j+1):=by
   have:=Int.mul_le_mul_of_nonneg_right h (show 0≤wf n (j+1) by omega)
   omega
  rw [tY]
  omega
def Vt (k:Kd) (n:Int):Nat→List Int→Nm
 | _,[]=>k.zero
 | j,f::r=>(Nm.i f).add ((k.ratN n j).mul (Vt k n (j+1) r))
theorem lA {k:Kd} {n:Int} {j:Nat} (h5:k.five=true):(k.ratN n j).ty k:=by
 cases k <;> first | exact ⟨_,rfl⟩ | exact ⟨_,_,rfl⟩ | cases h5
theorem qU {k:Kd} {f:Int} {m:Nm} (h:m.ty k):((Nm.i f).add m).ty k:=by
 by_cases hk:k=.pairs
 ·subst hk
  obtain ⟨a,b,rfl⟩:=h
  exact ⟨_,_,rfl⟩
 ·obtain ⟨a,rfl⟩:=yI hk h
  exact wG hk
theorem pF {k:Kd} {n:Int} (h5:k.five=true):∀ (r:List Int) (j:Nat),(Vt k n j r).ty k
 | [],_=>yF k
 | _::r,j=>qU (wZ (yb (lA h5)) (pF h5 r (j+1)))
theorem jM {P1 P2 w1 w2 f r1 r2 v1 v2:Int}:P1+(f*w1 - 0*w2)+((r1*w1 - r2*w2)*v1 - (r1*w2+r2*w1)*v2)=P1+(w1*(f+(r1*v1 - r2*v2)) - w2*(0+(r1*v2+r2*v1)))∧P2+(f*w2+0*w1)+((r1*w1 - r2*w2)*v2+(r1*w2+r2*w1)*v1)=P2+(w1*(0+(r1*v2+r2*v1))+w2*(f+(r1*v1 - r2*v2))):=by
 constructor <;> grind
theorem qj {k:Kd} {n:Int} (h5:k.five=true):∀ (r pre:List Int),
  (zt k n (pre++r)).re=(zt k n pre).re+((wt k n pre.length).mul (Vt k n pre.length r)).re∧(zt k n (pre++r)).im=(zt k n pre).im+((wt k n pre.length).mul (Vt k n pre.length r)).im
 | [],pre=>by
  rw [List.append_nil]
  unfold Vt
  rw [zM,zQ,zT,z3,Int.mul_zero,Int.mul_zero]
  exact ⟨by omega,by omega⟩
 | f::r,pre=>by
  obtain ⟨i1,i2⟩:=qj h5 r (pre++[f])
  have e:pre++f::r=(pre++[f])++r:=by rw [List.append_assoc]; rfl
  have el:(pre++[f]).length=pre.length+1:=by rw [List.length_append]; rfl
  have ev:Vt k n pre.length (f::r)=(Nm.i f).add ((k.ratN n pre.length).mul (Vt k n (pre.length+1) r)):=rfl
  rw [e,i1,i2,el,x8,yi h5,ev]
  simp only [zM,zQ,yg,yz]
  have fr:(Nm.i f).re=f:=rfl
  have fi:(Nm.i f).im=0:=rfl
  rw [fr,fi]
  exact jM
theorem qk {k:Kd} {n:Int} (h5:k.five=true) (r:List Int):zt k n r=Vt k n 0 r:=by
 obtain ⟨a,b⟩:=qj (n:=n) h5 r []
 have e:wt k n 0=k.zero.add (.i 1):=by cases k <;> first | rfl | cases h5
 have r1:(wt k n 0).re=1:=by rw [e,yg,zT]; rfl
 have r2:(wt k n 0).im=0:=by rw [e,yz,z3]; rfl
 have z1:(zt k n []).re=0:=zT k
 have z2:(zt k n []).im=0:=z3 k
 simp only [List.length_nil,List.nil_append] at a b
 rw [zM,r1,r2,z1] at a
 rw [zQ,r1,r2,z2] at b
 refine vS (zJ k n r) (pF h5 r 0) ?_ ?_
 ·rw [a]; omega
 ·rw [b]; omega
theorem sN {lo n r t f c:Int} (hr:r=n∨r=-n) (h1:lo≤f) (h2:f≤lo+n - 1) (h3:lo≤t) (h4:t≤lo+n - 1) (e:f+c*r=t):c=0∧f=t:=by
 have hc:c=0:=by
  rcases (by omega:c=0∨1≤c∨c≤-1) with h | h | h
  ·exact h
  ·rcases hr with rfl | rfl
   ·have:=Int.mul_le_mul_of_nonneg_right h (show 0≤r by omega)
    omega
   ·have:=Int.mul_le_mul_of_nonneg_right h (show 0≤n by omega)
    rw [Int.mul_neg] at e
    omega
  ·rcases hr with rfl | rfl
   ·have:=Int.mul_le_mul_of_nonneg_right h (show 0≤r by omega)
    omega
   ·have:=Int.mul_le_mul_of_nonneg_right h (show 0≤n by omega)
    rw [Int.mul_neg] at e
    omega
 subst hc
 omega
theorem sP {k:Kd} {n f g:Int} {j:Nat} {c d:Nm} (h5:k.five=true) (hn:k.ok n) (f1:k.low n j≤f) (f2:f≤k.high n j) (g1:k.low n j≤g) (g2:g≤k.high n j) (tc:c.ty k) (td:d.ty k)
  (e:(Nm.i f).add ((k.ratN n j).mul c)=(Nm.i g).add ((k.ratN n j).mul d)):f=g∧c=d:=by
 have e1:=congrArg Nm.re e
 have e2:=congrArg Nm.im e
 rw [yg,yg,zM,zM] at e1
 rw [yz,yz,zQ,zQ] at e2
 by_cases hk:k=.pairs
 ·subst hk
  obtain ⟨a,b,rfl⟩:=tc
  obtain ⟨x,y,rfl⟩:=td
  simp only [Kd.ratN,Nm.re,Nm.im,Kd.low,Kd.high] at *
  have q1:f - n*(a - x) - (b - y)=g:=by rw [Int.mul_sub]; simp only [Int.neg_mul,Int.one_mul] at e1; omega
  have q2:(a - x) - n*(b - y)=0:=by rw [Int.mul_sub]; simp only [Int.neg_mul,Int.one_mul] at e2; omega
  generalize hu:a - x=u at *
  generalize hv:b - y=v at *
  have eu:u=n*v:=by omega
  rw [eu] at q1
  have e3:f+(-v)*(n*n+1)=g:=by
   have r1:n*(n*v)=v*(n*n):=by grind
   have r2:(-v)*(n*n+1)=-(v*(n*n)) - v:=by grind
   omega
  obtain ⟨h1,h2⟩:=sN (lo:=0) (n:=n*n+1) (.inl rfl) f1 (by omega) g1 (by omega) e3
  have v0:v=0:=by omega
  rw [v0,Int.mul_zero] at eu
  exact ⟨h2,by rw [show a=x by omega,show b=y by omega]⟩
 ·have h4:=vj h5 hk
  obtain ⟨a,rfl⟩:=yI hk tc
  obtain ⟨x,rfl⟩:=yI hk td
  have eR:k.ratN n j=.i (k.rat n j):=by cases k <;> first | rfl | exact absurd rfl hk
  rw [eR] at e1
  obtain ⟨z1,z2⟩:=rm h4 n j
  have q:f+(a - x)*k.rat n j=g:=by
   have e1':f+(k.rat n j*a - 0*0)=g+(k.rat n j*x - 0*0):=e1
   rw [Int.sub_mul,Int.mul_comm a,Int.mul_comm x]
   omega
  obtain ⟨h1,h2⟩:=sN (lo:=k.low n j) (n:=k.size n j) z2 f1 (by omega) g1 (by omega) q
  exact ⟨h2,by rw [show a=x by omega]⟩
def Figs (k:Kd) (n:Int) (j:Nat) (r:List Int):Prop:=∀ p,p<r.length→k.low n ((j+p:Nat):Int)≤r.getD p 0∧r.getD p 0≤k.high n ((j+p:Nat):Int)
theorem Figs.cons {k:Kd} {n f:Int} {j:Nat} {r:List Int} (h:Figs k n j (f::r)):(k.low n j≤f∧f≤k.high n j)∧Figs k n (j+1) r:=by
 refine ⟨h 0 (by simp),fun p hp=>?_⟩
 have:=h (p+1) (by simp; exact hp)
 rw [show j+(p+1)=j+1+p by omega] at this
 exact this
theorem YM {k:Kd} {n:Int} (h5:k.five=true) (hn:k.ok n):∀ (r s:List Int) (j:Nat),Figs k n j r→Figs k n j s→Vt k n j r=Vt k n j s→∀ p,r.getD p 0=s.getD p 0:=by
 have zz:∀ j:Nat,k.zero=(Nm.i 0).add ((k.ratN n j).mul k.zero):=fun j=>by
  refine vS (yF k) (qU (wZ (yb (lA h5)) (yF k))) ?_ ?_
  ·rw [yg,zM,zT,z3,Int.mul_zero,Int.mul_zero]; rfl
  ·rw [yz,zQ,zT,z3,Int.mul_zero,Int.mul_zero]; rfl
 have nilc:∀ (s:List Int) (j:Nat),Figs k n j s→k.zero=Vt k n j s→∀ p,(0:Int)=s.getD p 0:=by
  intro s
  induction s with
  | nil=>intro j _ _ p; rfl
  | cons g s ih=>
   intro j hs e p
   obtain ⟨⟨g1,g2⟩,hs'⟩:=hs.cons
   obtain ⟨l1,l2⟩:=tK hn j
   rw [zz j] at e
   obtain ⟨q1,q2⟩:=sP h5 hn l1 l2 g1 g2 (yF k) (pF h5 s (j+1)) e
   cases p with
   | zero=>exact q1
   | succ p=>exact ih (j+1) hs' q2 p
 intro r
 induction r with
 | nil=>intro s j _ hs e p; exact nilc s j hs e p
 | cons f r ih=>
  intro s j hr hs e p
  cases s with
  | nil=>exact (nilc (f::r) j hr e.symm p).symm
  | cons g s=>
   obtain ⟨⟨f1,f2⟩,hr'⟩:=hr.cons
   obtain ⟨⟨g1,g2⟩,hs'⟩:=hs.cons
   obtain ⟨q1,q2⟩:=sP h5 hn f1 f2 g1 g2 (pF h5 r (j+1)) (pF h5 s (j+1)) e
   cases p with
   | zero=>exact q1
   | succ p=>exact ih s (j+1) hr' hs' q2 p
theorem qY {r:List Int} {p:Nat} (h:r.length≤p):r.getD p 0=0:=by rw [List.getD_eq_getElem?_getD,List.getElem?_eq_none h]; rfl
theorem jS {r s:List Int} (h:∀ p,r.getD p 0=s.getD p 0) (hr:r=[]∨r.getD (r.length - 1) 0≠0) (hs:s=[]∨s.getD (s.length - 1) 0≠0):r=s:=by
 have hl:r.length=s.length:=by
  rcases (by omega:r.length=s.length∨r.length<s.length∨s.length<r.length) with z | z | z
  ·exact z
  ·rcases hs with hs | hs
   ·rw [hs] at z; simp at z
   ·exact absurd (by rw [← h]; exact qY (by omega)) hs
  ·rcases hr with hr | hr
   ·rw [hr] at z; simp at z
   ·exact absurd (by rw [h]; exact qY (by omega)) hr
 apply List.ext_getElem hl
 intro i h1 h2
 have:=h i
 rw [List.getD_eq_getElem?_getD,List.getD_eq_getElem?_getD,List.getElem?_eq_getElem h1,List.getElem?_eq_getElem h2] at this
 exact this
theorem yo (n:Int) (l:List Int) (z:Int):(zt .falling n (l++[z])).re=(zt .falling n l).re+z*wf n l.length:=by
 rw [x8,yg]
 rfl
theorem Lg.nonneg {n:Int} {r:List Int} (h:Lg .falling n r) (h1:1≤n):0≤(zt .falling n r).re:=by
 generalize hl:r.length=m
 induction m generalizing r with
 | zero=>obtain rfl:r=[]:=List.length_eq_zero_iff.mp hl; exact Int.le_refl 0
 | succ m ih=>
  rcases zF r with rfl | ⟨l,z,rfl⟩
  ·cases hl
  ·have hz:=h.fig l.length (by rw [List.length_append]; simp)
   rw [getD_snoc_eq] at hz
   have hz0:0≤z:=hz.1
   have:=ih h.pop (by rw [List.length_append] at hl; exact Nat.succ.inj hl)
   rw [yo]
   have:=Int.mul_nonneg hz0 (show 0≤wf n l.length by have:=(z5 h1 l.length).1; omega)
   omega
theorem Lg.lt {n:Int} (h1:1≤n):∀ (m:Nat) (r:List Int),r.length=m→Lg .falling n r→(zt .falling n r).re<wf n m:=by
 intro m
 induction m using Nat.strongRecOn with
 | ind m ih=>
  intro r hl h
  rcases zF r with rfl | ⟨l,z,rfl⟩
  ·subst hl; show (0:Int)<wf n 0; rw [qo]; decide
  ·have el:l.length+1=m:=by rw [List.length_append] at hl; exact hl
   have hz:=h.fig l.length (by rw [List.length_append]; simp)
   rw [getD_snoc_eq] at hz
   have hz0:0≤z:=hz.1
   have hz1:z≤n:=hz.2
   have il:=ih l.length (by omega) l rfl h.pop
   have wp:=(z5 h1 l.length).1
   rw [yo,← el]
   rcases (by omega:z≤n - 1∨z=n) with c | c
   ·have k1:=Int.mul_le_mul_of_nonneg_right c (show 0≤wf n l.length by omega)
    have k2:(n - 1)*wf n l.length=n*wf n l.length - wf n l.length:=by rw [Int.sub_mul,Int.one_mul]
    have k3:n*wf n l.length<wf n (l.length+1):=by
     cases l.length with
     | zero=>rw [pM,qo]; omega
     | succ q=>rw [tY]; have:=(z5 h1 q).1; omega
    omega
   ·subst c
    rcases zF l with rfl | ⟨l',y,rfl⟩
    ·show (0:Int)+z*wf z 0<wf z 1
     rw [qo,pM]; omega
    ·have hy:=h.fal rfl l'.length (by rw [List.length_append,List.length_append]; simp) (by
      have:=getD_snoc_eq (r:=l'++[y]) (z:=z)
      rw [List.length_append] at this
      exact this)
     rw [zH (by rw [List.length_append]; simp),getD_snoc_eq] at hy
     subst hy
     have i2:=ih l'.length (by rw [List.length_append] at el; simp at el; omega) l' rfl h.pop.pop
     rw [yo,Int.zero_mul,Int.add_zero,List.length_append]
     show _+z*wf z (l'.length+1)<wf z (l'.length+2)
     rw [tY]
     omega
theorem sL {n:Int} (h1:1≤n):∀ (m:Nat) (r s:List Int),r.length=m→s.length=m→Lg .falling n r→Lg .falling n s→(zt .falling n r).re=(zt .falling n s).re→r=s
 | 0,r,s,hr,hs,_,_,_=>by rw [List.length_eq_zero_iff.mp hr,List.length_eq_zero_iff.mp hs]
 | m+1,r,s,hr,hs,Lr,Ls,e=>by
  rcases zF r with rfl | ⟨l,z,rfl⟩
  ·cases hr
  rcases zF s with rfl | ⟨l',z',rfl⟩
  ·cases hs
  have e1:l.length=m:=by rw [List.length_append] at hr; exact Nat.succ.inj hr
  have e2:l'.length=m:=by rw [List.length_append] at hs; exact Nat.succ.inj hs
  rw [yo,yo,e1,e2] at e
  have a1:=Lr.pop.nonneg h1
  have a2:=Lr.pop.lt h1 m l e1
  have b1:=Ls.pop.nonneg h1
  have b2:=Ls.pop.lt h1 m l' e2
  have wp:=(z5 h1 m).1
  have hz:z=z':=by
   rcases (by omega:z=z'∨z+1≤z'∨z'+1≤z) with c | c | c
   ·exact c
   ·have:=Int.mul_le_mul_of_nonneg_right c (show 0≤wf n m by omega)
    rw [Int.add_mul,Int.one_mul] at this
    omega
   ·have:=Int.mul_le_mul_of_nonneg_right c (show 0≤wf n m by omega)
    rw [Int.add_mul,Int.one_mul] at this
    omega
  subst hz
  rw [sL h1 m l l' e1 e2 Lr.pop Ls.pop (by omega)]
theorem Legal.lg {k:Kd} {n:Int} {r:List Int} (h:Legal k n r):Lg k n r:=⟨h.fig,h.fal⟩
theorem Legal.geF {n:Int} {r:List Int} (h:Legal .falling n r) (h1:1≤n) (hr:r≠[]):wf n (r.length - 1)≤(zt .falling n r).re:=by
 rcases zF r with rfl | ⟨l,z,rfl⟩
 ·exact absurd rfl hr
 ·have hz:=h.fig l.length (by rw [List.length_append]; simp)
  rw [getD_snoc_eq] at hz
  have hz0:0≤z:=hz.1
  have el:(l++[z]).length - 1=l.length:=by rw [List.length_append]; rfl
  rcases h.end_ with c | c
  ·exact absurd c hr
  ·rw [el,getD_snoc_eq] at c
   rw [yo,el]
   have a1:=h.lg.pop.nonneg h1
   have wp:=(z5 h1 l.length).1
   have:=Int.mul_le_mul_of_nonneg_right (show 1≤z by omega) (show 0≤wf n l.length by omega)
   omega
theorem o6 {n:Int} (h1:1≤n) {i j:Nat} (h:i≤j):wf n i≤wf n j:=by
 induction h with
 | refl=>exact Int.le_refl _
 | step _ ih=>exact Int.le_trans ih (z5 h1 _).2
theorem YV {k:Kd} {n:Int} {r s:List Int} (hn:k.ok n) (hr:Legal k n r) (hs:Legal k n s) (e:zt k n r=zt k n s):r=s:=by
 by_cases hk:k=.falling
 ·subst hk
  have h1:1≤n:=hn.1
  have e':=congrArg Nm.re e
  rcases (by omega:r.length=s.length∨r.length<s.length∨s.length<r.length) with z | z | z
  ·exact sL h1 _ r s z rfl hr.lg hs.lg e'
  ·have a:=hr.lg.lt h1 _ r rfl
   have b:=hs.geF h1 (by intro q; rw [q] at z; simp at z)
   have:=o6 h1 (show r.length≤s.length - 1 by omega)
   omega
  ·have a:=hs.lg.lt h1 _ s rfl
   have b:=hr.geF h1 (by intro q; rw [q] at z; simp at z)
   have:=o6 h1 (show s.length≤r.length - 1 by omega)
   omega
 ·have h5:k.five=true:=by cases k <;> first | rfl | exact absurd rfl hk
  rw [qk h5,qk h5] at e
  exact jS (YM h5 hn r s 0 (fun p hp=>by rw [Nat.zero_add]; exact hr.fig p hp) (fun p hp=>by rw [Nat.zero_add]; exact hs.fig p hp) e) hr.end_ hs.end_
theorem mZ {k:Kd} {n:Int} (hn:k.ok n) {j:Nat}:(k=.below∨k=.balanced∨k=.pairs)∨∃ x,wt k n j=.i x∧1≤x:=by
 obtain ⟨b1,b2⟩:=xw hn
 cases k with
 | below=>exact .inl (.inl rfl)
 | balanced=>exact .inl (.inr (.inl rfl))
 | pairs=>exact .inl (.inr (.inr rfl))
 | falling=>exact .inr ⟨_,rfl,(z5 b1 j).1⟩
 | plain=>
  refine .inr ?_
  induction j with
  | zero=>exact ⟨_,rfl,by decide⟩
  | succ j ih=>
   obtain ⟨x,e,h⟩:=ih
   rw [yi rfl,e]
   exact ⟨_,rfl,by show 1≤n*x; have:=Int.mul_le_mul b1 h (by decide) (by omega); omega⟩
 | growing=>
  refine .inr ?_
  induction j with
  | zero=>exact ⟨_,rfl,by decide⟩
  | succ j ih=>
   obtain ⟨x,e,h⟩:=ih
   rw [yi rfl,e]
   exact ⟨_,rfl,by show 1≤(n+(j:Int))*x; have:=Int.mul_le_mul (show 1≤n+(j:Int) by omega) h (by decide) (by omega); omega⟩
def tm (k:Kd):Prop:=k=.plain∨k=.growing
theorem rg {k:Kd} {n:Int} (hk:tm k) (hn:k.ok n) (j:Nat):∃ w,wt k n j=.i w∧1≤w∧wt k n (j+1)=.i (k.rat n j*w)∧k.high n j=k.rat n j - 1∧k.low n j=0:=by
 rcases hk with rfl | rfl
 ·rcases mZ hn (j:=j) with (h | h | h) | ⟨w,e,h⟩
  ·cases h
  ·cases h
  ·cases h
  ·exact ⟨w,e,h,by rw [yi rfl,e]; rfl,rfl,rfl⟩
 ·rcases mZ hn (j:=j) with (h | h | h) | ⟨w,e,h⟩
  ·cases h
  ·cases h
  ·cases h
  ·exact ⟨w,e,h,by rw [yi rfl,e]; rfl,rfl,rfl⟩
theorem rD {k:Kd} (hk:tm k):k≠.pairs:=by rcases hk with rfl | rfl <;> (intro z; cases z)
theorem d8 {k:Kd} (hk:tm k):k.five=true:=by rcases hk with rfl | rfl <;> rfl
theorem rY {k:Kd} {n:Int} {f:Nat→Int} (hk:tm k) (hn:k.ok n):∀ j:Nat,(∀ i:Nat,i<j→k.low n i≤f i∧f i≤k.high n i)→0≤(wF k n f j).re∧(wF k n f j).re<(wt k n j).re
 | 0,_=>by
  obtain ⟨w,e,h,_⟩:=rg hk hn 0
  rw [e]
  show 0≤(k.zero).re∧(k.zero).re<w
  rw [zT]
  omega
 | j+1,h=>by
  obtain ⟨a,b⟩:=rY hk hn j fun i hi=>h i (by omega)
  obtain ⟨w,e,hw,e2,h1,h2⟩:=rg hk hn j
  obtain ⟨f1,f2⟩:=h j (by omega)
  rw [e2]
  have ew:(wF k n f (j+1)).re=(wF k n f j).re+f j*w:=by
   show ((wF k n f j).add ((Nm.i (f j)).mul (wt k n j))).re=_
   rw [yg,e]
   rfl
  rw [ew]
  rw [e] at b
  have b':(wF k n f j).re<w:=b
  rw [h2] at f1
  rw [h1] at f2
  have m1:=Int.mul_nonneg f1 (show 0≤w by omega)
  have m2:=Int.mul_le_mul_of_nonneg_right f2 (show 0≤w by omega)
  rw [Int.sub_mul,Int.one_mul] at m2
  show 0≤_∧_<k.rat n j*w
  omega
theorem oX {k:Kd} {n:Int} {ts:List Nm} (hk:tm k) (hn:k.ok n) (ht:∀ t∈ts,tot k t) (j:Nat):0≤(wN k n ts j).re↔xa k (cAt k n ts j)=true:=by
 have h5:=d8 hk
 obtain ⟨t1,_⟩:=dL h5 hn ht j
 obtain ⟨c,ec⟩:=yI (rD hk) (y8 k n ts j)
 obtain ⟨w,e,hw,_⟩:=rg hk hn j
 obtain ⟨a,b⟩:=rY (f:=fAt k n ts) hk hn j fun i _=>by
  obtain ⟨s1,s2,_⟩:=vd (j:=i) h5 hn (wC (y8 k n ts i) (xr ht i))
  exact ⟨s1,s2⟩
 rw [e] at b
 have b':(wF k n (fAt k n ts) j).re<w:=b
 rw [ec,e,zM] at t1
 have t1':(wN k n ts j).re=(wF k n (fAt k n ts) j).re+(w*c - 0*0):=t1
 rw [ec]
 have hh:xa k (.i c)=decide (0≤c):=by rcases hk with rfl | rfl <;> rfl
 rw [hh,decide_eq_true_iff,t1']
 constructor
 ·intro h
  rcases Int.lt_or_le c 0 with z | z
  ·have:=Int.mul_le_mul_of_nonneg_left (show c≤-1 by omega) (show 0≤w by omega)
   omega
  ·exact z
 ·intro h
  have:=Int.mul_nonneg (show 0≤w by omega) h
  omega
theorem qN {k:Kd} {m:Nm} (h5:k.five=true) (hk:¬ tm k) (hm:m.ty k):xa k m=true:=by
 cases k with
 | plain=>exact absurd (.inl rfl) hk
 | growing=>exact absurd (.inr rfl) hk
 | falling=>cases h5
 | below=>obtain ⟨a,rfl⟩:=hm; rfl
 | balanced=>obtain ⟨a,rfl⟩:=hm; rfl
 | pairs=>obtain ⟨a,b,rfl⟩:=hm; rfl
theorem lu {k:Kd} {n:Int} {ts:List Nm} {b:Nat} (h5:k.five=true) (hn:k.ok n) (ht:∀ t∈ts,tot k t) (hb:∀ t∈ts,t.re.natAbs≤2 ^ b∧t.im.natAbs≤2 ^ b) (b7:7≤b) (hw:tm k→0≤(xA k n ts).re):
  ∃ J,Fin k n ts J∧J≤ts.length+4*b+30:=by
 suffices z:xa k (cAt k n ts ts.length)=true by
  obtain ⟨J,F,hJ,_⟩:=nc h5 hn ht hb b7 z
  exact ⟨J,F,hJ⟩
 by_cases hk:tm k
 ·exact (oX hk hn ht _).mp (hw hk)
 ·exact qN h5 hk (y8 k n ts _)
theorem lf (r:List Int):(r.map Nm.i).map Nm.dt=r.map Dt.int:=by rw [List.map_map]; rfl
theorem lc {k:Kd} {r:List Int}:∀ t∈r.map Nm.i,tot k t:=fun t h=>by
 obtain ⟨z,_,e⟩:=List.mem_map.mp h
 rw [← e]
 exact ld k z
theorem o8 (k:Kd) (n:Int) (r:List Int):∀ j,wN k n (r.map Nm.i) j=yk k n r j
 | 0=>rfl
 | j+1=>by
  have e:(r.map Nm.i).getD j (.i 0)=.i (r.getD j 0):=by
   rw [List.getD_eq_getElem?_getD,List.getD_eq_getElem?_getD,List.getElem?_map]
   cases r[j]? <;> rfl
  unfold wN yk
  rw [o8 k n r j,e]
theorem x9 (k:Kd) (n:Int) (r:List Int):xA k n (r.map Nm.i)=zt k n r:=by
 unfold xA zt
 rw [List.length_map,o8]
theorem sQ {k:Kd} {n:Int} {r:List Int} (hn:k.ok n) (h:Legal k n r):xa k (zt k n r)=true:=by
 by_cases hf:k=.falling
 ·subst hf
  have:=h.lg.nonneg hn.1
  obtain ⟨a,e⟩:=zJ .falling n r
  rw [e] at this ⊢
  exact decide_eq_true this
 ·have h5:k.five=true:=by cases k <;> first | rfl | exact absurd rfl hf
  by_cases hk:tm k
  ·have a:=(rY (f:=fun i=>r.getD i 0) hk hn r.length fun i hi=>h.fig i hi).1
   obtain ⟨x,e⟩:=yI (rD hk) (zJ k n r)
   have:zt k n r=wF k n (fun i=>r.getD i 0) r.length:=wE k n r _
   rw [← this,e] at a
   rw [e]
   have a':0≤x:=a
   rcases hk with rfl | rfl <;> exact decide_eq_true a'
  ·exact qN h5 hk (zJ k n r)
theorem sV {k:Kd} {n:Int} {r:List Int} (hn:k.ok n) (h:Legal k n r) (hl:r.length≤2000):∀ t∈r,t.natAbs≤4000:=by
 intro t ht
 obtain ⟨i,hi,e⟩:=List.getElem_of_mem ht
 have f:=h.fig i hi
 have eg:r.getD i 0=t:=by rw [List.getD_eq_getElem?_getD,List.getElem?_eq_getElem hi,e]; rfl
 rw [eg] at f
 obtain ⟨b1,b2⟩:=xw hn
 have sq:n*n≤3600:=by have:=Int.mul_le_mul b2 b2 (by omega) (by omega); omega
 cases k <;> simp only [Kd.low,Kd.high] at f <;> omega
theorem oM {k:Kd} {n:Int} {r:List Int} (hn:k.ok n) (h:Legal k n r) (hl:r.length≤2000):bdR r:=fun t ht=>
 Nat.lt_of_le_of_lt (sV hn h hl t ht) (Nat.lt_of_lt_of_le (by decide:4000<2 ^ 12) (Nat.pow_le_pow_right (by decide) (by decide)))
abbrev Stp:=Bool × Nat
def hf (h:List Int) (p:Nat):Int:=h.getD p 0
def pt (a:Nat) (c:Int) (i:Nat):Int:=if i=a then c else 0
def chg (n:Int):Stp→List (Nat × Int)
 | (true,p)=>[(p+1,1),(p,-n),(p - 1,-1)]
 | (false,0)=>[(1,1),(0,-n - 1)]
 | (false,1)=>[(2,1),(1,-n - 1),(0,n)]
 | (false,p+2)=>[(p+3,1),(p+2,-n - 1),(p+1,n - 1),(p,1)]
def wA:List (Nat × Int)→Nat→Int
 | [],_=>0
 | x::l,i=>pt x.1 x.2 i+wA l i
def dlt (n:Int) (s:Stp) (i:Nat):Int:=wA (chg n s) i
def Can (n:Int):Stp→(Nat→Int)→Prop
 | (true,p),f=>0<p∧n≤f p∧0<f (p - 1)
 | (false,p),f=>n<f p
def sm (w f:Nat→Int):Nat→Int
 | 0=>0
 | m+1=>sm w f m+f m*w m
def ls (w:Nat→Int):List (Nat × Int)→Int
 | []=>0
 | x::l=>x.2*w x.1+ls w l
theorem pR (w f g:Nat→Int):∀ m,sm w (fun i=>f i+g i) m=sm w f m+sm w g m
 | 0=>rfl
 | m+1=>by
  show sm w (fun i=>f i+g i) m+(f m+g m)*w m=(sm w f m+f m*w m)+(sm w g m+g m*w m)
  rw [pR w f g m,Int.add_mul]
  omega
theorem lq (w f:Nat→Int) (c:Int):∀ m,sm w (fun i=>c*f i) m=c*sm w f m
 | 0=>by show (0:Int)=c*0; rw [Int.mul_zero]
 | m+1=>by
  show sm w (fun i=>c*f i) m+(c*f m)*w m=c*(sm w f m+f m*w m)
  rw [lq w f c m,Int.mul_add,Int.mul_assoc]
theorem eQ (w:Nat→Int) (a:Nat) (c:Int):∀ m,sm w (pt a c) m=if a<m then c*w a else 0
 | 0=>by rw [if_neg (Nat.not_lt_zero _)]; rfl
 | m+1=>by
  show sm w (pt a c) m+pt a c m*w m=_
  rw [eQ w a c m]
  unfold pt
  by_cases h:m=a
  ·subst h
   rw [if_neg (Nat.lt_irrefl _),if_pos rfl,if_pos (Nat.lt_succ_self _)]
   omega
  ·rw [if_neg h,Int.zero_mul]
   by_cases h2:a<m
   ·rw [if_pos h2,if_pos (by omega)]; omega
   ·rw [if_neg h2,if_neg (by omega)]; omega
theorem o_ (w:Nat→Int) (m:Nat):∀ l:List (Nat × Int),(∀ x∈l,x.1<m)→sm w (wA l) m=ls w l
 | [],_=>by
  show sm w (fun _=>0) m=0
  induction m with
  | zero=>rfl
  | succ m ih=>show sm w (fun _=>0) m+0*w m=0; rw [ih (fun _ h=>nomatch h)]; omega
 | x::l,h=>by
  show sm w (fun i=>pt x.1 x.2 i+wA l i) m=x.2*w x.1+ls w l
  rw [pR,o_ w m l (fun y hy=>h y (List.mem_cons_of_mem _ hy))]
  rw [show sm w (fun i=>pt x.1 x.2 i) m=_ from eQ w x.1 x.2 m,if_pos (h x List.mem_cons_self)]
theorem oW {n:Int} {s:Stp} {m:Nat} (h:s.2+2≤m):∀ x∈chg n s,x.1<m:=by
 intro x hx
 match s,h,hx with
 | (true,p),h,hx=>
  have h:p+2≤m:=h
  rcases List.mem_cons.mp hx with rfl | hx
  ·show p+1<m; omega
  rcases List.mem_cons.mp hx with rfl | hx
  ·show p<m; omega
  rw [List.mem_singleton.mp hx]
  show p - 1<m; omega
 | (false,0),h,hx=>
  have h:0+2≤m:=h
  rcases List.mem_cons.mp hx with rfl | hx
  ·show 1<m; omega
  rw [List.mem_singleton.mp hx]
  show 0<m; omega
 | (false,1),h,hx=>
  have h:1+2≤m:=h
  rcases List.mem_cons.mp hx with rfl | hx
  ·show 2<m; omega
  rcases List.mem_cons.mp hx with rfl | hx
  ·show 1<m; omega
  rw [List.mem_singleton.mp hx]
  show 0<m; omega
 | (false,p+2),h,hx=>
  have h:p+2+2≤m:=h
  rcases List.mem_cons.mp hx with rfl | hx
  ·show p+3<m; omega
  rcases List.mem_cons.mp hx with rfl | hx
  ·show p+2<m; omega
  rcases List.mem_cons.mp hx with rfl | hx
  ·show p+1<m; omega
  rw [List.mem_singleton.mp hx]
  show p<m; omega
theorem Vl {n:Int} {s:Stp} (h:s.1=true→0<s.2):ls (wf n) (chg n s)=0:=by
 match s,h with
 | (true,0),h=>exact absurd (h rfl) (Nat.lt_irrefl _)
 | (true,q+1),_=>
  show 1*wf n (q+2)+(-n*wf n (q+1)+(-1*wf n q+0))=0
  rw [tY]
  grind
 | (false,0),_=>
  show 1*wf n 1+((-n - 1)*wf n 0+0)=0
  rw [pM,qo]
  omega
 | (false,1),_=>
  show 1*wf n (0+2)+((-n - 1)*wf n 1+(n*wf n 0+0))=0
  rw [tY,pM,qo]
  grind
 | (false,q+2),_=>
  show 1*wf n ((q+1)+2)+((-n - 1)*wf n (q+2)+((n - 1)*wf n (q+1)+(1*wf n q+0)))=0
  rw [tY n (q+1),tY n q]
  grind
def cst (n:Int) (i:Nat):Int:=if n=1 then (if i=0 then 7 else 4*i+8) else i+1
theorem wP (n:Int) (i:Nat):1≤cst n i∧cst n i≤4*i+8:=by
 unfold cst
 split
 ·split <;> omega
 ·omega
theorem uE (i:Nat):cst 1 i=if i=0 then (7:Int) else 4*(i:Int)+8:=by unfold cst; rw [if_pos rfl]
theorem uD {n:Int} (h:n≠1) (i:Nat):cst n i=i+1:=by unfold cst; rw [if_neg h]
theorem Vm {n:Int} (hn:1≤n) {s:Stp} (h:s.1=true→0<s.2):ls (cst n) (chg n s)≤-1:=by
 by_cases h1:n=1
 ·subst h1
  match s,h with
  | (true,0),h=>exact absurd (h rfl) (Nat.lt_irrefl _)
  | (true,q+1),_=>
   show 1*cst 1 (q+2)+(-1*cst 1 (q+1)+(-1*cst 1 q+0))≤-1
   rw [uE,uE,uE,if_neg (by omega),if_neg (by omega)]
   split <;> omega
  | (false,0),_=>
   show 1*cst 1 1+((-1 - 1)*cst 1 0+0)≤-1
   rw [uE,uE]; decide
  | (false,1),_=>
   show 1*cst 1 2+((-1 - 1)*cst 1 1+(1*cst 1 0+0))≤-1
   rw [uE,uE,uE]; decide
  | (false,q+2),_=>
   show 1*cst 1 (q+3)+((-1 - 1)*cst 1 (q+2)+((1 - 1)*cst 1 (q+1)+(1*cst 1 q+0)))≤-1
   rw [uE,uE,uE,uE,if_neg (by omega),if_neg (by omega),if_neg (by omega)]
   split <;> omega
 ·match s,h with
  | (true,0),h=>exact absurd (h rfl) (Nat.lt_irrefl _)
  | (true,q+1),_=>
   show 1*cst n (q+2)+(-n*cst n (q+1)+(-1*cst n q+0))≤-1
   rw [uD h1,uD h1,uD h1]
   have hq:0≤n*(q:Int):=Int.mul_nonneg (by omega) (by omega)
   have e:1*(((q+2:Nat):Int)+1)+(-n*(((q+1:Nat):Int)+1)+(-1*((q:Int)+1)+0))=2 - n*q - 2*n:=by
    rw [show ((q+2:Nat):Int)=(q:Int)+2 by omega,show ((q+1:Nat):Int)=(q:Int)+1 by omega]
    grind
   rw [e]
   omega
  | (false,0),_=>
   show 1*cst n 1+((-n - 1)*cst n 0+0)≤-1
   rw [uD h1,uD h1]
   omega
  | (false,1),_=>
   show 1*cst n 2+((-n - 1)*cst n 1+(n*cst n 0+0))≤-1
   rw [uD h1,uD h1,uD h1]
   omega
  | (false,q+2),_=>
   show 1*cst n (q+3)+((-n - 1)*cst n (q+2)+((n - 1)*cst n (q+1)+(1*cst n q+0)))≤-1
   rw [uD h1,uD h1,uD h1,uD h1]
   have e:1*(((q+3:Nat):Int)+1)+((-n - 1)*(((q+2:Nat):Int)+1)+((n - 1)*(((q+1:Nat):Int)+1)+(1*((q:Int)+1)+0)))=-n:=by
    rw [show ((q+3:Nat):Int)=(q:Int)+3 by omega,show ((q+2:Nat):Int)=(q:Int)+2 by omega,show ((q+1:Nat):Int)=(q:Int)+1 by omega]
    grind
   rw [e]
   omega
theorem jd {n:Int} {p:Nat} (h:0<p):dlt n (true,p) p=-n∧dlt n (true,p) (p - 1)=-1∧∀ i,i≠p→i≠p - 1→0≤dlt n (true,p) i:=by
 refine ⟨?_,?_,fun i h1 h2=>?_⟩
 ·show pt (p+1) 1 p+(pt p (-n) p+(pt (p - 1) (-1) p+0))=-n
  unfold pt
  rw [if_neg (by omega),if_pos rfl,if_neg (by omega)]
  omega
 ·show pt (p+1) 1 (p - 1)+(pt p (-n) (p - 1)+(pt (p - 1) (-1) (p - 1)+0))=-1
  unfold pt
  rw [if_neg (by omega),if_neg (by omega),if_pos rfl]
  omega
 ·show 0≤pt (p+1) 1 i+(pt p (-n) i+(pt (p - 1) (-1) i+0))
  unfold pt
  rw [if_neg h1,if_neg h2]
  split <;> omega
theorem ph {n:Int} (hn:1≤n) (p:Nat):dlt n (false,p) p=-n - 1∧∀ i,i≠p→0≤dlt n (false,p) i:=by
 match p with
 | 0=>
  refine ⟨?_,fun i h1=>?_⟩
  ·show pt 1 1 0+(pt 0 (-n - 1) 0+0)=_
   unfold pt
   rw [if_neg (by omega),if_pos rfl]
   omega
  ·show 0≤pt 1 1 i+(pt 0 (-n - 1) i+0)
   unfold pt
   rw [if_neg h1]
   split <;> omega
 | 1=>
  refine ⟨?_,fun i h1=>?_⟩
  ·show pt 2 1 1+(pt 1 (-n - 1) 1+(pt 0 n 1+0))=_
   unfold pt
   rw [if_neg (by omega),if_pos rfl,if_neg (by omega)]
   omega
  ·show 0≤pt 2 1 i+(pt 1 (-n - 1) i+(pt 0 n i+0))
   unfold pt
   rw [if_neg h1]
   split <;> split <;> omega
 | q+2=>
  refine ⟨?_,fun i h1=>?_⟩
  ·show pt (q+3) 1 (q+2)+(pt (q+2) (-n - 1) (q+2)+(pt (q+1) (n - 1) (q+2)+(pt q 1 (q+2)+0)))=_
   unfold pt
   rw [if_neg (by omega),if_pos rfl,if_neg (by omega),if_neg (by omega)]
   omega
  ·show 0≤pt (q+3) 1 i+(pt (q+2) (-n - 1) i+(pt (q+1) (n - 1) i+(pt q 1 i+0)))
   unfold pt
   rw [if_neg h1]
   split <;> split <;> split <;> omega
def Oft (n:Int):Stp→(Nat→Int)→Int→Prop
 | (true,p),f,m=>0<p∧m*n≤f p∧m≤f (p - 1)
 | (false,p),f,m=>m*(n+1)≤f p
theorem Oft.up {n m:Int} {s:Stp} {f:Nat→Int} (h:Oft n s f m):s.1=true→0<s.2:=by
 match s,h with
 | (true,p),h=>exact fun _=>h.1
 | (false,p),_=>exact fun z=>Bool.noConfusion z
theorem Oft.nonneg {n m:Int} (hn:1≤n) (hm:0≤m) {s:Stp} {f:Nat→Int} (h:Oft n s f m) (hf0:∀ i,0≤f i) (i:Nat):0≤f i+m*dlt n s i:=by
 have pos:∀ d:Int,0≤d→0≤f i+m*d:=fun d hd=>by
  have:=Int.mul_nonneg hm hd
  have:=hf0 i
  omega
 match s,h with
 | (true,p),⟨h1,h2,h3⟩=>
  obtain ⟨a,b,c⟩:=jd (n:=n) h1
  by_cases e1:i=p
  ·subst e1; rw [a,Int.mul_neg]; omega
  by_cases e2:i=p - 1
  ·subst e2; rw [b,Int.mul_neg,Int.mul_one]; omega
  exact pos _ (c i e1 e2)
 | (false,p),h=>
  obtain ⟨a,c⟩:=ph hn p
  by_cases e1:i=p
  ·subst e1
   rw [a,show -n - 1=-(n+1) by omega,Int.mul_neg]
   have:m*(n+1)≤f i:=h
   omega
  exact pos _ (c i e1)
theorem Oft.can {n m j:Int} (hn:1≤n) {s:Stp} {f:Nat→Int} (h:Oft n s f m) (hj0:0≤j) (hj:j<m):Can n s (fun i=>f i+j*dlt n s i):=by
 match s,h with
 | (true,p),⟨h1,h2,h3⟩=>
  obtain ⟨a,b,c⟩:=jd (n:=n) h1
  have k:=Int.mul_le_mul_of_nonneg_right (show j+1≤m by omega) (show 0≤n by omega)
  rw [Int.add_mul,Int.one_mul] at k
  refine ⟨h1,?_,?_⟩
  ·show n≤f p+j*dlt n (true,p) p
   rw [a,Int.mul_neg]; omega
  ·show 0<f (p - 1)+j*dlt n (true,p) (p - 1)
   rw [b,Int.mul_neg,Int.mul_one]; omega
 | (false,p),h=>
  obtain ⟨a,c⟩:=ph hn p
  have h:m*(n+1)≤f p:=h
  have k:=Int.mul_le_mul_of_nonneg_right (show j+1≤m by omega) (show 0≤n+1 by omega)
  rw [Int.add_mul,Int.one_mul] at k
  show n<f p+j*dlt n (false,p) p
  rw [a,show -n - 1=-(n+1) by omega,Int.mul_neg]
  omega
def Walk (n:Int):(Nat→Int)→List Stp→(Nat→Int)→Prop
 | f,[],g=>f=g
 | f,s::ss,g=>Can n s f∧Walk n (fun i=>f i+dlt n s i) ss g
theorem Walk.append {n:Int} {g k:Nat→Int} {ts:List Stp} (h2:Walk n g ts k):∀ {ss:List Stp} {f:Nat→Int},Walk n f ss g→Walk n f (ss++ts) k
 | [],_,h=>by rw [show _=g from h]; exact h2
 | s::ss,_,h=>⟨h.1,Walk.append h2 h.2⟩
theorem qp {n:Int} {s:Stp}:∀ (m:Nat) (f:Nat→Int),(∀ j:Nat,j<m→Can n s (fun i=>f i+j*dlt n s i))→Walk n f (List.replicate m s) (fun i=>f i+m*dlt n s i)
 | 0,f,_=>by
  show f=_
  funext i
  rw [show ((0:Nat):Int)=0 from rfl,Int.zero_mul,Int.add_zero]
 | m+1,f,h=>by
  refine ⟨?_,?_⟩
  ·have:=h 0 (Nat.succ_pos _)
   have e:(fun i=>f i+((0:Nat):Int)*dlt n s i)=f:=by
    funext i
    rw [show ((0:Nat):Int)=0 from rfl,Int.zero_mul,Int.add_zero]
   rw [e] at this
   exact this
  ·have:=qp m (fun i=>f i+dlt n s i) (fun j hj=>by
    have:=h (j+1) (by omega)
    have e:(fun i=>f i+((j+1:Nat):Int)*dlt n s i)=fun i=>f i+dlt n s i+j*dlt n s i:=by
     funext i
     rw [show ((j+1:Nat):Int)=(j:Int)+1 by omega,Int.add_mul,Int.one_mul]
     omega
    rw [e] at this
    exact this)
   have e:(fun i=>f i+((m+1:Nat):Int)*dlt n s i)=fun i=>f i+dlt n s i+m*dlt n s i:=by
    funext i
    rw [show ((m+1:Nat):Int)=(m:Int)+1 by omega,Int.add_mul,Int.one_mul]
    omega
   rw [e]
   exact this
theorem w8 {h:List Int} {i:Nat} (hi:h.length≤i):hf h i=0:=by unfold hf; rw [List.getD_eq_getElem?_getD,List.getElem?_eq_none hi]; rfl
theorem pQ (w:Nat→Int) {f:Nat→Int} {k:Nat} (h:∀ i,k≤i→f i=0):∀ m,k≤m→sm w f m=sm w f k
 | 0,hm=>by rw [show k=0 by omega]
 | m+1,hm=>by
  by_cases e:k=m+1
  ·rw [e]
  ·show sm w f m+f m*w m=_
   rw [h m (by omega),Int.zero_mul,pQ w h m (by omega)]
   omega
def hw (n:Int) (h:List Int):Int:=sm (wf n) (hf h) h.length
def pot (n:Int) (h:List Int):Int:=sm (cst n) (hf h) h.length
theorem WG {h:List Int} (h0:∀ z∈h,0≤z) (i:Nat):0≤hf h i:=by
 unfold hf
 rw [List.getD_eq_getElem?_getD]
 cases q:h[i]? with
 | none=>exact Int.le_refl _
 | some z=>exact h0 z (List.mem_of_getElem? q)
theorem qw {w f:Nat→Int} (hw:∀ i,0≤w i) (hf:∀ i,0≤f i):∀ m,0≤sm w f m
 | 0=>Int.le_refl _
 | m+1=>Int.add_nonneg (qw hw hf m) (Int.mul_nonneg (hf m) (hw m))
theorem o9 {w f:Nat→Int} (hw:∀ i,0≤w i) (hf:∀ i,0≤f i) {i:Nat}:∀ m,i<m→f i*w i≤sm w f m
 | 0,h=>absurd h (Nat.not_lt_zero _)
 | m+1,h=>by
  show _≤sm w f m+f m*w m
  by_cases e:i=m
  ·subst e
   have:=qw hw hf i
   omega
  ·have:=o9 hw hf (i:=i) m (by omega)
   have:=Int.mul_nonneg (hf m) (hw m)
   omega
theorem lp {n:Int} (hn:1≤n) {f:Nat→Int} (hf:∀ i,0≤f i):∀ m,sm (wf n) f m≤sm (fun _=>1) f m*wf n m
 | 0=>by show (0:Int)≤0*_; rw [Int.zero_mul]; exact Int.le_refl _
 | m+1=>by
  obtain ⟨p1,p2⟩:=z5 hn m
  have ih:=lp hn hf m
  have t0:=qw (w:=fun _=>1) (fun _=>by decide) hf (m+1)
  have k:=Int.mul_le_mul_of_nonneg_left p2 t0
  have e:sm (fun _=>1) f (m+1)*wf n m=sm (fun _=>1) f m*wf n m+f m*wf n m:=by
   show (sm (fun _=>1) f m+f m*1)*wf n m=_
   rw [Int.mul_one,Int.add_mul]
  show sm (wf n) f m+f m*wf n m≤_
  omega
theorem eS {w v f:Nat→Int} (hf:∀ i,0≤f i) (h:∀ i,w i≤v i):∀ m,sm w f m≤sm v f m
 | 0=>Int.le_refl _
 | m+1=>by
  have:=eS hf h m
  have:=Int.mul_le_mul_of_nonneg_left (h m) (hf m)
  show sm w f m+f m*w m≤sm v f m+f m*v m
  omega
theorem o7 {n:Int} (hn:1≤n) (m:Nat):∀ b:Nat,((2 ^ b:Nat):Int)*wf n m≤wf n (m+2*b)
 | 0=>by rw [show ((2 ^ 0:Nat):Int)=1 from rfl,Int.one_mul]; exact Int.le_refl _
 | b+1=>by
  have ih:=o7 hn m b
  obtain ⟨a1,b1⟩:=z5 hn (m+2*b)
  have:wf n (m+2*b+1)≤n*wf n (m+2*b+1):=by
   have:=Int.mul_le_mul_of_nonneg_right hn (show 0≤wf n (m+2*b+1) by omega)
   omega
  have e:wf n (m+2*(b+1))=n*wf n (m+2*b+1)+wf n (m+2*b):=tY n (m+2*b)
  have hp:((2 ^ (b+1):Nat):Int)*wf n m=2*(((2 ^ b:Nat):Int)*wf n m):=by rw [Nat.pow_succ,Int.natCast_mul,Int.mul_comm ((2 ^ b:Nat):Int),Int.mul_assoc]; rfl
  omega
theorem uR {n:Int} (hn:1≤n) (m:Nat):∀ k,wf n m≤wf n (m+k)
 | 0=>Int.le_refl _
 | k+1=>Int.le_trans (uR hn m k) (z5 hn (m+k)).2
theorem lK {n:Int} (hn:1≤n) {h l:List Int} (h0:∀ i,0≤hf h i) (l0:∀ i,0≤hf l i) (hp:pot n h≤15000000) (e:hw n l=hw n h) {p:Nat} (hpos:0<hf l p):p<h.length+48:=by
 rcases Nat.lt_or_ge p (h.length+48) with z | z
 ·exact z
 exfalso
 have hpl:p<l.length:=by
  rcases Nat.lt_or_ge p l.length with z | z
  ·exact z
  ·rw [w8 z] at hpos; omega
 have w0:∀ i,0≤wf n i:=fun i=>by have:=(z5 hn i).1; omega
 have g1:=o9 w0 l0 l.length hpl
 have g2:wf n p≤hf l p*wf n p:=by
  have:=Int.mul_le_mul_of_nonneg_right (show 1≤hf l p by omega) (w0 p)
  omega
 have t:=lp hn h0 h.length
 have tp:sm (fun _=>1) (hf h) h.length≤pot n h:=eS h0 (fun i=>(wP n i).1) _
 have gr:=o7 hn h.length 24
 have mo:=uR hn (h.length+2*24) (p - (h.length+2*24))
 rw [show h.length+2*24+(p - (h.length+2*24))=p by omega] at mo
 have w1:=(z5 hn h.length).1
 have k:=Int.mul_le_mul_of_nonneg_right (show sm (fun _=>1) (hf h) h.length≤15000000 by omega) (show 0≤wf n h.length by omega)
 have e2:((2 ^ 24:Nat):Int)=16777216:=by decide
 rw [e2] at gr
 have e:sm (wf n) (hf l) l.length=sm (wf n) (hf h) h.length:=e
 omega
theorem mL {n m:Int} (hn:1≤n) (hm:1≤m) {l l':List Int} {s:Stp} (l0:∀ i,0≤hf l i) (ho:Oft n s (hf l) m) (hl:l'.length=max l.length (s.2+2)) (he:∀ i,hf l' i=hf l i+m*dlt n s i):
  (∀ i,0≤hf l' i)∧hw n l'=hw n l∧pot n l'+m≤pot n l∧Walk n (hf l) (List.replicate m.toNat s) (hf l'):=by
 have ef:hf l'=fun i=>hf l i+m*dlt n s i:=funext he
 have sums:∀ w:Nat→Int,sm w (hf l') l'.length=sm w (hf l) l.length+m*ls w (chg n s):=fun w=>by
  rw [ef,pR,lq,show sm w (fun i=>dlt n s i) l'.length=_ from o_ w l'.length (chg n s) (oW (by omega)),pQ w (fun i hi=>w8 hi) l'.length (by omega)]
 refine ⟨fun i=>?_,?_,?_,?_⟩
 ·rw [he]; exact ho.nonneg hn (by omega) l0 i
 ·show sm (wf n) (hf l') l'.length=sm (wf n) (hf l) l.length
  rw [sums,Vl ho.up,Int.mul_zero,Int.add_zero]
 ·show sm (cst n) (hf l') l'.length+m≤sm (cst n) (hf l) l.length
  rw [sums]
  have:=Int.mul_le_mul_of_nonneg_left (Vm hn ho.up) (show 0≤m by omega)
  omega
 ·have:=qp (n:=n) (s:=s) m.toNat (hf l) (fun j hj=>ho.can hn (by omega) (by omega))
  rw [show ((m.toNat:Nat):Int)=m from Int.toNat_of_nonneg (by omega)] at this
  rw [ef]
  exact this
theorem nA (l:List Int) (i:Nat):hf (trim l) i=hf l i:=by
 generalize hl:l.length=m
 induction m generalizing l with
 | zero=>rw [List.length_eq_zero_iff.mp hl]; rfl
 | succ m ih=>
  rcases zF l with rfl | ⟨r,z,rfl⟩
  ·cases hl
  ·by_cases hz:z=0
   ·subst hz
    rw [xq,ih r (by rw [List.length_append] at hl; exact Nat.succ.inj hl)]
    unfold hf
    rw [List.getD_eq_getElem?_getD,List.getD_eq_getElem?_getD]
    by_cases h1:i<r.length
    ·rw [List.getElem?_append_left h1]
    ·rw [List.getElem?_eq_none (by omega)]
     rw [List.getElem?_append_right (by omega)]
     by_cases h2:i - r.length=0
     ·rw [h2]; rfl
     ·rw [List.getElem?_eq_none (by simp; omega)]
   ·rw [vc hz]
theorem fJ (n:Int) (l:List Int):hw n (trim l)=hw n l:=by
 have e:hf (trim l)=hf l:=funext (nA l)
 show sm (wf n) (hf (trim l)) (trim l).length=sm (wf n) (hf l) l.length
 rw [← pQ (wf n) (fun i hi=>w8 hi) l.length (x_ l),e]
structure Vx (n:Int) (h:List Int) (ss:List Stp) (r:List Int):Prop where
 leg:Legal .falling n r
 eqw:hw n r=hw n h
 wlk:Walk n (hf h) ss (hf r)
 len:r.length≤h.length+60
 few:ss.length≤15000000
def yl (n:Int) (f:Nat→Int) (p:Nat):Option Stp:=if 0<p∧n≤f p∧0<f (p - 1) then some (true,p) else if n<f p then some (false,p) else none
theorem ue {n:Int} {f:Nat→Int} {p:Nat} (h:yl n f p=none):f p≤n∧(0<p→n≤f p→f (p - 1)≤0):=by
 unfold yl at h
 split at h
 ·cases h
 ·rename_i h1
  split at h
  ·cases h
  ·rename_i h2
   refine ⟨by omega,fun a b=>?_⟩
   rcases Int.lt_or_le 0 (f (p - 1)) with z | z
   ·exact absurd ⟨a,b,z⟩ h1
   ·exact z
theorem qu {n:Int} {f:Nat→Int} {p:Nat} {s:Stp} (h:yl n f p=some s):s.2=p∧Can n s f:=by
 unfold yl at h
 split at h
 ·rename_i h1; cases h; exact ⟨rfl,h1⟩
 ·split at h
  ·rename_i h2; cases h; exact ⟨rfl,h2⟩
  ·cases h
theorem fG {n:Int} {l:List Int} (l0:∀ i,0≤hf l i) (h:∀ q,q<l.length→yl n (hf l) q=none):Lg .falling n l:=by
 refine ⟨fun p hp=>⟨l0 p,(ue (h p hp)).1⟩,fun _ p hp e=>?_⟩
 have:=(ue (h (p+1) hp)).2 (by omega) (by unfold hf; rw [e]; exact Int.le_refl _)
 have k:=l0 p
 rw [show p+1 - 1=p by omega] at this
 unfold hf at this k
 omega
theorem nK {n:Int} {s:Stp} {i:Nat} (h:s.2+1<i):dlt n s i=0:=by
 have key:∀ l:List (Nat × Int),(∀ x∈l,x.1<i)→wA l i=0:=by
  intro l
  induction l with
  | nil=>intro _; rfl
  | cons x l ih=>
   intro hl
   show pt x.1 x.2 i+wA l i=0
   rw [ih (fun y hy=>hl y (List.mem_cons_of_mem _ hy))]
   unfold pt
   rw [if_neg (by have:=hl x List.mem_cons_self; omega)]
   rfl
 exact key _ (oW (by omega))
theorem o5 (n:Int) (r:List Int):∀ j,yk .falling n r j=.i (sm (wf n) (hf r) j)
 | 0=>rfl
 | j+1=>by
  show (yk .falling n r j).add ((Nm.i (r.getD j 0)).mul (.i (wf n j)))=_
  rw [o5 n r j]
  rfl
theorem d7 {n B:Int} {h:List Int} (hb:∀ z∈h,0≤z∧z≤B) (hB:0≤B):pot n h≤h.length*(B*(4*h.length+8)):=by
 have key:∀ m:Nat,m≤h.length→sm (cst n) (hf h) m≤m*(B*(4*h.length+8)):=by
  intro m
  induction m with
  | zero=>intro _; show (0:Int)≤0*_; rw [Int.zero_mul]; exact Int.le_refl _
  | succ m ih=>
   intro hm
   have ih:=ih (by omega)
   have c:=wP n m
   have f1:0≤hf h m∧hf h m≤B:=by
    unfold hf
    rw [List.getD_eq_getElem?_getD,List.getElem?_eq_getElem (by omega)]
    exact hb _ (List.getElem_mem _)
   have k1:=Int.mul_le_mul f1.2 (show cst n m≤4*(h.length:Int)+8 by omega) (by omega) hB
   show sm (cst n) (hf h) m+hf h m*cst n m≤((m+1:Nat):Int)*_
   rw [show ((m+1:Nat):Int)=(m:Int)+1 by omega,Int.add_mul,Int.one_mul]
   omega
 exact key h.length (Nat.le_refl _)
def pO:Bool→Str
 | true=>.ofString "up"
 | false=>.ofString "part"
def yJ (s:Stp):Dt:=.tup [.str (pO s.1),.int s.2]
def chD (x:Nat × Int):Dt:=.tup [.int x.1,.int x.2]
def Xm:Option Stp→Dt
 | none=>.non
 | some s=>yJ s
theorem jX {Q:Dt→Prop} {d e:Dt} (q:Q d) (h:e=d):Q e:=h ▸ q
theorem pr (a b:List (Nat × Int)) (j:Nat):wA (a++b) j=wA a j+wA b j:=by
 induction a with
 | nil=>show wA b j=0+wA b j; omega
 | cons x a ih=>show pt x.1 x.2 j+wA (a++b) j=pt x.1 x.2 j+wA a j+wA b j; omega
theorem mR {l:List (Nat × Int)} {i:Nat} {x:Nat × Int} (h:l[i]? = some x) (j:Nat):wA (l.take (i+1)) j=wA (l.take i) j+pt x.1 x.2 j:=by
 rw [List.take_succ,h,pr]
 show _+(pt x.1 x.2 j+0)=_
 omega
theorem YJ {n:Int} (h1:1≤n) (h2:n≤60) {s:Stp}:∀ x∈chg n s,-1000≤x.2∧x.2≤1000:=by
 intro x hx
 have o1:(-1000:Int)≤1∧(1:Int)≤1000:=by decide
 have o2:(-1000:Int)≤-1∧(-1:Int)≤1000:=by decide
 match s,hx with
 | (true,p),hx=>
  rcases List.mem_cons.mp hx with rfl | hx
  ·exact o1
  rcases List.mem_cons.mp hx with rfl | hx
  ·show -1000≤-n∧-n≤1000; omega
  rw [List.mem_singleton.mp hx]
  exact o2
 | (false,0),hx=>
  rcases List.mem_cons.mp hx with rfl | hx
  ·exact o1
  rw [List.mem_singleton.mp hx]
  show -1000≤-n - 1∧-n - 1≤1000; omega
 | (false,1),hx=>
  rcases List.mem_cons.mp hx with rfl | hx
  ·exact o1
  rcases List.mem_cons.mp hx with rfl | hx
  ·show -1000≤-n - 1∧-n - 1≤1000; omega
  rw [List.mem_singleton.mp hx]
  show -1000≤n∧n≤1000; omega
 | (false,p+2),hx=>
  rcases List.mem_cons.mp hx with rfl | hx
  ·exact o1
  rcases List.mem_cons.mp hx with rfl | hx
  ·show -1000≤-n - 1∧-n - 1≤1000; omega
  rcases List.mem_cons.mp hx with rfl | hx
  ·show -1000≤n - 1∧n - 1≤1000; omega
  rw [List.mem_singleton.mp hx]
  exact o1
theorem Yn (l:List Int) (k i:Nat):hf (l++List.replicate k 0) i=hf l i:=by
 unfold hf
 rw [List.getD_eq_getElem?_getD,List.getD_eq_getElem?_getD]
 by_cases h:i<l.length
 ·rw [List.getElem?_append_left h]
 ·rw [List.getElem?_append_right (by omega),List.getElem?_eq_none (show l.length≤i by omega),List.getElem?_replicate]
  split <;> rfl
theorem Ym {l:List Int} {p:Nat} (h:p<l.length) (c:Int) (i:Nat):hf (l.set p (hf l p+c)) i=hf l i+pt p c i:=by
 unfold hf pt
 rw [List.getD_eq_getElem?_getD,List.getD_eq_getElem?_getD,List.getD_eq_getElem?_getD]
 by_cases e:i=p
 ·subst e
  rw [List.getElem?_set_self h,if_pos rfl]
  rfl
 ·rw [List.getElem?_set_ne (fun z=>e z.symm),if_neg e]
  omega
theorem tN {l:List Int} {p:Nat} (h:p<l.length):(l.map Dt.int)[p]? = some (.int (hf l p)):=by
 unfold hf
 rw [List.getElem?_map,List.getElem?_eq_getElem h,List.getD_eq_getElem?_getD,List.getElem?_eq_getElem h]
 rfl
theorem lz (k:Nat) (s:Stp):(List.replicate k [yJ s]).flatten=(List.replicate k s).map yJ:=by
 induction k with
 | zero=>rfl
 | succ k ih=>rw [List.replicate_succ,List.flatten_cons,ih]; rfl
theorem sO (k:Nat) (s:Stp):(List.replicate k [Xm (some s)]).flatten=(List.replicate k s).map yJ:=lz k s
theorem Can.pos {n:Int} (hn:1≤n) {s:Stp} {f:Nat→Int} (h:Can n s f):0<f s.2:=by
 match s,h with
 | (true,p),⟨_,h2,_⟩=>show 0<f p; omega
 | (false,p),h=>
  have h:n<f p:=h
  show 0<f p; omega
theorem Oft.le_pot {n m:Int} (hn:1≤n) {s:Stp} {l:List Int} (l0:∀ i,0≤hf l i) (hm:0≤m) (h:Oft n s (hf l) m) (hs:s.2<l.length):m≤pot n l:=by
 have a:m≤hf l s.2:=by
  match s,h with
  | (true,p),⟨_,h2,_⟩=>
   have:=Int.mul_le_mul_of_nonneg_left hn hm
   show m≤hf l p; omega
  | (false,p),h=>
   have h:m*(n+1)≤hf l p:=h
   have:=Int.mul_le_mul_of_nonneg_left (show 1≤n+1 by omega) hm
   show m≤hf l p; omega
 have b:=o9 (w:=cst n) (fun i=>by have:=(wP n i).1; omega) l0 l.length hs
 have c:=Int.mul_le_mul_of_nonneg_left (wP n s.2).1 (l0 s.2)
 show m≤sm (cst n) (hf l) l.length
 omega
theorem tP (a b:Int):a=b*a.fdiv b+a.fmod b:=by have:=Int.fmod_def a b; omega
theorem nC {a b:Int} (hb:0<b):a.fdiv b*b≤a:=by
 have:=tP a b
 have:=Int.fmod_nonneg_of_pos a hb
 rw [Int.mul_comm]
 omega
theorem q_ {a b:Int} (hb:0<b) (h:b≤a):1≤a.fdiv b:=by
 have e:=tP a b
 have f:=Int.fmod_lt_of_pos a hb
 rcases Int.lt_or_le 0 (a.fdiv b) with z | z
 ·exact z
 ·have:=Int.mul_le_mul_of_nonneg_left z (show 0≤b by omega)
  omega
theorem mG {k:Kd} {n:Int} {r:List Int} (hn:k.ok n) (h:Legal k n r) (hk:tm k):0≤(zt k n r).re:=by
 have:=sQ hn h
 obtain ⟨a,e⟩:=yI (rD hk) (zJ k n r)
 rw [e] at this ⊢
 rcases hk with rfl | rfl <;> exact of_decide_eq_true this
theorem uQ (n:Int) (r:List Int):zt .falling n r=.i (hw n r):=o5 n r r.length
theorem mm {n B:Int} {h:List Int} (hb:∀ z∈h,0≤z∧z≤B) (h0:0≤B) (hB:B≤80) (hl:h.length≤200):pot n h≤15000000:=by
 have p:=d7 (n:=n) hb h0
 have k1:=Int.mul_le_mul hB (show 4*(h.length:Int)+8≤808 by omega) (by omega) (by decide)
 have k2:=Int.mul_le_mul (show (h.length:Int)≤200 by omega) k1 (Int.mul_nonneg h0 (by omega)) (by decide)
 omega
theorem fO {k:Kd} {n:Int} {r:List Int} (hn:k.ok n) (h:Legal k n r) (hl:r.length≤2000) (p:Nat):(hf r p).natAbs≤4000:=by
 by_cases hp:p<r.length
 ·refine sV hn h hl _ ?_
  unfold hf
  rw [List.getD_eq_getElem?_getD,List.getElem?_eq_getElem hp]
  exact List.getElem_mem _
 ·rw [w8 (by omega)]; decide
theorem q9 {n:Int} {r:List Int} (hn:Kd.falling.ok n) (h:Legal .falling n r) (p:Nat):0≤hf r p∧hf r p≤n:=by
 by_cases hp:p<r.length
 ·exact h.fig p hp
 ·have:=hn.1
  rw [w8 (by omega)]
  exact ⟨Int.le_refl _,by show 0≤n; simp only [Kd.lo] at this; omega⟩
theorem jN (r:List Int):zB r=qt (r.map Nm.i):=by unfold zB qt; rw [lf]
def hv (k:Kd) (n:Int) (o:List Int):Nat→Nat→Nm
 | 0,_=>k.zero
 | m+1,p=>(Nm.i (o.getD p 0)).add ((k.ratN n p).mul (hv k n o m (p+1)))
theorem jT (k:Kd) (n:Int) (p:Int):tot k (k.ratN n p):=fun hk=>by cases k <;> first | exact ⟨_,rfl⟩ | exact absurd rfl hk
theorem e7 (k:Kd) (n:Int) (o:List Int):∀ m p,(hv k n o m p).ty k
 | 0,_=>yF k
 | m+1,p=>by
  have h:=wZ (jT k n p) (e7 k n o m (p+1))
  unfold hv
  by_cases hk:k=.pairs
  ·subst hk
   obtain ⟨a,b,e⟩:=h
   rw [e]
   exact ⟨_,_,rfl⟩
  ·obtain ⟨a,e⟩:=yI hk h
   rw [e]
   exact wG hk
theorem qW {k:Kd} {n:Int} {o:List Int} (h5:k.five=true):∀ m p,p+m=o.length→(zt k n o).re=(yk k n o p).re+((wt k n p).re*(hv k n o m p).re - (wt k n p).im*(hv k n o m p).im)∧(zt k n o).im=(yk k n o p).im+((wt k n p).re*(hv k n o m p).im+(wt k n p).im*(hv k n o m p).re)
 | 0,p,h=>by
  obtain rfl:p=o.length:=h
  show (yk k n o o.length).re=_+(_*(k.zero).re - _*(k.zero).im)∧(yk k n o o.length).im=_+(_*(k.zero).im+_*(k.zero).re)
  rw [zT,z3,Int.mul_zero,Int.mul_zero]
  constructor <;> omega
 | m+1,p,h=>by
  obtain ⟨h1,h2⟩:=qW (n:=n) (o:=o) h5 m (p+1) (by omega)
  rw [h1,h2,yi h5]
  have e0:hv k n o (m+1) p=(Nm.i (o.getD p 0)).add ((k.ratN n p).mul (hv k n o m (p+1))):=rfl
  rw [e0]
  simp only [yg,yz,zM,zQ]
  have e:yk k n o (p+1)=(yk k n o p).add ((Nm.i (o.getD p 0)).mul (wt k n p)):=rfl
  rw [e]
  simp only [yg,yz,zM,zQ]
  have i1:(Nm.i (o.getD p 0)).re=o.getD p 0:=rfl
  have i2:(Nm.i (o.getD p 0)).im=0:=rfl
  rw [i1,i2]
  generalize hv k n o m (p+1)=V
  generalize k.ratN n p=R
  generalize wt k n p=W
  generalize yk k n o p=S
  constructor <;> grind
theorem kD {k:Kd} {n:Int} {o:List Int} (h5:k.five=true):zt k n o=hv k n o o.length 0:=by
 obtain ⟨h1,h2⟩:=qW (n:=n) (o:=o) h5 o.length 0 (Nat.zero_add _)
 have z1:(yk k n o 0).re=0:=zT k
 have z2:(yk k n o 0).im=0:=z3 k
 have e:wt k n 0=k.zero.add (.i 1):=by cases k <;> first | rfl | cases h5
 have r1:(wt k n 0).re=1:=by rw [e,yg,zT]; rfl
 have r2:(wt k n 0).im=0:=by rw [e,yz,z3]; rfl
 rw [z1,r1,r2] at h1
 rw [z2,r1,r2] at h2
 exact vS (zJ k n o) (e7 k n o _ _) (by omega) (by omega)
theorem V7 {k:Kd} {n:Int} {o:List Int} (hn:k.ok n) (h:Legal k n o) (hl:o.length≤63) (p:Nat):(hf o p).natAbs≤122∧(k=.pairs→(hf o p).natAbs≤81):=by
 by_cases hp:p<o.length
 ·have f:=h.fig p hp
  unfold hf
  obtain ⟨h1,h2⟩:=hn
  generalize o.getD p 0=z at *
  cases k <;> simp only [Kd.low,Kd.high,Kd.lo,Kd.hi] at * <;> first | (refine ⟨by omega,fun h=>by cases h⟩) | (have:=Int.mul_le_mul h2 h2 (by omega) (by omega); exact ⟨by omega,fun _=>by omega⟩)
 ·rw [w8 (by omega)]
  exact ⟨by decide,fun _=>by decide⟩
theorem ju {x c:Int} {y A:Nat} (h:c.natAbs≤A) (hy:x.natAbs≤y):(c*x).natAbs≤A*y:=by rw [Int.natAbs_mul]; exact Nat.mul_le_mul h hy
theorem kC {k:Kd} {n:Int} {o:List Int} (h4:k.four=true) (hn:k.ok n) (hf7:∀ p,(hf o p).natAbs≤122):∀ m p,p+m≤63→(hv k n o m p).re.natAbs≤2 ^ (7*m+5)∧(hv k n o m p).im=0
 | 0,p,_=>by
  show (k.zero).re.natAbs≤_∧(k.zero).im=0
  rw [zT,z3]
  exact ⟨Nat.zero_le _,rfl⟩
 | m+1,p,hp=>by
  obtain ⟨a,b⟩:=kC h4 hn hf7 m (p+1) (by omega)
  unfold hv
  rw [yg,yz,zM,zQ,b]
  have h0:(o.getD p 0).natAbs≤122:=hf7 p
  have hr:(k.ratN n p).re.natAbs≤123∧(k.ratN n p).im=0:=by
   obtain ⟨h1,h2⟩:=hn
   cases k <;> simp only [Kd.lo,Kd.hi] at h1 h2 <;> first | exact ⟨by simp only [Kd.ratN,Kd.rat,Nm.re]; omega,rfl⟩ | cases h4
  rw [hr.2]
  have m1:=ju hr.1 a
  have e:2 ^ (7*(m+1)+5)=128*2 ^ (7*m+5):=by rw [show 7*(m+1)+5=7+(7*m+5) by omega,Nat.pow_add]
  have e2:32≤2 ^ (7*m+5):=Nat.le_trans (show 32≤2 ^ 5 by decide) (Nat.pow_le_pow_right (by decide) (by omega))
  rw [e]
  generalize 2 ^ (7 * m + 5)=X at *
  generalize (k.ratN n p).re * (hv k n o m (p + 1)).re=Y at *
  show (o.getD p 0+(Y - 0*0)).natAbs≤_∧0+(_*0+0*_)=(0:Int)
  simp only [Int.mul_zero,Int.zero_mul]
  exact ⟨by omega,rfl⟩
theorem mH {k:Kd} {n:Int} {r:List Int} {b:Nat} (h5:k.five=true) (hn:k.ok n) (h:Legal k n r) (hb:(zt k n r).re.natAbs≤2 ^ b∧(zt k n r).im.natAbs≤2 ^ b) (b7:7≤b):r.length≤4*b+31∧(k≠.pairs→r.length≤b+4):=by
 have hh:=sQ hn h
 obtain ⟨J,F,h1,h2⟩:=lv h5 hn hh hb b7
 have ht:∀ t∈[zt k n r],tot k t:=fun t h=>by rw [List.mem_singleton.mp h]; exact yb (zJ k n r)
 have e:mf k n [zt k n r] J=r:=YV hn (uX h5 hn ht) h (by rw [uW F h5 hn ht,pK (zJ k n r) h5])
 have l:=x_ (xP k n [zt k n r] J)
 rw [ww] at l
 have l2:r.length≤J:=by
  have:(mf k n [zt k n r] J).length≤J:=l
  rw [e] at this
  exact this
 exact ⟨by omega,fun z=>by have:=h2 z; omega⟩
def few (k:Kd) (x y:Nat):Prop:=x≤63∧y≤63∧x+y≤100∧(k=.pairs→x+y≤50)
theorem YU {n:Int} (n1:1≤n) {i j:Nat} (h:i<j):wf n i<wf n j:=by
 induction j with
 | zero=>exact absurd h (Nat.not_lt_zero _)
 | succ j ih=>
  have s:wf n j<wf n (j+1):=by
   cases j with
   | zero=>rw [qo,pM]; omega
   | succ q=>
    have p1:=(z5 n1 q).1
    have p2:=(z5 n1 (q+1)).1
    rw [tY]
    have:=Int.mul_le_mul_of_nonneg_right n1 (show 0≤wf n (q+1) by omega)
    omega
  rcases Nat.lt_or_ge i j with z | z
  ·exact Int.lt_trans (ih z) s
  ·obtain rfl:i=j:=by omega
   exact s
theorem kO {n:Int} {r:List Int} {M:Nat} (hn:Kd.falling.ok n) (h:Legal .falling n r) (hb:hw n r≤wf n M):r.length≤M+1:=by
 have n1:1≤n:=hn.1
 rcases Nat.lt_or_ge (M+1) r.length with z | z
 ·have f:=q9 hn h
  have g:=o9 (w:=wf n) (f:=hf r) (fun i=>by have:=(z5 n1 i).1; omega) (fun i=>(f i).1) (i:=r.length - 1) r.length (by omega)
  have hne:hf r (r.length - 1)≠0:=by
   rcases h.end_ with q | q
   ·rw [q] at z; exact absurd z (Nat.not_lt_zero _)
   ·exact q
  have f0:=(f (r.length - 1)).1
  have:=Int.mul_le_mul_of_nonneg_right (show 1≤hf r (r.length - 1) by omega) (show 0≤wf n (r.length - 1) by have:=(z5 n1 (r.length - 1)).1; omega)
  have l:=YU n1 (show M<r.length - 1 by omega)
  have hb':sm (wf n) (hf r) r.length≤wf n M:=hb
  omega
 ·exact z
def hzn (k:Kd) (n:Int):Nat→List Int→Int
 | _,[]=>0
 | p,d::ds=>d+k.rat n p*hzn k n (p+1) ds
def tz (n:Int):Nat→List Int→Int
 | _,[]=>0
 | p,d::ds=>d*wf n p+tz n (p+1) ds
theorem sY {o ds:List Int} {d:Int} {p:Nat} (h:o.drop p=d::ds):o.getD p 0=d∧o.drop (p+1)=ds:=by
 have hp:p<o.length:=by
  rcases Nat.lt_or_ge p o.length with z | z
  ·exact z
  ·rw [List.drop_of_length_le z] at h; cases h
 rw [List.drop_eq_getElem_cons hp] at h
 injection h with h1 h2
 exact ⟨by rw [List.getD_eq_getElem?_getD,List.getElem?_eq_getElem hp]; exact h1,h2⟩
theorem e8 {k:Kd} {n:Int} {o:List Int} (h4:k.four=true):∀ (l:List Int) (p:Nat),o.drop p=l→hv k n o l.length p=.i (hzn k n p l)
 | [],p,_=>by cases k <;> first | rfl | cases h4
 | d::ds,p,h=>by
  obtain ⟨h1,h2⟩:=sY h
  show (Nm.i (o.getD p 0)).add ((k.ratN n p).mul (hv k n o ds.length (p+1)))=_
  rw [h1,e8 h4 ds (p+1) h2]
  cases k <;> first | rfl | cases h4
theorem sS {k:Kd} (h:k.four=true):k.five=true:=by cases k <;> first | rfl | cases h
theorem qV {k:Kd} {n:Int} (h4:k.four=true) (l:List Int):zt k n l=.i (hzn k n 0 l):=by rw [kD (sS h4),e8 h4 l 0 rfl]
theorem eP {n:Int} {o:List Int}:∀ (l:List Int) (p:Nat),o.drop p=l→sm (wf n) (hf o) (p+l.length)=sm (wf n) (hf o) p+tz n p l
 | [],p,_=>by show sm (wf n) (hf o) p=_+(0:Int); rw [Int.add_zero]
 | d::ds,p,h=>by
  obtain ⟨h1,h2⟩:=sY h
  have:=eP (n:=n) ds (p+1) h2
  rw [List.length_cons,show p+(ds.length+1)=p+1+ds.length by omega,this]
  show sm (wf n) (hf o) p+hf o p*wf n p+tz n (p+1) ds=sm (wf n) (hf o) p+(d*wf n p+tz n (p+1) ds)
  rw [show hf o p=d from h1,Int.add_assoc]
theorem eN (n:Int) (l:List Int):hw n l=tz n 0 l:=by
 have:=eP (n:=n) (o:=l) l 0 rfl
 rw [Nat.zero_add] at this
 show sm (wf n) (hf l) l.length=_
 rw [this]
 show (0:Int)+_=_
 rw [Int.zero_add]
theorem qc (a m:Int) (h:1≤m):a=m*a.fdiv m+a.fmod m∧0≤a.fmod m∧a.fmod m<m:=by
 have:=Int.mul_fdiv_add_fmod a m
 exact ⟨this.symm,Int.fmod_nonneg_of_pos a (by omega),Int.fmod_lt_of_pos a (by omega)⟩
theorem lD {a m q e B:Int} (h:a=m*q+e) (h0:0≤e) (h1:e<m) (hB:0≤B) (ha:a≤B*m) (hb:-(B*m)≤a):-B≤q∧q≤B:=by
 constructor
 ·apply Classical.byContradiction
  intro z
  have:=Int.mul_le_mul_of_nonneg_left (show q≤-B - 1 by omega) (show 0≤m by omega)
  rw [Int.mul_sub,Int.mul_neg,Int.mul_comm m B,Int.mul_one] at this
  omega
 ·apply Classical.byContradiction
  intro z
  have:=Int.mul_le_mul_of_nonneg_left (show B+1≤q by omega) (show 0≤m by omega)
  rw [Int.mul_add,Int.mul_comm m B,Int.mul_one] at this
  omega
theorem p8 {a m q e:Int} (hm:1≤m) (h:a=m*q+e) (h1:e<m) (ha:0≤a):0≤q:=by
 apply Classical.byContradiction
 intro z
 have:=Int.mul_le_mul_of_nonneg_left (show q≤-1 by omega) (show 0≤m by omega)
 omega
theorem jW {w m q e:Int} (hm:1≤m) (h:w=m*q+e) (h0:0≤e) (h1:e<m):q.natAbs≤w.natAbs:=by
 by_cases hq:0≤q
 ·have:=Int.mul_le_mul_of_nonneg_right hm hq
  omega
 ·have:=Int.mul_le_mul_of_nonneg_right hm (show 0≤-(q+1) by omega)
  have e2:m * -(q+1)=-(m*q) - m:=by rw [Int.mul_neg,Int.mul_add,Int.mul_one]; omega
  rw [e2] at this
  omega
theorem lC {m a b e f:Int} (h:m*a+e=m*b+f) (e0:0≤e) (e1:e<m) (f0:0≤f) (f1:f<m):a=b:=by
 have key:∀ {x y u v:Int},m*x+u=m*y+v→0≤u→v<m→¬ y<x:=fun {x y u v} h u0 v1 hz=>by
  have:=Int.mul_le_mul_of_nonneg_left (show y+1≤x by omega) (show 0≤m by omega)
  rw [Int.mul_add,Int.mul_one] at this
  omega
 have k1:=key h e0 f1
 have k2:=key h.symm f0 e1
 omega
theorem nj {k:Kd} {n:Int} {p:Nat} (hn:k.ok n) (h:p≤1000):(k.rat n p).natAbs≤1100:=by
 obtain ⟨b1,b2⟩:=xw hn
 cases k <;> simp only [Kd.rat] <;> omega
def Quo (k:Kd) (n:Int) (r:List Int) (m:Int) (qs:List Int) (e:Int):Prop:=
 qs.length=r.length∧(∀ z∈qs,-6000≤z∧z≤6000)∧(k=.falling→∀ z∈qs,0≤z∧z≤30)∧0≤e∧e<m∧(zt k n r).re=m*(zt k n qs).re+e
def nZ (k:Kd) (n:Int) (r:List Int) (m:Int):Prop:=k.ok n∧Legal k n r∧(r.length≤500∧(k=.falling→r.length≤200))∧1≤m∧m.natAbs<2 ^ 9000
def Fg (k:Kd) (n:Int) (r:List Int):Prop:=∀ p,p<r.length→k.low n p≤r.getD p 0∧r.getD p 0≤k.high n p
theorem Fg.put {k:Kd} {n:Int} {r:List Int} (hn:k.ok n) (h:Fg k n r) (j:Nat):Fg k n (r.set j 0):=fun p hp=>by
 rw [List.length_set] at hp
 by_cases q:j=p
 ·subst q
  rw [yq hp]
  exact tK hn j
 ·rw [yp q]
  exact h p hp
def Fl (k:Kd) (n:Int) (r:List Int) (i:Nat):Prop:=k.isF=true→∀ q:Nat,r.length≤q+1+i→q+1<r.length→r.getD (q+1) 0=n→r.getD q 0=0
theorem Fl.put {k:Kd} {n:Int} {r:List Int} {i j:Nat} (hn:k.ok n) (h:Fl k n r i) (hj:j+i<r.length):Fl k n (r.set j 0) i:=fun hk q h1 h2 h3=>by
 rw [List.length_set] at h1 h2
 by_cases e:j=q
 ·subst e; rw [yq (by omega)]
 ·rw [yp e]
  by_cases e2:j=q+1
  ·subst e2
   rw [yq (by omega)] at h3
   have:=hn.1
   cases k <;> simp only [Kd.lo] at this <;> first | omega | cases hk
  ·rw [yp e2] at h3
   exact h hk q h1 h2 h3
theorem Fg.snoc {k:Kd} {n f:Int} {r:List Int} {i:Nat} (hlr:r.length=i) (hp:∀ p,p<i→k.low n p≤r.getD p 0∧r.getD p 0≤k.high n p) (hf:k.low n i≤f∧f≤k.high n i):
  ∃ r':List Int,r.map Dt.int++[.int f]=r'.map Dt.int∧r'.length=i+1∧∀ p,p<i+1→k.low n p≤r'.getD p 0∧r'.getD p 0≤k.high n p:=by
 refine ⟨r++[f],by rw [List.map_append]; rfl,by rw [List.length_append,hlr]; rfl,fun p hp'=>?_⟩
 rcases (by omega:p<i∨p=i) with z | z
 ·rw [zH (by omega)]
  exact hp p z
 ·subst z
  rw [← hlr,getD_snoc_eq,hlr]
  exact hf
def uO:DSp:=fun ds Q=>∃ z,ds=[.int z]∧∀ r:Int,0≤r→Q (.int r)
def jD:DSp:=fun ds Q=>∃ z,ds=[.int z]∧∀ k n,Kd.ok k n→Q (.tup [.int (Kd.num k),.int n])
def oZ:DSp:=fun ds Q=>∃ k n,∃ p:Nat,ds=[.int (Kd.num k),.int n,.int p]∧Kd.ok k n∧Q (.tup [.int (k.low n p),.int (k.high n p)])
def nX:DSp:=fun ds Q=>∃ k n cs,ds=[.int (Kd.num k),.int n,zB cs]∧Kd.ok k n∧cs.length≤1000∧∀ r,Legal k n r→r.length≤cs.length→Q (zB r)
def jF:DSp:=fun ds Q=>∃ k n r,ds=[.int (Kd.num k),.int n,zB r]∧Kd.ok k n∧Legal k n r∧r.length≤1000∧Q (.bl true)
def nS:DSp:=fun ds Q=>∃ k n,∃ j:Nat,∃ lo:Dt,ds=[.int (Kd.num k),.int n,.int j,(wt k n j).dt,lo]∧Kd.ok k n∧j≤1000∧(k=.falling→lo=.int (wtF n j).1)∧Q (wt k n (j+1)).dt
def o3:DSp:=fun ds Q=>∃ k n r,ds=[.int (Kd.num k),.int n,zB r]∧Kd.ok k n∧r.length≤1000∧bdR r∧Q (zt k n r).dt
theorem kM {k:Kd} {n m:Int} {p:Nat} (hn:k.ok n) (h0:0≤m.fmod 9) (h5:m.fmod 9<5):∃ f,atI [Dt.int 0,.int (k.high n p),.int (k.low n p),.int (k.high n p),.int 1] (m.fmod 9)=some (.int f)∧k.low n p≤f∧f≤k.high n p:=by
 obtain ⟨l1,l2⟩:=tK hn p
 have h1:(1:Int)≤k.high n p:=by
  obtain ⟨a,b⟩:=hn
  cases k <;> simp only [Kd.lo,Kd.hi,Kd.high] at * <;> first | omega | (have:=Int.mul_le_mul a a (by omega) (by omega); omega)
 rcases (by omega:m.fmod 9=0∨m.fmod 9=1∨m.fmod 9=2∨m.fmod 9=3∨m.fmod 9=4) with e | e | e | e | e <;> rw [e]
 ·exact ⟨0,rfl,l1,l2⟩
 ·exact ⟨_,rfl,by omega,Int.le_refl _⟩
 ·exact ⟨_,rfl,Int.le_refl _,by omega⟩
 ·exact ⟨_,rfl,by omega,Int.le_refl _⟩
 ·exact ⟨1,rfl,by omega,h1⟩
def Ok34 (k:Kd) (n:Int) (r:List Int):Prop:=k≠.pairs∧k.ok n∧Legal k n r∧((k≠.falling∧(zt k n r).re.natAbs≤2 ^ 446)∨(k=.falling∧(zt k n r).re≤wf n 63))
theorem WA {k:Kd} {n:Int} {r:List Int} (hk:k≠.pairs):(zt k n r).im=0:=by
 obtain ⟨a,e⟩:=yI hk (zJ k n r)
 rw [e]; rfl
theorem Ok34.len {k:Kd} {n:Int} {r:List Int} (h:Ok34 k n r):r.length≤450∧(k=.falling→r.length≤64):=by
 obtain ⟨hk,hn,hL,hw⟩:=h
 rcases hw with ⟨hf,hw⟩ | ⟨rfl,hw⟩
 ·have h5:k.five=true:=by cases k <;> first | rfl | exact absurd rfl hf
  have:=(mH h5 hn hL ⟨hw,by rw [WA hk]; exact Nat.zero_le _⟩ (by decide)).2 hk
  exact ⟨by omega,fun z=>absurd z hf⟩
 ·rw [uQ] at hw
  have:=kO (M:=63) hn hL hw
  exact ⟨by omega,fun _=>by omega⟩
theorem Ok34.bd {k:Kd} {n:Int} {r:List Int} (h:Ok34 k n r):(zt k n r).re.natAbs<2 ^ 800:=by
 obtain ⟨hk,hn,hL,hw⟩:=h
 rcases hw with ⟨hf,hw⟩ | ⟨rfl,hw⟩
 ·exact Nat.lt_of_le_of_lt hw (Nat.pow_lt_pow_right (by decide) (by decide))
 ·have h0:=hL.lg.nonneg hn.1
  have n1:1≤n:=hn.1
  have n9:n≤9:=hn.2
  have b:=(pJ n1 (show n≤60 by omega) 63).2
  have b:(wf n 63).natAbs<2 ^ (12*63+1):=b
  have e:2 ^ (12*63+1)≤2 ^ 800:=Nat.pow_le_pow_right (by decide) (by decide)
  generalize 2 ^ 800=X at *
  generalize 2 ^ (12 * 63 + 1)=Y at *
  omega
theorem Ok34.quo {k:Kd} {n m e:Int} {r s:List Int} (h:Ok34 k n r) (hs:Legal k n s) (hm:1≤m) (e0:0≤e) (e1:e<m) (hw:(zt k n r).re=m*(zt k n s).re+e):Ok34 k n s:=by
 obtain ⟨hk,hn,hL,hb⟩:=h
 have q:=jW hm hw e0 e1
 refine ⟨hk,hn,hs,?_⟩
 rcases hb with ⟨hf,hb⟩ | ⟨rfl,hb⟩
 ·exact .inl ⟨hf,Nat.le_trans q hb⟩
 ·have a:=hL.lg.nonneg hn.1
  have b:=hs.lg.nonneg hn.1
  exact .inr ⟨rfl,by omega⟩
theorem Ok34.start {k:Kd} {n:Int} {r:List Int} (hk:k≠.pairs) (hn:k.ok n) (hL:Legal k n r) (hl:r.length≤63):Ok34 k n r:=by
 refine ⟨hk,hn,hL,?_⟩
 by_cases hf:k=.falling
 ·subst hf
  have n1:1≤n:=hn.1
  have a:=Lg.lt n1 r.length r rfl hL.lg
  have b:=uR n1 r.length (63 - r.length)
  rw [show r.length+(63 - r.length)=63 by omega] at b
  exact .inr ⟨rfl,by omega⟩
 ·have h5:k.five=true:=by cases k <;> first | rfl | exact absurd rfl hf
  have h4:=vj h5 hk
  have a:=(kC h4 hn (fun p=>(V7 hn hL hl p).1) r.length 0 (by omega)).1
  rw [← kD h5] at a
  exact .inl ⟨hf,Nat.le_trans a (Nat.pow_le_pow_right (by decide) (by omega))⟩
theorem dO {a b c d e f z:Int} (P:Int→Prop) (h:P a∧P b∧P c∧P d∧P e∧P f):∃ m,atI [Dt.int a,.int b,.int c,.int d,.int e,.int f] (z.fmod 6)=some (.int m)∧P m:=by
 have a0:=Int.fmod_nonneg_of_pos z (show (0:Int)<6 by decide)
 have a1:=Int.fmod_lt_of_pos z (show (0:Int)<6 by decide)
 obtain ⟨h1,h2,h3,h4,h5,h6⟩:=h
 rcases (by omega:z.fmod 6=0∨z.fmod 6=1∨z.fmod 6=2∨z.fmod 6=3∨z.fmod 6=4∨z.fmod 6=5) with e | e | e | e | e | e <;> rw [e]
 ·exact ⟨_,rfl,h1⟩
 ·exact ⟨_,rfl,h2⟩
 ·exact ⟨_,rfl,h3⟩
 ·exact ⟨_,rfl,h4⟩
 ·exact ⟨_,rfl,h5⟩
 ·exact ⟨_,rfl,h6⟩
theorem mi (s:List Int):(s.map Dt.int).all uZ=true:=by
 rw [List.all_eq_true]
 intro d hd
 obtain ⟨z,_,rfl⟩:=List.mem_map.mp hd
 rfl
structure Adr where
 Plain:Addr
 Below:Addr
 Balanced:Addr
 Growing:Addr
 Falling:Addr
 Pairs:Addr
 TooLess:Addr
structure Txt (K:PySem.W.Frag) (mg:Str→Option Value) (A:Adr):Prop where
 kt:eK K
 isinstance:mg "isinstance"=none
 n_int:mg "int"=none
 n_bool:mg "bool"=none
 n_tuple:mg "tuple"=none
 n_list:mg "list"=none
 len:mg "len"=none
 range:mg "range"=none
 n_enumerate:mg "enumerate"=none
 n_min:mg "min"=none
 n_max:mg "max"=none
 n_abs:mg "abs"=none
 UN:Cls K A.Plain
 Tq:NoAttr K A.Plain "base"
 UO:Cls K A.Below
 Tr:NoAttr K A.Below "base"
 UM:Cls K A.Balanced
 Tf:NoAttr K A.Balanced "half"
 UP:Cls K A.Growing
 Ts:NoAttr K A.Growing "first"
 UE:Cls K A.Falling
 UG:NoAttr K A.Falling "most"
 UH:Cls K A.Pairs
 UQ:NoAttr K A.Pairs "most"
 UZ:mg "Falling"=some (.ref A.Falling)
 Sw:mg "Pairs"=some (.ref A.Pairs)
 Sx:uk K A.Plain
 U3:PySem.W.kitOne K (.ref A.Plain) (.ref A.Falling)=some false
 U4:PySem.W.kitOne K (.ref A.Plain) (.ref A.Pairs)=some false
 Sy:uk K A.Below
 U5:PySem.W.kitOne K (.ref A.Below) (.ref A.Falling)=some false
 U6:PySem.W.kitOne K (.ref A.Below) (.ref A.Pairs)=some false
 Sz:uk K A.Balanced
 U7:PySem.W.kitOne K (.ref A.Balanced) (.ref A.Falling)=some false
 U8:PySem.W.kitOne K (.ref A.Balanced) (.ref A.Pairs)=some false
 SA:uk K A.Growing
 U9:PySem.W.kitOne K (.ref A.Growing) (.ref A.Falling)=some false
 U_:PySem.W.kitOne K (.ref A.Growing) (.ref A.Pairs)=some false
 Sv:uk K A.Falling
 UX:PySem.W.kitOne K (.ref A.Falling) (.ref A.Falling)=some true
 Ta:PySem.W.kitOne K (.ref A.Falling) (.ref A.Pairs)=some false
 SB:uk K A.Pairs
 Tb:PySem.W.kitOne K (.ref A.Pairs) (.ref A.Falling)=some false
 Tc:PySem.W.kitOne K (.ref A.Pairs) (.ref A.Pairs)=some true
 SC:mg "TooLess"=some (.ref A.TooLess)
 Td:ExcK K A.TooLess
 Tg:dE K A.TooLess
 Th:PySem.W.kitOne K (.ref A.TooLess) (.ref A.TooLess)=some true
def Adr.at (A:Adr):Kd→Addr
 | .plain=>A.Plain | .below=>A.Below | .balanced=>A.Balanced | .growing=>A.Growing | .falling=>A.Falling | .pairs=>A.Pairs
def zL (A:Adr) (k:Kd) (n:Int):Dt:=.way (A.at k) k.fld n
def xz (A:Adr) (k:Kd) (g:Int→Int→Int):DSp:=fun ds Q=>∃ n p,ds=[zL A k n,.int p]∧k.ok n∧Q (.int (g n p))
def wD (A:Adr) (k:Kd) (g:Int→Int→Nm):DSp:=fun ds Q=>∃ n p,ds=[zL A k n,.int p]∧k.ok n∧Q (g n p).dt
def YN:DSp:=fun ds Q=>∃ o p,ds=[o,p]∧Q (.int 0)
def Vq:DSp:=fun ds Q=>∃ o,ds=[o]∧Q (.int 0)
def Vp:DSp:=fun ds Q=>∃ o,ds=[o]∧Q (.tup [.int 0,.int 0])
def Vr (k:Kd):DSp:=fun ds Q=>∃ o,ds=[o]∧Q k.zero.dt
theorem qS {K:PySem.W.Frag} {mg:Str→Option Value} {A:Adr} (T:Txt K mg A) (k:Kd):uk K (A.at k):=by
 cases k
 ·exact T.Sx
 ·exact T.Sy
 ·exact T.Sz
 ·exact T.SA
 ·exact T.Sv
 ·exact T.SB
theorem kiF {K:PySem.W.Frag} {mg:Str→Option Value} {A:Adr} (T:Txt K mg A) (k:Kd):PySem.W.kitOne K (.ref (A.at k)) (.ref A.Falling)=some k.isF:=by
 cases k
 ·exact T.U3
 ·exact T.U5
 ·exact T.U7
 ·exact T.U9
 ·exact T.UX
 ·exact T.Tb
def dB (A:Adr):DSp:=fun ds Q=>∃ k n r,ds=[zL A k n,zB r]∧k.ok n∧r.length≤1000∧Q (.bl (qR k n r))
def jH (A:Adr):DSp:=fun ds Q=>∃ k n r,ds=[zL A k n,zB r]∧k.ok n∧r.length≤1000∧∀ b:Bool,(b=true↔∀ p,p<r.length→k.low n p≤r.getD p 0∧r.getD p 0≤k.high n p)→Q (.bl b)
def nU (A:Adr):DSp:=fun ds Q=>∃ n r,ds=[zL A .falling n,zB r]∧Kd.falling.ok n∧r.length≤1000∧∀ b:Bool,(b=true↔∀ p,p+1<r.length→r.getD (p+1) 0=n→r.getD p 0=0)→Q (.bl b)
theorem dk (k:Kd):(("low":Str) == k.fld)=false:=by cases k <;> decide +kernel
theorem kS (k:Kd):(("high":Str) == k.fld)=false:=by cases k <;> decide +kernel
def jz (A:Adr):DSp:=fun ds Q=>∃ k n t j,ds=[zL A k n,.int t,.int ((j:Nat):Int)]∧k.four=true∧k.ok n∧j≤100000∧Q (.tup [.int (sF k n j (.i t)),(sC k n j (.i t)).dt])
def jA (A:Adr):DSp:=fun ds Q=>∃ n d m j,ds=[zL A .pairs n,d,.int ((j:Nat):Int)]∧tI d=some m∧Kd.pairs.ok n∧Q (.tup [.int (sF .pairs n j m),(sC .pairs n j m).dt])
def nQ (A:Adr) (k:Kd):DSp:=fun ds Q=>∃ n m j,ds=[zL A k n,Nm.dt m,.int ((j:Nat):Int)]∧m.ty k∧k.ok n∧j≤100000∧Q (.tup [.int (sF k n j m),(sC k n j m).dt])
theorem fQ (k:Kd):(("split":Str) == k.fld)=false:=by cases k <;> decide +kernel
theorem nG (k:Kd):(("ratio":Str) == k.fld)=false:=by cases k <;> decide +kernel
theorem tQ (k:Kd):(("nought":Str) == k.fld)=false:=by cases k <;> decide +kernel
theorem WK (k:Kd):(("has":Str) == k.fld)=false:=by cases k <;> decide +kernel
def Vs (A:Adr):DSp:=fun ds Q=>∃ k n ts J,ds=[zL A k n,qt ts]∧k.five=true∧k.ok n∧(∀ t∈ts,tot k t)∧Fin k n ts J∧J≤50000∧Q (.tup [zB (xP k n ts J),.lst (pC k n ts (J+1))])
def ra (A:Adr):DSp:=fun ds Q=>∃ k n ts J,ds=[zL A k n,qt ts]∧k.five=true∧k.ok n∧(∀ t∈ts,tot k t)∧Fin k n ts J∧J≤50000∧Q (zB (mf k n ts J))
def NF (A:Adr) (k:Kd) (R:Addr→Prop):Prop:=False
theorem ku {A:Adr} {k:Kd} {R R':Addr→Prop} (h:∀ C,R C→R' C) (z:NF A k R):NF A k R':=z.elim
def dD (A:Adr):DSp:=fun ds Q=>∃ n s,ds=[zL A .falling n,yJ s]∧Kd.falling.ok n∧(s.1=true→0<s.2)∧Q (.lst ((chg n s).map chD))
def pG (A:Adr):DSp:=fun ds Q=>∃ n l,∃ p:Nat,ds=[zL A .falling n,zB l,.int p]∧Kd.falling.ok n∧p<l.length∧Q (Xm (yl n (hf l) p))
def nR (A:Adr):DSp:=fun ds Q=>∃ n l s,ds=[zL A .falling n,zB l,yJ s]∧Kd.falling.ok n∧s.2<l.length∧Can n s (hf l)∧∀ m:Int,1≤m→Oft n s (hf l) m→Q (.int m)
def Vu (A:Adr):ASp:=fun d0 es0 ds Q=>∃ n l s m,d0=zL A .falling n∧es0=l.map Dt.int∧ds=[yJ s,.int m]∧Kd.falling.ok n∧(s.1=true→0<s.2)∧s.2≤5000∧∀ l',l'.length=max l.length (s.2+2)→(∀ i,hf l' i=hf l i+m*dlt n s i)→Q (l'.map Dt.int)
def nW (A:Adr):y9:=fun ds Q R=>∃ k n h,ds=[zL A k n,zB h]∧k.ok n∧(NF A k R∨(k=.falling∧(∃ z∈h,z<0)∧R A.TooLess)∨(k=.falling∧(∀ z∈h,0≤z)∧Q .non))
def dz (A:Adr):y9:=fun ds Q R=>∃ k n h,ds=[zL A k n,zB h]∧k.ok n∧h.length≤1000∧(NF A k R∨(k=.falling∧(∃ z∈h,z<0)∧R A.TooLess)∨(k=.falling∧(∀ z∈h,0≤z)∧pot n h≤15000000∧∀ ss r,Vx n h ss r→Q (.tup [.lst (ss.map yJ),zB r])))
def rd (A:Adr):y9:=fun ds Q R=>∃ k n h,ds=[zL A k n,zB h]∧k.ok n∧h.length≤1000∧(NF A k R∨(k=.falling∧(∃ z∈h,z<0)∧R A.TooLess)∨(k=.falling∧(∀ z∈h,0≤z)∧pot n h≤15000000∧∀ ss r,Vx n h ss r→Q (zB r)))
def jG (A:Adr):DSp:=fun ds Q=>∃ k n,∃ rs:List (List Int),ds=[zL A k n,.lst (rs.map zB)]∧k.ok n∧(∀ r∈rs,Legal k n r∧r.length≤1000)∧Q .non
def jx (A:Adr):DSp:=fun ds Q=>∃ k n ts b,ds=[zL A k n,qt ts]∧k.ok n∧ts.length≤900∧(∀ t∈ts,tot k t)∧(∀ t∈ts,t.re.natAbs≤2 ^ b∧t.im.natAbs≤2 ^ b)∧7≤b∧b≤1000∧(tm k→0≤(xA k n ts).re)∧(k=.falling→∃ h,ts=h.map Nm.i∧(∀ z∈h,0≤z)∧pot n h≤15000000)∧∀ r,Legal k n r→zt k n r=xA k n ts→r.length≤ts.length+4*b+60→Q (zB r)
theorem kiP {K:PySem.W.Frag} {mg:Str→Option Value} {A:Adr} (T:Txt K mg A) (k:Kd):PySem.W.kitOne K (.ref (A.at k)) (.ref A.Pairs)=some (match k with | .pairs=>true | _=>false):=by
 cases k
 ·exact T.U4
 ·exact T.U6
 ·exact T.U8
 ·exact T.U_
 ·exact T.Ta
 ·exact T.Tc
def jB (A:Adr):DSp:=fun ds Q=>∃ k n r m,ds=[zL A k n,zB r,.int m]∧k.four=true∧nZ k n r m∧∀ qs e,Quo k n r m qs e→Q (.tup [zB qs,.int e])
def jC (A:Adr):DSp:=fun ds Q=>∃ n r m,ds=[zL A .falling n,zB r,.int m]∧nZ .falling n r m∧∀ qs e,Quo .falling n r m qs e→Q (.tup [zB qs,.int e])
def dA (A:Adr):DSp:=fun ds Q=>∃ k n r m,ds=[zL A k n,zB r,.int m]∧k≠.pairs∧nZ k n r m∧∀ qs e,Quo k n r m qs e→Q (.tup [zB qs,.int e])
def pH (A:Adr):DSp:=fun ds Q=>∃ k n r m,ds=[zL A k n,zB r,.int m]∧k≠.pairs∧nZ k n r m∧∀ s e,Legal k n s→s.length≤700→0≤e→e<m→(zt k n r).re=m*(zt k n s).re+e→Q (.tup [zB s,.int e])
def jy (A:Adr):DSp:=fun ds Q=>∃ k n,ds=[.int (Kd.num k),.int n]∧k.ok n∧Q (zL A k n)
theorem Wx (i:Int):∃ k:Kd,k.num=i.fmod 6:=by
 have a0:=Int.fmod_nonneg_of_pos i (show (0:Int)<6 by decide)
 have a1:=Int.fmod_lt_of_pos i (show (0:Int)<6 by decide)
 rcases (by omega:i.fmod 6=0∨i.fmod 6=1∨i.fmod 6=2∨i.fmod 6=3∨i.fmod 6=4∨i.fmod 6=5) with e | e | e | e | e | e <;> rw [e]
 ·exact ⟨.plain,rfl⟩
 ·exact ⟨.below,rfl⟩
 ·exact ⟨.balanced,rfl⟩
 ·exact ⟨.growing,rfl⟩
 ·exact ⟨.falling,rfl⟩
 ·exact ⟨.pairs,rfl⟩
def rb (A:Adr):DSp:=fun ds Q=>∃ k n r m,ds=[.int (Kd.num k),.int n,zL A k n,zB r,.int m]∧Ok34 k n r∧1≤m∧m.natAbs<2 ^ 9000∧∀ s,Ok34 k n s→Q (zB s)
section
variable {P:Program} {w:World} {K:PySem.W.Frag} {mg:Str→Option Value} {base:Heap} {f:Addr} {fd:FuncData} {A:Adr}
abbrev wc:Stmt:=top 52
theorem rn:zg ["_law_cell"] ["_law_cell"] (defScope wc):=by walk_at "sc"
theorem rH (T:Txt K mg A) (F:Fun K "_law_mixed" "_law_mixed" wc f fd):FnOk P w K mg base CX0 1 f fd ["_law_cell"] (zq K (uO)):=by
 refine okD F rn (by walk_at "ln") fun _ _ _ _ _ _ hr ds Q h=>?_
 obtain ⟨z,rfl,q⟩:=h
 refine ⟨_,(ze (zj (zh yB (zh z4 (dv 0) zc) zc))),?_⟩
 walk_at "rd"
 exact q _ (Int.fmod_nonneg_of_pos _ (by decide))
abbrev wU:Stmt:=top 53
theorem sc_law_pick:zg ["_law_cell","_law_mixed_here","_law_kind","_law_rest","_law_some"] ["_law_cell"] (defScope wU):=by walk_at "sc"
theorem qJ (T:Txt K mg A) (G__law_mixed:DOk P w K mg base 1 "_law_mixed" (uO)) (F:Fun K "_law_pick" "_law_pick" wU f fd):FnOk P w K mg base CX0 2 f fd ["_law_cell"] (zq K (jD)):=by
 refine okD F sc_law_pick (by walk_at "ln") fun _ _ _ _ _ _ hr ds Q h=>?_
 obtain ⟨z,rfl,q⟩:=h
 refine ⟨_,(zd (zp (i:=1) sc_law_pick.nd rfl (Or.inl rfl) (zl G__law_mixed (hr.mono (by decide)) rfl (za (dv 0) zf)))
 (zd (zp (i:=2) sc_law_pick.nd rfl (Or.inl rfl) (zh yB (dv 1) zc))
 (zd (zp (i:=3) sc_law_pick.nd rfl (Or.inl rfl) (zh xp (dv 1) zc))
 (zd (zp (i:=4) sc_law_pick.nd rfl (Or.inl rfl) (zh yB (zh xp (dv 3) zc) zc))
 (zV (zx (zo (yr hr) (zh yB (dv 3) zc) zc (zm _)) (ze (zp (i:=4) sc_law_pick.nd rfl (Or.inl rfl) (zh yB (zh xp (dv 3) zc) zc))) zn)
 (zd (zx (zo (yr hr) (dv 2) zc (zm _)) (ze (zj (zy (za (dv 2) (za (zh zC zc (zh yB (dv 4) zc)) zf))))) zn)
 (zd (zx (zo (rR) (dv 2) zc (zm _)) (ze (zj (zy (za (dv 2) (za (zh zC zc (zh yB (dv 4) zc)) zf))))) zn)
 (ze (zj (zy (za (dv 2) (za (zh zC zc (dv 4)) zf)))))))))))),?_⟩
 refine ⟨_,rfl,z,rfl,fun m hm=>?_⟩
 obtain ⟨k,hk⟩:=Wx m
 walk_at "rd"
 dsimp only
 rw [← hk]
 refine ⟨fun ρ=>∃ s:Int,ρ=[.some (.int z),.some (.int m),.some (.int k.num),.some (.int (m.fdiv 6)),.some (.int s)]∧0≤s∧s≤58,?_,?_⟩
 ·have b0:=Int.fmod_nonneg_of_pos ((m.fdiv 6).fdiv 2) (show (0:Int)<59 by decide)
  have b1:=Int.fmod_lt_of_pos ((m.fdiv 6).fdiv 2) (show (0:Int)<59 by decide)
  have c0:=Int.fmod_nonneg_of_pos ((m.fdiv 6).fdiv 2) (show (0:Int)<3 by decide)
  have c1:=Int.fmod_lt_of_pos ((m.fdiv 6).fdiv 2) (show (0:Int)<3 by decide)
  walk_at "rd"
  refine ifB (fun _=>?_) (fun _=>⟨_,rfl,by omega,by omega⟩)
  walk_at "rd"
  exact ⟨by omega,by omega⟩
 ·rintro ρ ⟨s,rfl,s0,s1⟩
  have c0:=Int.fmod_nonneg_of_pos s (show (0:Int)<30 by decide)
  have c1:=Int.fmod_lt_of_pos s (show (0:Int)<30 by decide)
  have d0:=Int.fmod_nonneg_of_pos s (show (0:Int)<9 by decide)
  have d1:=Int.fmod_lt_of_pos s (show (0:Int)<9 by decide)
  cases k
  all_goals walk_at "rd"
  ·exact q .plain _ ⟨by show (2:Int)≤_; omega,by show _≤(60:Int); omega⟩
  ·exact q .below _ ⟨by show (2:Int)≤_; omega,by show _≤(60:Int); omega⟩
  ·exact q .balanced _ ⟨by show (1:Int)≤_; omega,by show _≤(30:Int); omega⟩
  ·exact q .growing _ ⟨by show (2:Int)≤_; omega,by show _≤(60:Int); omega⟩
  ·exact q .falling _ ⟨by show (1:Int)≤_; omega,by show _≤(9:Int); omega⟩
  ·exact q .pairs _ ⟨by show (1:Int)≤_; omega,by show _≤(9:Int); omega⟩
abbrev xj:Stmt:=top 51
theorem u4:zg ["_law_script","_law_k"] ["_law_script","_law_k"] (defScope xj):=by walk_at "sc"
theorem tD (T:Txt K mg A) (F:Fun K "_law_cell_at" "_law_cell_at" xj f fd):FnOk P w K mg base CX0 1 f fd ["_law_script","_law_k"] (zq K (jI)):=by
 refine okD F u4 (by walk_at "ln") fun _ _ _ _ _ _ hr ds Q h=>?_
 obtain ⟨ns,k,rfl,hk,q⟩:=h
 refine ⟨_,(zd (zx (zo (sH) (dv 1) (yD rfl T.len (dv 0)) (zm _)) (ze (zj (zr (dv 0) (dv 1) (fun _ _=>rfl)))) zn)
 (ze (zj zc))),?_⟩
 walk_at "rd"
 refine Wy (fun hlt=>?_) (fun _=>q 0)
 have hlt:k<(ns.map Dt.int).length:=of_decide_eq_true hlt
 rw [List.length_map] at hlt
 exact ⟨_,rfl,_,rfl,_,_,_,rfl,rfl,vt hk hlt,q _⟩
abbrev wW:Stmt:=top 11
theorem qD:zg ["value"] ["value"] (defScope wW):=by walk_at "sc"
theorem qL (T:Txt K mg A) (F:Fun K "is_whole" "is_whole" wW f fd):FnOk P w K mg base CX0 1 f fd ["value"] (zq K (yU)):=by
 refine okD F qD (by walk_at "ln") fun _ _ _ _ _ _ hr ds Q h=>?_
 obtain ⟨d,b,rfl,hw,q⟩:=h
 refine ⟨_,(ze (zj (tV (xS (T:=.int) T.kt T.isinstance T.n_int PyProof.Rows.boot_int (dv 0)) (qd (Yx (xS (T:=.bool) T.kt T.isinstance T.n_bool PyProof.Rows.boot_bool (dv 0))))))),?_⟩
 cases d <;> cases hw
 all_goals
  walk_at "rd"
  exact q
abbrev vJ:Stmt:=top 17
theorem pY:zg ["number","least","most"] ["number","least","most"] (defScope vJ):=by walk_at "sc"
theorem oq (T:Txt K mg A) (G_is_whole:DOk P w K mg base 1 "is_whole" (yU)) (F:Fun K "bounded" "bounded" vJ f fd):FnOk P w K mg base CX0 2 f fd ["number","least","most"] (zq K (yE)):=by
 refine okD F pY (by walk_at "ln") fun _ _ _ _ _ _ hr ds Q h=>?_
 obtain ⟨n,lo,hi,rfl,h1,h2,q⟩:=h
 refine ⟨_,(zd (zx (DW.dt (xW (yN (zP (zl G_is_whole (hr.mono (by decide)) rfl (za (dv 0) zf)))) (xW (zo (sH) (dv 0) (dv 1) (zm _)) (w9 (zo (rR) (dv 0) (dv 2) (zm _)))))) (ze y7) zn)
 (ze (zj (dv 0)))),?_⟩
 walk_at "rd"
 rw [decide_eq_false (by omega:¬ n<lo)]
 walk_at "rd"
 rw [decide_eq_false (by omega:¬ hi<n)]
 walk_at "rd"
 exact q
abbrev yO:Stmt:=inClass (top 19) 0
theorem se:zg ["self","base"] ["self","base"] (defScope yO):=by walk_at "sc"
theorem sx (T:Txt K mg A) (G_bounded:DOk P w K mg base 2 "bounded" (yE)) (F:Fun K "__init__" "Plain.__init__" yO f fd):FnOk P w K mg base CX0 3 f fd ["self","base"] (xb A.Plain "base" (Kd.ok .plain)):=by
 refine wH F se T.UN T.Tq (fun cdv A outer s H E hr=>?_)
 obtain ⟨te,p,l⟩:=((zl G_bounded (hr.mono (by decide)) rfl (za (dv 1) (za zc (za zc zf)))):DE (yn CX0 P w K mg base ["self","base"] "Plain.__init__" (defScope yO) f cdv A outer s H E).nox _ _)
 refine ⟨te,_,xK (vO (pv 0) p rfl),l,fun i hi=>?_⟩
 exact ⟨_,rfl,_,_,_,rfl,hi.1,hi.2,rfl⟩
abbrev yQ:Stmt:=inClass (top 20) 0
theorem sk:zg ["self","base"] ["self","base"] (defScope yQ):=by walk_at "sc"
theorem sE (T:Txt K mg A) (G_bounded:DOk P w K mg base 2 "bounded" (yE)) (F:Fun K "__init__" "Below.__init__" yQ f fd):FnOk P w K mg base CX0 3 f fd ["self","base"] (xb A.Below "base" (Kd.ok .below)):=by
 refine wH F sk T.UO T.Tr (fun cdv A outer s H E hr=>?_)
 obtain ⟨te,p,l⟩:=((zl G_bounded (hr.mono (by decide)) rfl (za (dv 1) (za zc (za zc zf)))):DE (yn CX0 P w K mg base ["self","base"] "Below.__init__" (defScope yQ) f cdv A outer s H E).nox _ _)
 refine ⟨te,_,xK (vO (pv 0) p rfl),l,fun i hi=>?_⟩
 exact ⟨_,rfl,_,_,_,rfl,hi.1,hi.2,rfl⟩
abbrev yj:Stmt:=inClass (top 21) 0
theorem vA:zg ["self","half"] ["self","half"] (defScope yj):=by walk_at "sc"
theorem vQ (T:Txt K mg A) (G_bounded:DOk P w K mg base 2 "bounded" (yE)) (F:Fun K "__init__" "Balanced.__init__" yj f fd):FnOk P w K mg base CX0 3 f fd ["self","half"] (xb A.Balanced "half" (Kd.ok .balanced)):=by
 refine wH F vA T.UM T.Tf (fun cdv A outer s H E hr=>?_)
 obtain ⟨te,p,l⟩:=((zl G_bounded (hr.mono (by decide)) rfl (za (dv 1) (za zc (za zc zf)))):DE (yn CX0 P w K mg base ["self","half"] "Balanced.__init__" (defScope yj) f cdv A outer s H E).nox _ _)
 refine ⟨te,_,xK (vO (pv 0) p rfl),l,fun i hi=>?_⟩
 exact ⟨_,rfl,_,_,_,rfl,hi.1,hi.2,rfl⟩
abbrev yt:Stmt:=inClass (top 22) 0
theorem um:zg ["self","first"] ["self","first"] (defScope yt):=by walk_at "sc"
theorem uw (T:Txt K mg A) (G_bounded:DOk P w K mg base 2 "bounded" (yE)) (F:Fun K "__init__" "Growing.__init__" yt f fd):FnOk P w K mg base CX0 3 f fd ["self","first"] (xb A.Growing "first" (Kd.ok .growing)):=by
 refine wH F um T.UP T.Ts (fun cdv A outer s H E hr=>?_)
 obtain ⟨te,p,l⟩:=((zl G_bounded (hr.mono (by decide)) rfl (za (dv 1) (za zc (za zc zf)))):DE (yn CX0 P w K mg base ["self","first"] "Growing.__init__" (defScope yt) f cdv A outer s H E).nox _ _)
 refine ⟨te,_,xK (vO (pv 0) p rfl),l,fun i hi=>?_⟩
 exact ⟨_,rfl,_,_,_,rfl,hi.1,hi.2,rfl⟩
abbrev yu:Stmt:=inClass (top 23) 0
theorem uq:zg ["self","most"] ["self","most"] (defScope yu):=by walk_at "sc"
theorem uy (T:Txt K mg A) (G_bounded:DOk P w K mg base 2 "bounded" (yE)) (F:Fun K "__init__" "Falling.__init__" yu f fd):FnOk P w K mg base CX0 3 f fd ["self","most"] (xb A.Falling "most" (Kd.ok .falling)):=by
 refine wH F uq T.UE T.UG (fun cdv A outer s H E hr=>?_)
 obtain ⟨te,p,l⟩:=((zl G_bounded (hr.mono (by decide)) rfl (za (dv 1) (za zc (za zc zf)))):DE (yn CX0 P w K mg base ["self","most"] "Falling.__init__" (defScope yu) f cdv A outer s H E).nox _ _)
 refine ⟨te,_,xK (vO (pv 0) p rfl),l,fun i hi=>?_⟩
 exact ⟨_,rfl,_,_,_,rfl,hi.1,hi.2,rfl⟩
abbrev yP:Stmt:=inClass (top 24) 0
theorem sh:zg ["self","most"] ["self","most"] (defScope yP):=by walk_at "sc"
theorem sA (T:Txt K mg A) (G_bounded:DOk P w K mg base 2 "bounded" (yE)) (F:Fun K "__init__" "Pairs.__init__" yP f fd):FnOk P w K mg base CX0 3 f fd ["self","most"] (xb A.Pairs "most" (Kd.ok .pairs)):=by
 refine wH F sh T.UH T.UQ (fun cdv A outer s H E hr=>?_)
 obtain ⟨te,p,l⟩:=((zl G_bounded (hr.mono (by decide)) rfl (za (dv 1) (za zc (za zc zf)))):DE (yn CX0 P w K mg base ["self","most"] "Pairs.__init__" (defScope yP) f cdv A outer s H E).nox _ _)
 refine ⟨te,_,xK (vO (pv 0) p rfl),l,fun i hi=>?_⟩
 exact ⟨_,rfl,_,_,_,rfl,hi.1,hi.2,rfl⟩
abbrev vG:Stmt:=top 54
theorem pW:zg ["_law_kind","_law_by"] ["_law_kind","_law_by"] (defScope vG):=by walk_at "sc"
theorem ol (T:Txt K mg A) (Tt:KOk P w K mg base 3 "Plain" A.Plain "base" (Kd.ok .plain)) (Tu:KOk P w K mg base 3 "Below" A.Below "base" (Kd.ok .below)) (Tv:KOk P w K mg base 3 "Balanced" A.Balanced "half" (Kd.ok .balanced)) (Tw:KOk P w K mg base 3 "Growing" A.Growing "first" (Kd.ok .growing)) (Tx:KOk P w K mg base 3 "Falling" A.Falling "most" (Kd.ok .falling)) (Ty:KOk P w K mg base 3 "Pairs" A.Pairs "most" (Kd.ok .pairs)) (F:Fun K "_law_way" "_law_way" vG f fd):FnOk P w K mg base CX0 5 f fd ["_law_kind","_law_by"] (zq K (jy A)):=by
 refine okD F pW (by walk_at "ln") fun _ _ _ _ _ _ hr ds Q h=>?_
 obtain ⟨k,n,rfl,hn,q⟩:=h
 refine ⟨_,(zd (zx (zo (yr hr) (dv 0) zc (zm _)) (ze (zj (wL Tt (hr.mono (by decide)) rfl (za (dv 1) zf)))) zn)
 (zd (zx (zo (yr hr) (dv 0) zc (zm _)) (ze (zj (wL Tu (hr.mono (by decide)) rfl (za (dv 1) zf)))) zn)
 (zd (zx (zo (yr hr) (dv 0) zc (zm _)) (ze (zj (wL Tv (hr.mono (by decide)) rfl (za (dv 1) zf)))) zn)
 (zd (zx (zo (yr hr) (dv 0) zc (zm _)) (ze (zj (wL Tw (hr.mono (by decide)) rfl (za (dv 1) zf)))) zn)
 (zd (zx (zo (yr hr) (dv 0) zc (zm _)) (ze (zj (wL Tx (hr.mono (by decide)) rfl (za (dv 1) zf)))) zn)
 (ze (zj (wL Ty (hr.mono (by decide)) rfl (za (dv 1) zf))))))))),?_⟩
 cases k
 all_goals
  walk_at "rd"
  exact ⟨hn,q⟩
abbrev wT:Stmt:=top 55
theorem qB:zg ["_law_kind","_law_by","_law_place"] ["_law_kind","_law_by","_law_place"] (defScope wT):=by walk_at "sc"
theorem qI (T:Txt K mg A) (F:Fun K "_law_span" "_law_span" wT f fd):FnOk P w K mg base CX0 1 f fd ["_law_kind","_law_by","_law_place"] (zq K (oZ)):=by
 refine okD F qB (by walk_at "ln") fun _ _ _ _ _ _ hr ds Q h=>?_
 obtain ⟨k,n,p,rfl,hn,q⟩:=h
 refine ⟨_,(zd (zx (zo (yr hr) (dv 0) zc (zm _)) (ze (zj (zy (za (zh zN zc (dv 1)) (za (dv 1) zf))))) zn)
 (zd (zx (zo (yr hr) (dv 0) zc (zm _)) (ze (zj (zy (za zc (za (zh zN (zh zC (dv 1) (dv 2)) zc) zf))))) zn)
 (zd (zx (zo (yr hr) (dv 0) zc (zm _)) (ze (zj (zy (za zc (za (dv 1) zf))))) zn)
 (zd (zx (zo (yr hr) (dv 0) zc (zm _)) (ze (zj (zy (za zc (za (zh z4 (dv 1) (dv 1)) zf))))) zn)
 (ze (zj (zy (za zc (za (zh zN (dv 1) zc) zf))))))))),?_⟩
 obtain ⟨b1,b2⟩:=xw hn
 have e0:(0:Int) - n=-n:=by omega
 cases k
 all_goals
  repeat (first | (walk_at "rd1") | refine ⟨small (by omega) (by omega) _,?_⟩)
  first
  | exact q
  | (dsimp only; rw [e0]; exact q)
abbrev xi:Stmt:=top 56
theorem sc_law_figures:zg ["_law_kind","_law_by","_law_cells","_law_row","_law_place","_law_mixed_here","_law_low","_law_high","_law_some"] ["_law_kind","_law_by","_law_cells"] (defScope xi):=by walk_at "sc"
theorem tx (T:Txt K mg A) (G__law_mixed:DOk P w K mg base 1 "_law_mixed" (uO)) (G__law_span:DOk P w K mg base 1 "_law_span" (oZ)) (F:Fun K "_law_figures" "_law_figures" xi f fd):FnOk P w K mg base CX0 2 f fd ["_law_kind","_law_by","_law_cells"] (zq K (nX)):=by
 refine okD F sc_law_figures (by walk_at "ln") fun _ _ _ _ _ _ hr ds Q h=>?_
 obtain ⟨k,n,cs,rfl,hn,hl,q⟩:=h
 refine ⟨_,(zd (yT (i:=3) sc_law_figures.nd rfl (Or.inl rfl) (w_ zf))
 (zd (uL (j:=4) rfl sc_law_figures.nd rfl (Or.inl rfl) PassesOwn.never rfl T.range (yD rfl T.len (dv 2)) (zd (zp (i:=5) sc_law_figures.nd rfl (Or.inl rfl) (zl G__law_mixed (hr.mono (by decide)) rfl (za (zr (dv 2) (dv 4) (fun _ _=>rfl)) zf)))
 (zd (oR (i:=6) (j:=7) rfl sc_law_figures.nd rfl rfl (Or.inl rfl) (Or.inl rfl) (zl G__law_span (hr.mono (by decide)) rfl (za (dv 0) (za (dv 1) (za (dv 4) zf)))))
 (zd (zp (i:=8) sc_law_figures.nd rfl (Or.inl rfl) (va (za zc (za (dv 7) (za (dv 6) (za (dv 7) (za zc zf)))))))
 (ze (zx (zo (sH) (zh yB (dv 5) zc) zc (zm _)) (ze (xR 3 (zr (dv 8) (zh yB (dv 5) zc) (fun _ _=>rfl)))) (ze (xR 3 (zh zC (dv 6) (zh yB (zh xp (dv 5) zc) (zh zC (zh zN (dv 7) (dv 6)) zc)))))))))))
 (zd (rZ (j:=4) rfl sc_law_figures.nd rfl (Or.inl rfl) PassesOwn.never rfl T.range (za (zh zN (wM 3 rfl T.len) zc) (za zc (za (ya zc) zf))) (ze (zx (DW.dt (yy (zo (yr hr) (dv 0) zc (zm _)) (yx (zo (yr hr) (oS 3 (dv 4) (fun _ _=>rfl)) (dv 1) (zm _))))) (ze (Ys 3 (zh zN (dv 4) zc) zc)) zn)))
 (zd (wy PassesOwn.never (DW.dt (yy (zo (rR) (wM 3 rfl T.len) zc (zm _)) (yx (zo (yr hr) (oS 3 (ya zc) (fun _ _=>rfl)) zc (zm _))))) (ze (kY 3)))
 (ze (uJ 3)))))),?_⟩
 have ll:=zA cs
 walk_at "rd"
 refine ⟨_,fun i ρ=>∃ (r:List Int) (v4 v5 v6 v7 v8:Sl),ρ=[.some (.int k.num),.some (.int n),.some (zB cs),.own (r.map Dt.int),v4,v5,v6,v7,v8]∧r.length=i∧∀ p,p<i→k.low n p≤r.getD p 0∧r.getD p 0≤k.high n p,rfl,by omega,by omega,⟨[],_,_,_,_,_,rfl,rfl,fun p hp=>absurd hp (Nat.not_lt_zero _)⟩,?_,?_⟩
 ·rintro i ρ' hi ⟨r,v4,v5,v6,v7,v8,rfl,hlr,hp⟩
  have hi':i<cs.length:=by omega
  refine ⟨_,rfl,_,rfl,_,_,_,rfl,rfl,xo hi',_,rfl,fun m hm=>?_⟩
  refine ⟨_,rfl,_,rfl,_,rfl,k,n,i,rfl,hn,_,_,rfl,?_⟩
  have m0:=Int.fmod_nonneg_of_pos m (show (0:Int)<9 by decide)
  obtain ⟨l1,l2⟩:=tK hn i
  walk_at "rd"
  refine ifB (fun h=>?_) (fun h=>?_)
  ·obtain ⟨f,ef,hf⟩:=kM hn m0 (of_decide_eq_true h) (p:=i)
   refine ⟨_,rfl,_,rfl,_,rfl,_,_,rfl,rfl,du (by decide),_,_,_,rfl,rfl,ef,by rw [zA]; omega,?_⟩
   obtain ⟨r',e1,e2,e3⟩:=Fg.snoc hlr hp hf
   exact ⟨r',_,_,_,_,_,by rw [e1]; rfl,e2,e3⟩
  ·have hp0:(0:Int)<k.high n i - k.low n i+1:=by omega
   have f0:=Int.fmod_nonneg_of_pos (m.fdiv 9) hp0
   have f1:=Int.fmod_lt_of_pos (m.fdiv 9) hp0
   walk_at "rd"
   refine ⟨(by show k.high n i - k.low n i+1≠0; omega),?_⟩
   walk_at "rd"
   refine ⟨by rw [zA]; omega,?_⟩
   obtain ⟨r',e1,e2,e3⟩:=Fg.snoc hlr hp (f:=k.low n i+(m.fdiv 9).fmod (k.high n i - k.low n i+1)) ⟨by omega,by omega⟩
   exact ⟨r',_,_,_,_,_,by rw [← e1]; rfl,e2,e3⟩
 ·rintro ρ' ⟨r0,v4,v5,v6,v7,v8,rfl,hl0,hp0⟩
  rw [Int.toNat_natCast,ll] at hl0 hp0
  have hF0:Fg k n r0:=fun p hp=>hp0 p (by omega)
  have l0:=zA r0
  walk_at "rd"
  refine ⟨_,_,fun i ρ=>∃ (r:List Int) (v4:Sl),ρ=[.some (.int k.num),.some (.int n),.some (zB cs),.own (r.map Dt.int),v4,v5,v6,v7,v8]∧r.length=r0.length∧Fg k n r∧Fl k n r i,rfl,by omega,by omega,by decide,by decide,⟨r0,_,rfl,rfl,hF0,fun _ q h1 h2=>by omega⟩,?_,?_⟩
  ·rintro i ρ' hi ⟨r,v4,rfl,hr1,hF,hL⟩
   have lr:=zA r
   obtain ⟨p,hp⟩:∃ p:Nat,p+i+1=r0.length:=⟨r0.length - 1 - i,by omega⟩
   have ep:((List.map Dt.int r0).length:Int) - 1 - i=p:=by omega
   rw [ep]
   have h0:0<p:=by omega
   have done:(k.isF=true→r.getD p 0≠n∨r.getD (p - 1) 0=0)→Fl k n r (i+1):=fun hz hk q h1 h2 h3=>by
    rcases (by omega:r.length≤q+1+i∨q+1=p) with z | z
    ·exact hL hk q z h2 h3
    ·subst z
     rcases hz hk with hz | hz
     ·exact absurd h3 hz
     ·exact hz
   by_cases hk:k=.falling
   ·subst hk
    refine ⟨_,rfl,rfl,rfl,_,rfl,ifT rfl ?_⟩
    refine ⟨_,rfl,_,rfl,_,_,rfl,vt (by omega) (by omega),_,rfl,rfl,rfl,_,rfl,?_⟩
    rw [Int.toNat_natCast]
    refine ifB (fun h4=>?_) (fun h4=>⟨r,_,rfl,hr1,hF,done fun _=>.inl (rO h4)⟩)
    refine ⟨_,rfl,_,rfl,_,_,rfl,rfl,_,_,rfl,fI (by omega) (by rw [zA]; omega),?_⟩
    have e1:((p:Int) - 1).toNat=p - 1:=by omega
    rw [e1,qy]
    refine ⟨r.set (p - 1) 0,_,rfl,by rw [List.length_set]; exact hr1,hF.put hn _,fun hk q h1 h2 h3=>?_⟩
    rw [List.length_set] at h1 h2
    rcases (by omega:r.length≤q+1+i∨q+1=p) with z | z
    ·exact (hL.put hn (show p - 1+i<r.length by omega)) hk q (by rw [List.length_set]; exact z) (by rw [List.length_set]; exact h2) h3
    ·subst z
     exact yq (by omega)
   ·have en:eqD (.int k.num) (.int 4)=false:=by cases k <;> first | rfl | exact absurd rfl hk
    exact ⟨_,rfl,rfl,rfl,_,rfl,ifF en (ifF rfl ⟨r,_,rfl,hr1,hF,done fun h=>absurd (by cases k <;> first | rfl | cases h) hk⟩)⟩
  ·rintro ρ' ⟨r,v4,rfl,hr1,hF,hL⟩
   refine pL rfl ?_
   have:=x_ r
   have hg:Lg k n r:=⟨hF,fun hk q h1 h2=>hL hk q (by omega) h1 h2⟩
   exact ⟨_,rfl,q _ hg.trim (by omega)⟩
abbrev wV:Stmt:=top 58
theorem qC:zg ["_law_kind","_law_by","_law_place","_law_here","_law_lower"] ["_law_kind","_law_by","_law_place","_law_here","_law_lower"] (defScope wV):=by walk_at "sc"
theorem qK (T:Txt K mg A) (F:Fun K "_law_next" "_law_next" wV f fd):FnOk P w K mg base CX0 1 f fd ["_law_kind","_law_by","_law_place","_law_here","_law_lower"] (zq K (nS)):=by
 refine okD F qC (by walk_at "ln") fun _ _ _ _ _ _ hr ds Q h=>?_
 obtain ⟨k,n,j,lo,rfl,hn,hj,hlo,q⟩:=h
 refine ⟨_,(zd (zx (zo (yr hr) (dv 0) zc (zm _)) (ze (zj (zy (za (zh zN (zh zN zc (zh z4 (dv 1) (zr (dv 3) zc (fun _ _=>rfl)))) (zr (dv 3) zc (fun _ _=>rfl))) (za (zh zN (zr (dv 3) zc (fun _ _=>rfl)) (zh z4 (dv 1) (zr (dv 3) zc (fun _ _=>rfl)))) zf))))) zn)
 (zd (zx (zo (yr hr) (dv 0) zc (zm _)) (ze (zj (zh zC (zh z4 (dv 1) (dv 3)) (dv 4)))) zn)
 (zd (zx (zo (yr hr) (dv 0) zc (zm _)) (ze (zj (zh z4 (zh zC (dv 1) (dv 2)) (dv 3)))) zn)
 (ze (zj (zh z4 (zr (va (za (dv 1) (za (zh zN zc (dv 1)) (za (zh zC (zh z4 zc (dv 1)) zc) zf)))) (dv 0) (fun _ _=>rfl)) (dv 3))))))),?_⟩
 obtain ⟨b1,b2⟩:=xw hn
 have e0:(0:Int) - n=-n:=by omega
 cases k with
 | falling=>
  obtain rfl:=hlo rfl
  repeat (first | (walk_at "rd1") | refine ⟨xC (by omega) (by omega) _,?_⟩)
  exact q
 | pairs=>
  obtain ⟨x,y,e⟩:=wt2 (n:=n) j
  have e:wt .pairs n j=.p x y:=e
  have eq_:wt .pairs n (j+1)=.p (0 - n*x - y) (x - n*y):=by
   rw [yi rfl,e]
   show Nm.p (-n*x - 1*y) (-n*y+1*x)=_
   congr 1 <;> grind
  rw [eq_] at q
  rw [e]
  repeat (first | (walk_at "rd1") | refine ⟨xC (by omega) (by omega) _,?_⟩)
  exact q
 | growing=>
  obtain ⟨x,e⟩:=wtI (k:=.growing) (n:=n) (fun h=>nomatch h) j
  have eq_:wt .growing n (j+1)=.i ((n+j)*x):=by
   rw [yi rfl,e]
   rfl
  rw [eq_] at q
  rw [e]
  repeat (first | (walk_at "rd1") | refine ⟨xC (by omega) (by omega) _,?_⟩)
  exact q
 | plain=>
  obtain ⟨x,e⟩:=wtI (k:=.plain) (n:=n) (fun h=>nomatch h) j
  have eq_:wt .plain n (j+1)=.i (n*x):=by
   rw [yi rfl,e]
   rfl
  rw [eq_] at q
  rw [e]
  repeat (first | (walk_at "rd1") | refine ⟨xC (by omega) (by omega) _,?_⟩)
  exact q
 | below=>
  obtain ⟨x,e⟩:=wtI (k:=.below) (n:=n) (fun h=>nomatch h) j
  have eq_:wt .below n (j+1)=.i ((0 - n)*x):=by
   rw [yi rfl,e,e0]
   rfl
  rw [eq_] at q
  rw [e]
  repeat (first | (walk_at "rd1") | refine ⟨xC (by omega) (by omega) _,?_⟩)
  exact q
 | balanced=>
  obtain ⟨x,e⟩:=wtI (k:=.balanced) (n:=n) (fun h=>nomatch h) j
  have eq_:wt .balanced n (j+1)=.i ((2*n+1)*x):=by
   rw [yi rfl,e]
   rfl
  rw [eq_] at q
  rw [e]
  repeat (first | (walk_at "rd1") | refine ⟨xC (by omega) (by omega) _,?_⟩)
  exact q
abbrev xE:Stmt:=top 59
theorem sc_law_number:zg ["_law_kind","_law_by","_law_row","_law_here","_law_total","_law_lower","_law_place","_law_ahead"] ["_law_kind","_law_by","_law_row"] (defScope xE):=by walk_at "sc"
theorem sv (T:Txt K mg A) (G__law_next:DOk P w K mg base 1 "_law_next" (nS)) (F:Fun K "_law_number" "_law_number" xE f fd):FnOk P w K mg base CX0 2 f fd ["_law_kind","_law_by","_law_row"] (zq K (o3)):=by
 refine okD F sc_law_number (by walk_at "ln") fun _ _ _ _ _ _ hr ds Q h=>?_
 obtain ⟨k,n,r,rfl,hn,hl,hb,q⟩:=h
 refine ⟨_,(zd (zp (i:=3) sc_law_number.nd rfl (Or.inl rfl) zc)
 (zd (zp (i:=4) sc_law_number.nd rfl (Or.inl rfl) zc)
 (zV (zx (zo (yr hr) (dv 0) zc (zm _)) (zd (zp (i:=3) sc_law_number.nd rfl (Or.inl rfl) (zy (za zc (za zc zf))))
 (ze (zp (i:=4) sc_law_number.nd rfl (Or.inl rfl) (zy (za zc (za zc zf)))))) zn)
 (zd (zp (i:=5) sc_law_number.nd rfl (Or.inl rfl) zc)
 (zd (uL (j:=6) rfl sc_law_number.nd rfl (Or.inl rfl) PassesOwn.never rfl T.range (yD rfl T.len (dv 2)) (zV (zx (zo (yr hr) (dv 0) zc (zm _)) (ze (zp (i:=4) sc_law_number.nd rfl (Or.inl rfl) (zy (za (zh zC (zr (dv 4) zc (fun _ _=>rfl)) (zh z4 (zr (dv 2) (dv 6) (fun _ _=>rfl)) (zr (dv 3) zc (fun _ _=>rfl)))) (za (zh zC (zr (dv 4) zc (fun _ _=>rfl)) (zh z4 (zr (dv 2) (dv 6) (fun _ _=>rfl)) (zr (dv 3) zc (fun _ _=>rfl)))) zf))))) (ze (zp (i:=4) sc_law_number.nd rfl (Or.inl rfl) (zh zC (dv 4) (zh z4 (zr (dv 2) (dv 6) (fun _ _=>rfl)) (dv 3))))))
 (zd (zp (i:=7) sc_law_number.nd rfl (Or.inl rfl) (dv 3))
 (zd (zp (i:=3) sc_law_number.nd rfl (Or.inl rfl) (zl G__law_next (hr.mono (by decide)) rfl (za (dv 0) (za (dv 1) (za (dv 6) (za (dv 3) (za (dv 5) zf)))))))
 (ze (zp (i:=5) sc_law_number.nd rfl (Or.inl rfl) (dv 7)))))))
 (ze (zj (dv 4)))))))),?_⟩
 have ll:=zA r
 refine ⟨fun ρ=>ρ=[.some (.int k.num),.some (.int n),.some (zB r),.some (wt k n 0).dt,.some (yk k n r 0).dt,.none,.none,.none],?_,?_⟩
 ·by_cases hk:k=.pairs
  ·subst hk
   exact ⟨_,rfl,rfl,rfl,_,rfl,ifT rfl ⟨rfl,rfl,rfl⟩⟩
  ·refine ⟨_,rfl,rfl,rfl,_,rfl,ifF (by cases k <;> first | rfl | exact absurd rfl hk) ?_⟩
   cases k <;> first | rfl | exact absurd rfl hk
 rintro ρ rfl
 refine ⟨_,rfl,_,rfl,_,fun i ρ=>∃ lo v6 v7,ρ=[.some (.int k.num),.some (.int n),.some (zB r),.some (wt k n i).dt,.some (yk k n r i).dt,.some lo,v6,v7]∧(k=.falling→lo=.int (wtF n i).1),rfl,by rw [ll]; omega,by rw [ll]; omega,⟨_,_,_,rfl,fun _=>rfl⟩,?_,?_⟩
 ·rintro i ρ' hi ⟨lo,v6,v7,rfl,hlo⟩
  have hi':i<r.length:=by omega
  have wb:=YT hn (j:=i) (by omega)
  have m1:IntMulOk (r.getD i 0) (wt k n i).re:=ou (nO hb i) wb.1 (by omega)
  have m2:IntMulOk (r.getD i 0) (wt k n i).im:=ou (nO hb i) wb.2 (by omega)
  refine ⟨fun ρ=>ρ=[.some (.int k.num),.some (.int n),.some (zB r),.some (wt k n i).dt,.some (yk k n r (i+1)).dt,.some lo,.some (.int i),v7],?_,?_⟩
  ·by_cases hk:k=.pairs
   ·subst hk
    obtain ⟨x,y,ew⟩:=wt2 (n:=n) i
    obtain ⟨a,b,es⟩:=wsP (n:=n) (ns:=r) i
    have ew:wt .pairs n i=.p x y:=ew
    have est:yk .pairs n r (i+1)=.p (a+r.getD i 0*x) (b+r.getD i 0*y):=by
     unfold yk
     rw [es,ew]
     show Nm.p (a+(r.getD i 0*x - 0*y)) (b+(r.getD i 0*y+0*x))=_
     congr 1 <;> omega
    rw [ew] at m1 m2
    rw [ew,es,est]
    refine ⟨_,rfl,rfl,rfl,_,rfl,ifT rfl ?_⟩
    walk_at "rd"
    refine ⟨_,_,_,rfl,rfl,xo hi',?_⟩
    walk_at "rd"
    refine ⟨m1,?_⟩
    walk_at "rd"
    refine ⟨_,_,_,rfl,rfl,xo hi',?_⟩
    walk_at "rd"
    refine ⟨m2,?_⟩
    walk_at "rd"
    rfl
   ·obtain ⟨x,ew⟩:=wtI (n:=n) hk i
    obtain ⟨a,es⟩:=wsI (n:=n) (ns:=r) hk i
    have est:yk k n r (i+1)=.i (a+r.getD i 0*x):=by
     unfold yk
     rw [es,ew]
     rfl
    rw [ew] at m1
    rw [ew,es,est]
    refine ⟨_,rfl,rfl,rfl,_,rfl,ifF (by cases k <;> first | rfl | exact absurd rfl hk) ?_⟩
    exact ⟨_,rfl,_,rfl,_,rfl,_,_,_,rfl,rfl,xo hi',_,rfl,_,_,rfl,rfl,m1,_,_,rfl,rfl,rfl⟩
  ·rintro ρ rfl
   refine ⟨_,rfl,_,rfl,_,rfl,_,rfl,_,rfl,_,rfl,k,n,i,lo,rfl,hn,by omega,hlo,?_⟩
   refine ⟨_,rfl,_,_,_,rfl,fun hk=>?_⟩
   subst hk
   rfl
 ·rintro ρ' ⟨lo,v6,v7,rfl,_⟩
  rw [Int.toNat_natCast,ll]
  exact ⟨_,rfl,q⟩
abbrev zD:Stmt:=top 41
theorem sc_has_mosts_above_noughts_alone:zg ["way","row","place"] ["way","row"] (defScope zD):=by walk_at "sc"
theorem yv (T:Txt K mg A) (F:Fun K "has_mosts_above_noughts_alone" "has_mosts_above_noughts_alone" zD f fd):FnOk P w K mg base CX0 1 f fd ["way","row"] (zq K (nU A)):=by
 refine okD F sc_has_mosts_above_noughts_alone (by walk_at "ln") fun _ _ _ _ _ _ hr ds Q h=>?_
 obtain ⟨n,r,rfl,hn,hl,q⟩:=h
 refine ⟨_,(zd (kZ (j:=2) rfl sc_has_mosts_above_noughts_alone.nd rfl (Or.inl rfl) PassesOwn.never rfl T.range (za zc (za (yD rfl T.len (dv 1)) zf)) (ze (zx (DW.dt (yy (zo (yr hr) (zr (dv 1) (dv 2) (fun _ _=>rfl)) (zG (dv 0)) (zm _)) (yx (zo (rQ hr) (zr (dv 1) (zh zN (dv 2) zc) (fun _ _=>rfl)) zc (zm _))))) (ze (zj wz)) zn)))
 (ze (zj wz))),?_⟩
 walk_at "rd"
 have ll:=zA r
 refine ⟨_,_,fun i ρ=>∃ v,ρ=[.some (zL A .falling n),.some (zB r),v]∧∀ p:Nat,p<i→r.getD (p+1) 0=n→r.getD p 0=0,rfl,by decide,by decide,by omega,by omega,⟨_,rfl,fun p hp=>absurd hp (Nat.not_lt_zero _)⟩,?_,?_⟩
 ·rintro i ρ' hi ⟨v,rfl,hp⟩
  rw [ll] at hi
  have e1:(1+(i:Int)).toNat=i+1:=by omega
  have e2:(1+(i:Int) - 1).toNat=i:=by omega
  refine ⟨_,rfl,_,rfl,_,_,_,rfl,rfl,vt (by omega) (by omega),_,rfl,_,_,_,rfl,rfl,T.UE,T.UG,rfl,rfl,_,rfl,?_⟩
  rw [e1]
  refine ifB (fun h=>?_) (fun h=>ifF rfl ?_)
  ·refine ⟨_,rfl,_,rfl,_,_,rfl,rfl,_,_,_,rfl,rfl,vt (by omega) (by omega),rfl,rfl,_,rfl,?_⟩
   rw [e2]
   refine ifB (fun h'=>?_) (fun h'=>?_)
   ·refine q false ⟨fun z=>(Bool.false_ne_true z).elim,fun z=>?_⟩
    exact absurd (z i (by omega) (rP h)) (rO (Xu h'))
   ·refine ⟨.some (.int (1+i)),rfl,fun p hp'=>?_⟩
    rcases (by omega:p<i∨p=i) with z | z
    ·exact hp p z
    ·subst z
     exact fun _=>rP (Xv h')
  ·refine ⟨.some (.int (1+i)),rfl,fun p hp'=>?_⟩
   rcases (by omega:p<i∨p=i) with z | z
   ·exact hp p z
   ·subst z
    exact fun z=>absurd z (rO h)
 ·rintro ρ' ⟨v,rfl,hp⟩
  rw [ll] at hp
  exact q true ⟨fun _ p hp'=>hp p (by omega),fun _=>rfl⟩
abbrev vL:Stmt:=inClass (top 18) 1
theorem p5:zg ["self","place"] ["self","place"] (defScope vL):=by walk_at "sc"
theorem y3 (T:Txt K mg A) (F:Fun K "low" "Way.low" vL f fd):FnOk P w K mg base CX0 1 f fd ["self","place"] (zq K (YN)):=by
 refine okD F p5 (by walk_at "ln") fun _ _ _ _ _ _ hr ds Q h=>?_
 obtain ⟨o,p,rfl,q⟩:=h
 refine ⟨_,(ze (zj zc)),?_⟩
 exact q
abbrev y0:Stmt:=inClass (top 21) 1
theorem ut:zg ["self","place"] ["self","place"] (defScope y0):=by walk_at "sc"
theorem uA (T:Txt K mg A) (F:Fun K "low" "Balanced.low" y0 f fd):FnOk P w K mg base CX0 1 f fd ["self","place"] (zq K (xz A .balanced (Kd.low .balanced))):=by
 refine okD F ut (by walk_at "ln") fun _ _ _ _ _ _ hr ds Q h=>?_
 obtain ⟨n,p,rfl,hn,q⟩:=h
 refine ⟨_,(ze (zj (ya (zG (dv 0))))),?_⟩
 exact ⟨_,rfl,_,_,_,rfl,rfl,T.UM,T.Tf,_,rfl,q⟩
abbrev xH:Stmt:=inClass (top 19) 1
theorem sf:zg ["self","place"] ["self","place"] (defScope xH):=by walk_at "sc"
theorem sy (T:Txt K mg A) (F:Fun K "high" "Plain.high" xH f fd):FnOk P w K mg base CX0 1 f fd ["self","place"] (zq K (xz A .plain (Kd.high .plain))):=by
 refine okD F sf (by walk_at "ln") fun _ _ _ _ _ _ hr ds Q h=>?_
 obtain ⟨n,p,rfl,hn,q⟩:=h
 refine ⟨_,(ze (zj (zh zN (zG (dv 0)) zc))),?_⟩
 exact ⟨_,rfl,_,_,_,rfl,rfl,T.UN,T.Tq,_,_,rfl,rfl,q⟩
abbrev xJ:Stmt:=inClass (top 20) 1
theorem sr:zg ["self","place"] ["self","place"] (defScope xJ):=by walk_at "sc"
theorem sG (T:Txt K mg A) (F:Fun K "high" "Below.high" xJ f fd):FnOk P w K mg base CX0 1 f fd ["self","place"] (zq K (xz A .below (Kd.high .below))):=by
 refine okD F sr (by walk_at "ln") fun _ _ _ _ _ _ hr ds Q h=>?_
 obtain ⟨n,p,rfl,hn,q⟩:=h
 refine ⟨_,(ze (zj (zh zN (zG (dv 0)) zc))),?_⟩
 exact ⟨_,rfl,_,_,_,rfl,rfl,T.UO,T.Tr,_,_,rfl,rfl,q⟩
abbrev yM:Stmt:=inClass (top 21) 2
theorem vB:zg ["self","place"] ["self","place"] (defScope yM):=by walk_at "sc"
theorem vR (T:Txt K mg A) (F:Fun K "high" "Balanced.high" yM f fd):FnOk P w K mg base CX0 1 f fd ["self","place"] (zq K (xz A .balanced (Kd.high .balanced))):=by
 refine okD F vB (by walk_at "ln") fun _ _ _ _ _ _ hr ds Q h=>?_
 obtain ⟨n,p,rfl,hn,q⟩:=h
 refine ⟨_,(ze (zj (zG (dv 0)))),?_⟩
 exact ⟨_,rfl,_,_,_,rfl,rfl,T.UM,T.Tf,q⟩
abbrev yY:Stmt:=inClass (top 22) 1
theorem uo:zg ["self","place"] ["self","place"] (defScope yY):=by walk_at "sc"
theorem ux (T:Txt K mg A) (F:Fun K "high" "Growing.high" yY f fd):FnOk P w K mg base CX0 1 f fd ["self","place"] (zq K (xz A .growing (Kd.high .growing))):=by
 refine okD F uo (by walk_at "ln") fun _ _ _ _ _ _ hr ds Q h=>?_
 obtain ⟨n,p,rfl,hn,q⟩:=h
 refine ⟨_,(ze (zj (zh zN (zh zC (zG (dv 0)) (dv 1)) zc))),?_⟩
 exact ⟨_,rfl,_,_,_,rfl,rfl,T.UP,T.Ts,_,rfl,_,_,rfl,rfl,_,_,rfl,rfl,q⟩
abbrev yZ:Stmt:=inClass (top 23) 1
theorem ur:zg ["self","place"] ["self","place"] (defScope yZ):=by walk_at "sc"
theorem uz (T:Txt K mg A) (F:Fun K "high" "Falling.high" yZ f fd):FnOk P w K mg base CX0 1 f fd ["self","place"] (zq K (xz A .falling (Kd.high .falling))):=by
 refine okD F ur (by walk_at "ln") fun _ _ _ _ _ _ hr ds Q h=>?_
 obtain ⟨n,p,rfl,hn,q⟩:=h
 refine ⟨_,(ze (zj (zG (dv 0)))),?_⟩
 exact ⟨_,rfl,_,_,_,rfl,rfl,T.UE,T.UG,q⟩
abbrev xI:Stmt:=inClass (top 24) 2
theorem si:zg ["self","place"] ["self","place"] (defScope xI):=by walk_at "sc"
theorem sD (T:Txt K mg A) (F:Fun K "high" "Pairs.high" xI f fd):FnOk P w K mg base CX0 1 f fd ["self","place"] (zq K (xz A .pairs (Kd.high .pairs))):=by
 refine okD F si (by walk_at "ln") fun _ _ _ _ _ _ hr ds Q h=>?_
 obtain ⟨n,p,rfl,hn,q⟩:=h
 refine ⟨_,(ze (zj (zh z4 (zG (dv 0)) (zG (dv 0))))),?_⟩
 obtain ⟨h1,h2⟩:=xw hn
 exact ⟨_,rfl,_,_,_,rfl,rfl,T.UH,T.UQ,_,rfl,_,_,_,rfl,rfl,T.UH,T.UQ,_,_,rfl,rfl,small (by omega) (by omega) _,q⟩
abbrev ye:Stmt:=top 40
theorem sc_has_figures_alone:zg ["way","row","place","thing"] ["way","row"] (defScope ye):=by walk_at "sc"
theorem wq (T:Txt K mg A) (HLo:∀ k:Kd,MOk P w K mg base 1 (A.at k) "low" (xz A k (k.low))∧MOk P w K mg base 1 (A.at k) "high" (xz A k (k.high))) (F:Fun K "has_figures_alone" "has_figures_alone" ye f fd):FnOk P w K mg base CX0 2 f fd ["way","row"] (zq K (jH A)):=by
 refine okD F sc_has_figures_alone (by walk_at "ln") fun _ _ _ _ _ _ hr ds Q h=>?_
 obtain ⟨k,n,r,rfl,hn,hl,q⟩:=h
 refine ⟨_,(zd (ua (i:=2) (j:=3) rfl sc_has_figures_alone.nd rfl rfl (Or.inl rfl) (Or.inl rfl) PassesOwn.never rfl T.n_enumerate (za (dv 1) zf) (ze (zx (DW.dt (xW (zo (sH) (dv 3) (xg hr (dv 0) (za (dv 2) zf)) (zm _)) (w9 (zo (rR) (dv 3) (xg hr (dv 0) (za (dv 2) zf)) (zm _))))) (ze (zj wz)) zn)))
 (ze (zj wz))),?_⟩
 obtain ⟨M1,M2⟩:=HLo k
 walk_at "rd"
 refine ⟨_,_,fun i ρ=>∃ v u,ρ=[.some (zL A k n),.some (zB r),v,u]∧∀ p:Nat,p<i→k.low n p≤r.getD p 0∧r.getD p 0≤k.high n p,rfl,rfl,⟨_,_,rfl,fun p hp=>absurd hp (Nat.not_lt_zero _)⟩,?_,?_⟩
 ·rintro i x ρ' hx ⟨v,u,rfl,hp⟩
  obtain ⟨rfl,hi⟩:=kI hx
  refine ⟨_,rfl,_,rfl,_,_,_,_,rfl,dk k,M1.mono (by decide),_,rfl,n,i,rfl,hn,_,_,rfl,rfl,_,rfl,?_⟩
  refine ifB (fun h=>ifT rfl ?_) (fun h=>?_)
  ·refine q false ⟨fun z=>(Bool.false_ne_true z).elim,fun z=>?_⟩
   have:=z i hi
   have h:=of_decide_eq_true h
   omega
  ·refine ⟨_,rfl,_,rfl,_,_,_,_,rfl,kS k,M2.mono (by decide),_,rfl,n,i,rfl,hn,_,_,rfl,rfl,_,rfl,?_⟩
   have h:=of_decide_eq_false h
   refine ifB (fun h'=>?_) (fun h'=>?_)
   ·refine q false ⟨fun z=>(Bool.false_ne_true z).elim,fun z=>?_⟩
    have:=z i hi
    have h':=of_decide_eq_true h'
    omega
   ·have h':=of_decide_eq_false h'
    refine ⟨.some (.int i),.some (.int (r.getD i 0)),rfl,fun p hp'=>?_⟩
    rcases (by omega:p<i∨p=i) with z | z
    ·exact hp p z
    ·subst z
     omega
 ·rintro ρ' ⟨v,u,rfl,hp⟩
  rw [zA] at hp
  exact q true ⟨fun _=>hp,fun _=>rfl⟩
abbrev xF:Stmt:=top 42
theorem t_:zg ["way","row"] ["way","row"] (defScope xF):=by walk_at "sc"
theorem sw (T:Txt K mg A) (G_has_mosts_above_noughts_alone:DOk P w K mg base 1 "has_mosts_above_noughts_alone" (nU A)) (G_has_figures_alone:DOk P w K mg base 2 "has_figures_alone" (jH A)) (F:Fun K "is_writing" "is_writing" xF f fd):FnOk P w K mg base CX0 3 f fd ["way","row"] (zq K (dB A)):=by
 refine okD F t_ (by walk_at "ln") fun _ _ _ _ _ _ hr ds Q h=>?_
 obtain ⟨k,n,r,rfl,hn,hl,q⟩:=h
 refine ⟨_,(zV (zx (DW.dt (yy (Yq (dv 1)) (yx (zo (yr hr) (zr (dv 1) (ya zc) (fun _ _=>rfl)) zc (zm _))))) (ze (zj wz)) zn)
 (zV (zx (DW.dt (yy (zP (wO T.isinstance T.UZ (dv 0))) (yx (yN (zP (zl G_has_mosts_above_noughts_alone (hr.mono (by decide)) rfl (za (dv 0) (za (dv 1) zf)))))))) (ze (zj wz)) zn)
 (ze (zj (zl G_has_figures_alone (hr.mono (by decide)) rfl (za (dv 0) (za (dv 1) zf))))))),?_⟩
 refine ⟨fun ρ=>ρ=[.some (zL A k n),.some (zB r)]∧(r=[]∨r.getD (r.length - 1) 0≠0),?_,?_⟩
 ·walk_at "rd"
  rcases zF r with rfl | ⟨l,z,rfl⟩
  ·exact ifF rfl (ifF rfl ⟨rfl,.inl rfl⟩)
  ·have ez:(l++[z]).getD ((l++[z]).length - 1) 0=z:=by rw [List.length_append]; simp [List.getD_eq_getElem?_getD]
   refine ifT (by simp) ⟨_,rfl,_,rfl,_,_,_,rfl,rfl,wB,rfl,rfl,_,rfl,?_⟩
   by_cases hz:z=0
   ·refine ifT (eqI hz) ?_
    rw [rV (fun L=>by
     rcases L.end_ with h | h
     ·simp at h
     ·rw [ez] at h; exact h hz)] at q
    exact q
   ·refine ifF (neI hz) ⟨rfl,.inr (by rw [ez]; exact hz)⟩
 ·rintro ρ' ⟨rfl,hend⟩
  refine ⟨fun ρ=>ρ=[.some (zL A k n),.some (zB r)]∧(k.isF=true→∀ p,p+1<r.length→r.getD (p+1) 0=n→r.getD p 0=0),?_,?_⟩
  ·refine ⟨_,rfl,_,_,_,_,rfl,qS T k,kiF T k,_,rfl,?_⟩
   cases hk:k.isF with
   | false=>exact ifF rfl (ifF rfl ⟨rfl,fun z=>(Bool.false_ne_true z).elim⟩)
   | true=>
    have ek:k=.falling:=by cases k <;> first | rfl | cases hk
    subst ek
    refine ifT rfl ⟨_,rfl,_,rfl,n,r,rfl,hn,hl,fun b hb=>⟨_,rfl,?_⟩⟩
    cases b with
    | true=>exact ifF rfl ⟨rfl,fun _=>hb.mp rfl⟩
    | false=>
     refine ifT rfl ?_
     rw [rV (fun L=>Bool.false_ne_true (hb.mpr (L.fal rfl)))] at q
     exact q
  ·rintro ρ' ⟨rfl,hf⟩
   refine ⟨_,rfl,_,rfl,k,n,r,rfl,hn,hl,fun b hb=>?_⟩
   cases b with
   | true=>rw [nv ⟨hb.mp rfl,hf,hend⟩] at q; exact q
   | false=>rw [rV (fun L=>Bool.false_ne_true (hb.mpr L.fig))] at q; exact q
abbrev zY:Stmt:=top 43
theorem sc_held_to_be_writings:zg ["way","rows","row"] ["way","rows"] (defScope zY):=by walk_at "sc"
theorem xM (T:Txt K mg A) (G_is_writing:DOk P w K mg base 3 "is_writing" (dB A)) (F:Fun K "held_to_be_writings" "held_to_be_writings" zY f fd):FnOk P w K mg base CX0 4 f fd ["way","rows"] (zq K (jG A)):=by
 refine okD F sc_held_to_be_writings (by walk_at "ln") fun _ _ _ _ _ _ hr ds Q h=>?_
 obtain ⟨k,n,rs,rfl,hn,hrs,q⟩:=h
 refine ⟨_,(ze (k_ (j:=2) rfl sc_held_to_be_writings.nd rfl (Or.inl rfl) PassesOwn.never (dv 1) (ze (zx (yN (zP (zl G_is_writing (hr.mono (by decide)) rfl (za (dv 0) (za (dv 2) zf))))) (ze y7) zn)))),?_⟩
 refine ⟨_,rfl,_,fun i ρ=>∃ v,ρ=[.some (zL A k n),.some (.lst (rs.map zB)),v],rfl,⟨_,rfl⟩,?_,?_⟩
 ·rintro i e ρ' he ⟨v,rfl⟩
  obtain ⟨r,hm,rfl⟩:=List.mem_map.mp (List.mem_of_getElem? he)
  obtain ⟨hL,hl⟩:=hrs r hm
  refine ⟨_,rfl,_,rfl,k,n,r,rfl,hn,hl,_,rfl,?_⟩
  rw [nv hL]
  exact ifF rfl ⟨_,rfl⟩
 ·rintro ρ' ⟨v,rfl⟩
  exact q
abbrev zW:Stmt:=top 47
theorem sc_quotients_in_falling:zg ["way","row","many","quotients","rest","ahead","place","total"] ["way","row","many"] (defScope zW):=by walk_at "sc"
theorem xv (T:Txt K mg A) (F:Fun K "quotients_in_falling" "quotients_in_falling" zW f fd):FnOk P w K mg base CX0 1 f fd ["way","row","many"] (zq K (jC A)):=by
 refine okD F sc_quotients_in_falling (by walk_at "ln") fun _ _ _ _ _ _ hr ds Q h=>?_
 obtain ⟨n,r,m,rfl,⟨hn,hL,⟨hl,hlf⟩,hm,hm2⟩,q⟩:=h
 refine ⟨_,(zd (yT (i:=3) sc_quotients_in_falling.nd rfl (Or.inl rfl) (w_ zf))
 (zd (zp (i:=4) sc_quotients_in_falling.nd rfl (Or.inl rfl) zc)
 (zd (zp (i:=5) sc_quotients_in_falling.nd rfl (Or.inl rfl) zc)
 (zd (rZ (j:=6) rfl sc_quotients_in_falling.nd rfl (Or.inl rfl) PassesOwn.never rfl T.range (za (zh zN (yD rfl T.len (dv 1)) zc) (za (ya zc) (za (ya zc) zf))) (zd (zp (i:=7) sc_quotients_in_falling.nd rfl (Or.inl rfl) (zh zC (zh zC (zr (dv 1) (dv 6) (fun _ _=>rfl)) (zh z4 (zG (dv 0)) (dv 4))) (dv 5)))
 (zV (zx (zo (yr hr) (dv 6) zc (zm _)) (ze (nI (i:=7) kB sc_quotients_in_falling.nd rfl (Or.inl rfl) (dv 4))) zn)
 (zd (xR 3 (zh nr (dv 7) (dv 2)))
 (zd (zp (i:=5) sc_quotients_in_falling.nd rfl (Or.inl rfl) (dv 4))
 (ze (zp (i:=4) sc_quotients_in_falling.nd rfl (Or.inl rfl) (zh yB (dv 7) (dv 2)))))))))
 (zd (kU 3)
 (vp 3 (ze (zj (zy (za (dv 3) (za (dv 4) zf))))))))))),?_⟩
 have ll:=zA r
 have n1:1≤n:=hn.1
 have n9:n≤9:=hn.2
 walk_at "rd"
 refine ⟨_,_,fun i ρ=>∃ (qs:List Int) (e a:Int) (v6 v7:Sl),ρ=[.some (zL A .falling n),.some (zB r),.some (.int m),.own (qs.map Dt.int),.some (.int e),.some (.int a),v6,v7]∧qs.length=i∧(∀ z∈qs,0≤z∧z≤30)∧0≤e∧e<m∧0≤a∧a<m∧(∀ p,p+1+i=r.length→tz n (p+1) (r.drop (p+1))=m*tz n (p+1) qs.reverse+e*wf n (p+1)+a*wf n p)∧(i=r.length→tz n 0 r=m*tz n 0 qs.reverse+e),rfl,by omega,by omega,by decide,by decide,⟨[],0,0,_,_,rfl,rfl,(fun z hz=>nomatch hz),Int.le_refl _,by omega,Int.le_refl _,by omega,fun p hp=>?_,fun hp=>?_⟩,?_,?_⟩
 ·rw [List.drop_of_length_le (by omega)]
  show (0:Int)=m*0+0*_+0*_
  rw [Int.mul_zero,Int.zero_mul,Int.zero_mul]; rfl
 ·rw [List.length_eq_zero_iff.mp hp.symm]
  show (0:Int)=m*0+0
  rw [Int.mul_zero]; rfl
 ·rintro i ρ' hi ⟨qs,e,a,v6,v7,rfl,hq,hb,e0,e1,a0,a1,hw,_⟩
  obtain ⟨p,hp⟩:∃ p:Nat,p+i+1=r.length:=⟨r.length - 1 - i,by omega⟩
  have ep:((List.map Dt.int r).length:Int) - 1 - i=p:=by omega
  rw [ep]
  have hw:=hw p (by omega)
  have hpr:p<r.length:=by omega
  obtain ⟨f1,f2⟩:0≤r.getD p 0∧r.getD p 0≤n:=q9 hn hL p
  have g1:=Int.mul_le_mul_of_nonneg_right n9 e0
  have g0:=Int.mul_nonneg (show 0≤n by omega) e0
  refine ⟨_,rfl,_,rfl,_,_,_,rfl,rfl,xo hpr,_,rfl,_,_,_,rfl,rfl,T.UE,T.UG,_,rfl,_,_,rfl,rfl,xC (by omega) (by omega) _,_,_,rfl,rfl,_,rfl,_,_,rfl,rfl,?_⟩
  dsimp only
  refine ⟨fun ρ=>∃ t:Int,ρ=[.some (zL A .falling n),.some (zB r),.some (.int m),.own (qs.map Dt.int),.some (.int e),.some (.int a),.some (.int p),.some (.int t)]∧t=r.getD p 0+n*e+a+(if p=0 then e else 0),?_,?_⟩
  ·refine ⟨_,rfl,rfl,rfl,_,rfl,ifB (fun h=>?_) (fun h=>?_)⟩
   ·have h:(p:Int)=0:=rP h
    exact ⟨_,rfl,_,rfl,_,_,rfl,rfl,_,rfl,by rw [if_pos (by omega)]⟩
   ·have h:(p:Int)≠0:=rO h
    exact ⟨_,rfl,by rw [if_neg (by omega)]; omega⟩
  rintro ρ ⟨t,rfl,ht⟩
  have ht2:0≤t∧t≤30 * m:=by rw [ht]; split <;> omega
  obtain ⟨d1,d2,d3⟩:=qc t m hm
  have qb:=lD (B:=30) d1 d2 d3 (by decide) ht2.2 (by omega)
  have qn:=p8 hm d1 d3 ht2.1
  refine ⟨_,rfl,_,rfl,_,rfl,_,_,rfl,rfl,dw (by omega) hm2,by rw [zA]; omega,?_⟩
  refine ⟨_,rfl,_,rfl,_,rfl,_,_,rfl,rfl,(by show m≠0; omega),?_⟩
  have eg:r[p]=r.getD p 0:=by rw [List.getD_eq_getElem?_getD,List.getElem?_eq_getElem hpr]; rfl
  refine ⟨qs++[t.fdiv m],t.fmod m,e,_,_,by rw [← vv]; rfl,by rw [List.length_append,hq]; rfl,fun z hz=>?_,d2,d3,e0,e1,fun p' hp'=>?_,fun hp'=>?_⟩
  ·rcases List.mem_append.mp hz with hz | hz
   ·exact hb z hz
   ·rw [List.mem_singleton.mp hz]; exact ⟨qn,qb.2⟩
  ·obtain rfl:p=p'+1:=by omega
   rw [List.drop_eq_getElem_cons hpr,List.reverse_append]
   show r[p'+1]*wf n (p'+1)+tz n (p'+1+1) (r.drop (p'+1+1))=m*(t.fdiv m*wf n (p'+1)+tz n (p'+1+1) qs.reverse)+_+_
   rw [hw,eg,tY]
   rw [if_neg (by omega)] at ht
   generalize t.fdiv m=Y at *
   generalize t.fmod m=Z at *
   generalize r.getD (p' + 1) 0=D at *
   have:D+n*e+a=m*Y+Z:=by omega
   grind
  ·obtain rfl:p=0:=by omega
   rw [if_pos rfl] at ht
   rw [List.reverse_append]
   have er:r=r.getD 0 0::r.drop (0+1):=by rw [← eg,← List.drop_eq_getElem_cons hpr]; rfl
   have e4:tz n 0 r=r.getD 0 0*wf n 0+tz n (0+1) (r.drop (0+1)):=by
    have:tz n 0 (r.getD 0 0::r.drop (0+1))=r.getD 0 0*wf n 0+tz n (0+1) (r.drop (0+1)):=rfl
    rw [← er] at this
    exact this
   rw [e4,hw]
   show _=m*(t.fdiv m*wf n 0+tz n (0+1) qs.reverse)+_
   rw [qo,show wf n (0+1)=n+1 from pM n]
   generalize t.fdiv m=Y at *
   generalize t.fmod m=Z at *
   generalize r.getD 0 0=D at *
   have:D+n*e+a+e=m*Y+Z:=by omega
   grind
 ·rintro ρ' ⟨qs,e,a,v6,v7,rfl,hq,hb,e0,e1,_,_,_,hw⟩
  have e:(((List.map Dt.int r).length:Int) - 1 - (-1)).toNat=r.length:=by omega
  rw [e] at hq hw
  have hw:=hw rfl
  refine ⟨_,rfl,_,rfl,_,rfl,_,rfl,rfl,?_⟩
  rw [← List.map_reverse]
  refine q qs.reverse _ ⟨by rw [List.length_reverse]; exact hq,fun z hz=>?_,fun _ z hz=>hb z (List.mem_reverse.mp hz),e0,e1,?_⟩
  ·have:=hb z (List.mem_reverse.mp hz); omega
  ·rw [uQ,uQ,eN,eN]; exact hw
abbrev xk:Stmt:=inClass (top 19) 2
theorem u5:zg ["self","place"] ["self","place"] (defScope xk):=by walk_at "sc"
theorem tE (T:Txt K mg A) (F:Fun K "ratio" "Plain.ratio" xk f fd):FnOk P w K mg base CX0 1 f fd ["self","place"] (zq K (wD A .plain (Kd.ratN .plain))):=by
 refine okD F u5 (by walk_at "ln") fun _ _ _ _ _ _ hr ds Q h=>?_
 obtain ⟨n,p,rfl,hn,q⟩:=h
 refine ⟨_,(ze (zj (zG (dv 0)))),?_⟩
 exact ⟨_,rfl,_,_,_,rfl,rfl,T.UN,T.Tq,q⟩
abbrev xn:Stmt:=inClass (top 20) 2
theorem u7:zg ["self","place"] ["self","place"] (defScope xn):=by walk_at "sc"
theorem tH (T:Txt K mg A) (F:Fun K "ratio" "Below.ratio" xn f fd):FnOk P w K mg base CX0 1 f fd ["self","place"] (zq K (wD A .below (Kd.ratN .below))):=by
 refine okD F u7 (by walk_at "ln") fun _ _ _ _ _ _ hr ds Q h=>?_
 obtain ⟨n,p,rfl,hn,q⟩:=h
 refine ⟨_,(ze (zj (ya (zG (dv 0))))),?_⟩
 exact ⟨_,rfl,_,_,_,rfl,rfl,T.UO,T.Tr,_,rfl,q⟩
abbrev yC:Stmt:=inClass (top 21) 3
theorem vf:zg ["self","place"] ["self","place"] (defScope yC):=by walk_at "sc"
theorem vg (T:Txt K mg A) (F:Fun K "ratio" "Balanced.ratio" yC f fd):FnOk P w K mg base CX0 1 f fd ["self","place"] (zq K (wD A .balanced (Kd.ratN .balanced))):=by
 refine okD F vf (by walk_at "ln") fun _ _ _ _ _ _ hr ds Q h=>?_
 obtain ⟨n,p,rfl,hn,q⟩:=h
 refine ⟨_,(ze (zj (zh zC (zh z4 zc (zG (dv 0))) zc))),?_⟩
 exact ⟨_,rfl,_,_,_,rfl,rfl,T.UM,T.Tf,_,_,rfl,rfl,Z8 (by decide),_,_,rfl,rfl,q⟩
abbrev yL:Stmt:=inClass (top 22) 2
theorem vz:zg ["self","place"] ["self","place"] (defScope yL):=by walk_at "sc"
theorem vP (T:Txt K mg A) (F:Fun K "ratio" "Growing.ratio" yL f fd):FnOk P w K mg base CX0 1 f fd ["self","place"] (zq K (wD A .growing (Kd.ratN .growing))):=by
 refine okD F vz (by walk_at "ln") fun _ _ _ _ _ _ hr ds Q h=>?_
 obtain ⟨n,p,rfl,hn,q⟩:=h
 refine ⟨_,(ze (zj (zh zC (zG (dv 0)) (dv 1)))),?_⟩
 exact ⟨_,rfl,_,_,_,rfl,rfl,T.UP,T.Ts,_,rfl,_,_,rfl,rfl,q⟩
abbrev xm:Stmt:=inClass (top 24) 3
theorem u6:zg ["self","place"] ["self","place"] (defScope xm):=by walk_at "sc"
theorem tG (T:Txt K mg A) (F:Fun K "ratio" "Pairs.ratio" xm f fd):FnOk P w K mg base CX0 1 f fd ["self","place"] (zq K (wD A .pairs (Kd.ratN .pairs))):=by
 refine okD F u6 (by walk_at "ln") fun _ _ _ _ _ _ hr ds Q h=>?_
 obtain ⟨n,p,rfl,hn,q⟩:=h
 refine ⟨_,(ze (zj (zy (za (ya (zG (dv 0))) (za zc zf))))),?_⟩
 exact ⟨_,rfl,_,_,_,rfl,rfl,T.UH,T.UQ,_,rfl,rfl,q⟩
abbrev z6:Stmt:=top 46
theorem sc_quotients_by_ratio:zg ["way","row","many","quotients","rest","place","total"] ["way","row","many"] (defScope z6):=by walk_at "sc"
theorem xY (T:Txt K mg A) (HR:∀ k:Kd,k.five=true→MOk P w K mg base 1 (A.at k) "ratio" (wD A k (k.ratN))) (F:Fun K "quotients_by_ratio" "quotients_by_ratio" z6 f fd):FnOk P w K mg base CX0 2 f fd ["way","row","many"] (zq K (jB A)):=by
 refine okD F sc_quotients_by_ratio (by walk_at "ln") fun _ _ _ _ _ _ hr ds Q h=>?_
 obtain ⟨k,n,r,m,rfl,h4,⟨hn,hL,⟨hl,hlf⟩,hm,hm2⟩,q⟩:=h
 refine ⟨_,(zd (yT (i:=3) sc_quotients_by_ratio.nd rfl (Or.inl rfl) (w_ zf))
 (zd (zp (i:=4) sc_quotients_by_ratio.nd rfl (Or.inl rfl) zc)
 (zd (rZ (j:=5) rfl sc_quotients_by_ratio.nd rfl (Or.inl rfl) PassesOwn.never rfl T.range (za (zh zN (yD rfl T.len (dv 1)) zc) (za (ya zc) (za (ya zc) zf))) (zd (zp (i:=6) sc_quotients_by_ratio.nd rfl (Or.inl rfl) (zh zC (zr (dv 1) (dv 5) (fun _ _=>rfl)) (zh z4 (xg hr (dv 0) (za (dv 5) zf)) (dv 4))))
 (zd (xR 3 (zh nr (dv 6) (dv 2)))
 (ze (zp (i:=4) sc_quotients_by_ratio.nd rfl (Or.inl rfl) (zh yB (dv 6) (dv 2)))))))
 (zd (kU 3)
 (vp 3 (ze (zj (zy (za (dv 3) (za (dv 4) zf)))))))))),?_⟩
 have ll:=zA r
 walk_at "rd"
 refine ⟨_,_,fun i ρ=>∃ (qs:List Int) (e:Int) (v5 v6:Sl),ρ=[.some (zL A k n),.some (zB r),.some (.int m),.own (qs.map Dt.int),.some (.int e),v5,v6]∧qs.length=i∧(∀ z∈qs,-6000≤z∧z≤6000)∧0≤e∧e<m∧hzn k n (r.length - i) (r.drop (r.length - i))=m*hzn k n (r.length - i) qs.reverse+e,rfl,by omega,by omega,by decide,by decide,⟨[],0,_,_,rfl,rfl,(fun z hz=>nomatch hz),Int.le_refl _,by omega,?_⟩,?_,?_⟩
 ·rw [Nat.sub_zero,List.drop_length]
  show (0:Int)=m*0+0
  rw [Int.mul_zero]; rfl
 ·rintro i ρ' hi ⟨qs,e,v5,v6,rfl,hq,hb,e0,e1,hw⟩
  obtain ⟨p,hp⟩:∃ p:Nat,p+i+1=r.length:=⟨r.length - 1 - i,by omega⟩
  have ep:((List.map Dt.int r).length:Int) - 1 - i=p:=by omega
  rw [ep]
  rw [show r.length - i=p+1 by omega] at hw
  have hpr:p<r.length:=by omega
  have er:(k.ratN n p).dt=.int (k.rat n p):=by cases k <;> first | rfl | cases h4
  obtain ⟨d1,d2,d3⟩:=qc (r.getD p 0+k.rat n p*e) m hm
  have f1:(r.getD p 0).natAbs≤4000:=fO hn hL (by omega) p
  have f2:=ju (nj (p:=p) hn (by omega)) (show e.natAbs≤(m - 1).toNat by omega)
  have rs:=nj (p:=p) hn (by omega)
  refine ⟨_,rfl,_,rfl,_,_,_,rfl,rfl,xo hpr,_,rfl,_,_,_,_,rfl,nG k,(HR k (sS h4)).mono (by decide),_,rfl,n,p,rfl,hn,_,rfl,_,_,er,rfl,xC (by omega) (by omega) _,_,_,rfl,rfl,?_⟩
  dsimp only
  generalize hX:k.rat n p * e=X at *
  have qb:=lD (B:=6000) d1 d2 d3 (by decide) (by omega) (by omega)
  refine ⟨_,rfl,_,rfl,_,rfl,_,_,rfl,rfl,dw (by omega) hm2,by rw [zA]; omega,?_⟩
  refine ⟨_,rfl,_,rfl,_,_,rfl,rfl,(by show m≠0; omega),?_⟩
  refine ⟨qs++[(r.getD p 0+X).fdiv m],(r.getD p 0+X).fmod m,_,_,by rw [← vv]; rfl,by rw [List.length_append,hq]; rfl,fun z hz=>?_,d2,d3,?_⟩
  ·rcases List.mem_append.mp hz with hz | hz
   ·exact hb z hz
   ·rw [List.mem_singleton.mp hz]; exact qb
  ·rw [show r.length - (i+1)=p by omega,List.drop_eq_getElem_cons hpr,List.reverse_append]
   show r[p]+k.rat n p*hzn k n (p+1) (r.drop (p+1))=m*((r.getD p 0+X).fdiv m+k.rat n p*hzn k n (p+1) qs.reverse)+_
   have eg:r[p]=r.getD p 0:=by rw [List.getD_eq_getElem?_getD,List.getElem?_eq_getElem hpr]; rfl
   rw [hw,eg]
   have e3:k.rat n p*(m*hzn k n (p+1) qs.reverse+e)=m*(k.rat n p*hzn k n (p+1) qs.reverse)+X:=by rw [← hX]; grind
   rw [e3,Int.mul_add]
   omega
 ·rintro ρ' ⟨qs,e,v5,v6,rfl,hq,hb,e0,e1,hw⟩
  have e:(((List.map Dt.int r).length:Int) - 1 - (-1)).toNat=r.length:=by omega
  rw [e] at hq hw
  rw [Nat.sub_self,List.drop_zero] at hw
  refine ⟨_,rfl,_,rfl,_,rfl,_,rfl,rfl,?_⟩
  rw [← List.map_reverse]
  refine q qs.reverse _ ⟨by rw [List.length_reverse]; exact hq,fun z hz=>hb z (List.mem_reverse.mp hz),fun hk=>?_,e0,e1,?_⟩
  ·subst hk; cases h4
  ·rw [qV h4,qV h4]; exact hw
abbrev z7:Stmt:=top 48
theorem xX:zg ["way","row","many"] ["way","row","many"] (defScope z7):=by walk_at "sc"
theorem xZ (T:Txt K mg A) (G_quotients_in_falling:DOk P w K mg base 1 "quotients_in_falling" (jC A)) (G_quotients_by_ratio:DOk P w K mg base 2 "quotients_by_ratio" (jB A)) (F:Fun K "quotients_and_rest" "quotients_and_rest" z7 f fd):FnOk P w K mg base CX0 3 f fd ["way","row","many"] (zq K (dA A)):=by
 refine okD F xX (by walk_at "ln") fun _ _ _ _ _ _ hr ds Q h=>?_
 obtain ⟨k,n,r,m,rfl,hk,ho,q⟩:=h
 refine ⟨_,(zd (zx (zP (wO T.isinstance T.UZ (dv 0))) (ze (zj (zl G_quotients_in_falling (hr.mono (by decide)) rfl (za (dv 0) (za (dv 1) (za (dv 2) zf)))))) zn)
 (ze (zj (zl G_quotients_by_ratio (hr.mono (by decide)) rfl (za (dv 0) (za (dv 1) (za (dv 2) zf))))))),?_⟩
 refine ⟨_,rfl,_,_,_,_,rfl,qS T k,kiF T k,_,rfl,?_⟩
 by_cases hf:k=.falling
 ·subst hf
  exact ifT rfl ⟨_,rfl,_,rfl,_,rfl,n,r,m,rfl,ho,q⟩
 ·refine ifF (by cases k <;> first | rfl | exact absurd rfl hf) ⟨_,rfl,_,rfl,_,rfl,k,n,r,m,rfl,?_,ho,q⟩
  cases k <;> first | rfl | exact absurd rfl hf | exact absurd rfl hk
abbrev yd:Stmt:=top 29
theorem sc_held_to_be_a_heap:zg ["way","heap","things"] ["way","heap"] (defScope yd):=by walk_at "sc"
theorem wo (T:Txt K mg A) (F:Fun K "held_to_be_a_heap" "held_to_be_a_heap" yd f fd):FnOk P w K mg base (CX1 P w) 1 f fd ["way","heap"] (uP K (nW A)):=by
 refine VS F sc_held_to_be_a_heap (by walk_at "ln") fun _ _ _ _ _ _ hr ds Q R h rz=>?_
 obtain ⟨k,n,h,rfl,hn,hw⟩:=h
 refine ⟨_,(zd (zx (yN (zP (wO T.isinstance T.UZ (dv 0)))) (ze y7) zn)
 (ze (k_ (j:=2) rfl sc_held_to_be_a_heap.nd rfl (Or.inl rfl) Xl (dv 1) (ze (zx (zo (sH) (dv 2) zc (zm _)) (ze (kX rfl rfl T.SC T.Td tS)) zn))))),?_⟩
 rcases hw with z | hw
 ·exact z.elim
 have hk:k=.falling:=by rcases hw with z | z <;> exact z.1
 subst hk
 refine ⟨_,rfl,_,_,_,_,rfl,T.Sv,T.UX,_,rfl,ifF rfl ?_⟩
 rcases hw with ⟨_,⟨z,hz,hz0⟩,hR⟩ | ⟨_,hnn,q⟩
 ·refine ⟨_,rfl,_,fun i ρ=>∃ v,ρ=[.some (zL A .falling n),.some (zB h),v]∧∀ (j:Nat) (y:Int),j<i→h[j]? = some y→0≤y,rfl,⟨_,rfl,fun j _ z=>absurd z (Nat.not_lt_zero _)⟩,?_,?_⟩
  ·rintro i e ρ' he ⟨v,rfl,hb⟩
   rw [List.getElem?_map] at he
   obtain ⟨y,hy,rfl⟩:=Option.map_eq_some_iff.mp he
   refine ⟨_,rfl,_,_,rfl,rfl,_,rfl,ifB (fun _=>rz _ hR) (fun h1=>⟨_,rfl,fun j y' hj hy'=>?_⟩)⟩
   have h1:=of_decide_eq_false h1
   rcases (by omega:j<i∨j=i) with w | w
   ·exact hb j y' w hy'
   ·subst w
    rw [hy] at hy'
    cases hy'
    omega
  ·rintro ρ' ⟨v,rfl,hb⟩
   obtain ⟨j,hj⟩:=List.mem_iff_getElem?.mp hz
   rw [List.length_map] at hb
   have hlt:j<h.length:=by
    rcases Nat.lt_or_ge j h.length with w | w
    ·exact w
    ·rw [List.getElem?_eq_none w] at hj; cases hj
   have:=hb j z hlt hj
   omega
 ·refine ⟨_,rfl,_,fun i ρ=>∃ v,ρ=[.some (zL A .falling n),.some (zB h),v],rfl,⟨_,rfl⟩,?_,?_⟩
  ·rintro i e ρ' he ⟨v,rfl⟩
   obtain ⟨y,hy,rfl⟩:=List.mem_map.mp (List.mem_of_getElem? he)
   have:=hnn y hy
   exact ⟨_,rfl,_,_,rfl,rfl,_,rfl,ifF (decide_eq_false (by omega)) ⟨_,rfl⟩⟩
  ·rintro ρ' ⟨v,rfl⟩
   exact q
abbrev vE:Stmt:=top 32
theorem pU:zg ["way","heap","place"] ["way","heap","place"] (defScope vE):=by walk_at "sc"
theorem oi (T:Txt K mg A) (F:Fun K "step_at" "step_at" vE f fd):FnOk P w K mg base CX0 1 f fd ["way","heap","place"] (zq K (pG A)):=by
 refine okD F pU (by walk_at "ln") fun _ _ _ _ _ _ hr ds Q h=>?_
 obtain ⟨n,l,p,rfl,hn,hp,q⟩:=h
 refine ⟨_,(zV (zx (DW.dt (yy (zo (rR) (dv 2) zc (zm _)) (yy (zo (iq) (zr (dv 1) (dv 2) (fun _ _=>rfl)) (zG (dv 0)) (zm _)) (yx (zo (rR) (zr (dv 1) (zh zN (dv 2) zc) (fun _ _=>rfl)) zc (zm _)))))) (ze (zj (zy (za tS (za (dv 2) zf))))) zn)
 (zd (zx (zo (rR) (zr (dv 1) (dv 2) (fun _ _=>rfl)) (zG (dv 0)) (zm _)) (ze (zj (zy (za tS (za (dv 2) zf))))) zn)
 (ze (zj tT)))),?_⟩
 have a1:atI (l.map Dt.int) (p:Int)=some (.int (hf l p)):=xU (tN hp)
 refine ⟨fun ρ=>ρ=[.some (zL A .falling n),.some (zB l),.some (.int p)]∧¬ (0<p∧n≤hf l p∧0<hf l (p - 1)),?_,?_⟩
 ·refine ⟨_,rfl,_,_,rfl,rfl,_,rfl,ifB (fun h1=>?_) (fun h1=>ifF rfl ⟨rfl,fun z=>?_⟩)⟩
  ·have h1:=of_decide_eq_true h1
   refine ⟨_,rfl,_,rfl,_,_,_,rfl,rfl,a1,_,rfl,_,_,_,rfl,rfl,T.UE,T.UG,_,_,rfl,rfl,_,rfl,ifB (fun h2=>?_) (fun h2=>ifF rfl ⟨rfl,fun z=>?_⟩)⟩
   ·have h2:=of_decide_eq_true h2
    have e1:((p:Int) - 1)=((p - 1:Nat):Int):=by omega
    refine ⟨_,rfl,_,rfl,_,_,rfl,rfl,_,_,_,rfl,rfl,(by rw [e1]; exact xU (tN (by omega))),_,_,rfl,rfl,_,rfl,ifB (fun h3=>?_) (fun h3=>⟨rfl,fun z=>?_⟩)⟩
    ·have h3:=of_decide_eq_true h3
     walk_at "rd"
     refine jX q ?_
     unfold yl
     rw [if_pos ⟨by omega,h2,h3⟩]
     rfl
    ·exact absurd z.2.2 (of_decide_eq_false h3)
   ·exact absurd z.2.1 (of_decide_eq_false h2)
  ·have:=of_decide_eq_false h1
   omega
 ·rintro ρ ⟨rfl,hno⟩
  refine ⟨_,rfl,_,rfl,_,_,_,rfl,rfl,a1,_,rfl,_,_,_,rfl,rfl,T.UE,T.UG,_,_,rfl,rfl,_,rfl,ifB (fun h2=>?_) (fun h2=>?_)⟩
  ·walk_at "rd"
   refine jX q ?_
   unfold yl
   rw [if_neg hno,if_pos (of_decide_eq_true h2)]
   rfl
  ·refine jX q ?_
   unfold yl
   rw [if_neg hno,if_neg (of_decide_eq_false h2)]
   rfl
abbrev wg:Stmt:=top 33
theorem sc_how_often:zg ["way","heap","step","place"] ["way","heap","step"] (defScope wg):=by walk_at "sc"
theorem rK (T:Txt K mg A) (F:Fun K "how_often" "how_often" wg f fd):FnOk P w K mg base CX0 1 f fd ["way","heap","step"] (zq K (nR A)):=by
 refine okD F sc_how_often (by walk_at "ln") fun _ _ _ _ _ _ hr ds Q h=>?_
 obtain ⟨n,l,s,rfl,hn,hp,hc,q⟩:=h
 refine ⟨_,(zd (zp (i:=3) sc_how_often.nd rfl (Or.inl rfl) (zr (dv 2) zc (fun _ _=>rfl)))
 (zd (zx (zo (eW) (zr (dv 2) zc (fun _ _=>rfl)) tS (zm _)) (ze (zj (ji rfl rfl T.n_min (za (zh xp (zr (dv 1) (dv 3) (fun _ _=>rfl)) (zG (dv 0))) (za (zr (dv 1) (zh zN (dv 3) zc) (fun _ _=>rfl)) zf))))) zn)
 (ze (zj (zh xp (zr (dv 1) (dv 3) (fun _ _=>rfl)) (zh zC (zG (dv 0)) zc)))))),?_⟩
 obtain ⟨b1,b2⟩:=xw hn
 have a1:atI (l.map Dt.int) (s.2:Int)=some (.int (hf l s.2)):=xU (tN hp)
 match s,hp,hc,q,a1 with
 | (true,p),hp,⟨c1,c2,c3⟩,q,a1=>
  have e1:((p:Int) - 1)=((p - 1:Nat):Int):=by omega
  have hp:p<l.length:=hp
  refine ⟨_,rfl,_,1,_,rfl,rfl,rfl,_,rfl,_,0,_,rfl,rfl,rfl,_,_,rfl,rfl,_,rfl,ifT rfl ?_⟩
  refine ⟨_,rfl,_,rfl,_,_,_,rfl,rfl,a1,_,rfl,_,_,_,rfl,rfl,T.UE,T.UG,_,_,rfl,rfl,jq (by rw [Bool.and_eq_true,bne_iff_ne,decide_eq_true_iff]; omega),?_⟩
  refine ⟨_,rfl,_,rfl,_,_,rfl,rfl,_,_,_,rfl,rfl,(by rw [e1]; exact xU (tN (by omega))),_,_,rfl,?_⟩
  have d1:=q_ (show (0:Int)<n by omega) c2
  have d2:=nC (a:=hf l p) (show (0:Int)<n by omega)
  show Q (.int (if hf l (p - 1)<(hf l p).fdiv n then hf l (p - 1) else (hf l p).fdiv n))
  split
  ·rename_i hlt
   have:=Int.mul_le_mul_of_nonneg_right (show hf l (p - 1)≤(hf l p).fdiv n by omega) (show 0≤n by omega)
   exact q _ c3 ⟨c1,by omega,Int.le_refl _⟩
  ·exact q _ d1 ⟨c1,d2,by omega⟩
 | (false,p),hp,hc,q,a1=>
  have hc:n<hf l p:=hc
  refine ⟨_,rfl,_,1,_,rfl,rfl,rfl,_,rfl,_,0,_,rfl,rfl,rfl,_,_,rfl,rfl,_,rfl,ifF rfl ?_⟩
  refine ⟨_,rfl,_,rfl,_,_,_,rfl,rfl,a1,_,rfl,_,_,_,rfl,rfl,T.UE,T.UG,_,_,rfl,rfl,_,_,rfl,rfl,jq (by rw [Bool.and_eq_true,bne_iff_ne,decide_eq_true_iff]; omega),?_⟩
  exact q _ (q_ (show (0:Int)<n+1 by omega) (show n+1≤hf l p by omega)) (nC (show (0:Int)<n+1 by omega))
abbrev vI:Stmt:=top 30
theorem sc_changes:zg ["way","step","kind","place","parted"] ["way","step"] (defScope vI):=by walk_at "sc"
theorem oo (T:Txt K mg A) (F:Fun K "changes" "changes" vI f fd):FnOk P w K mg base CX0 1 f fd ["way","step"] (zq K (dD A)):=by
 refine okD F sc_changes (by walk_at "ln") fun _ _ _ _ _ _ hr ds Q h=>?_
 obtain ⟨n,s,rfl,hn,hs,q⟩:=h
 refine ⟨_,(zd (zp (i:=2) sc_changes.nd rfl (Or.inl rfl) (zr (dv 1) zc (fun _ _=>rfl)))
 (zd (zp (i:=3) sc_changes.nd rfl (Or.inl rfl) (zr (dv 1) zc (fun _ _=>rfl)))
 (zd (zx (zo (eW) (dv 2) tS (zm _)) (ze (zj (va (za (zy (za (zh zC (dv 3) zc) (za zc zf))) (za (zy (za (dv 3) (za (ya (zG (dv 0))) zf))) (za (zy (za (zh zN (dv 3) zc) (za (ya zc) zf))) zf)))))) zn)
 (zd (yT (i:=4) sc_changes.nd rfl (Or.inl rfl) (w_ (za (zy (za (zh zC (dv 3) zc) (za zc zf))) (za (zy (za (dv 3) (za (zh zN (ya (zG (dv 0))) zc) zf))) zf))))
 (zV (zx (zo (yr hr) (dv 3) zc (zm _)) (ze (xR 4 (zy (za zc (za (zG (dv 0)) zf))))) zn)
 (zV (zx (zo (rR) (dv 3) zc (zm _)) (zd (xR 4 (zy (za (zh zN (dv 3) zc) (za (zh zN (zG (dv 0)) zc) zf))))
 (ze (xR 4 (zy (za (zh zN (dv 3) zc) (za zc zf)))))) zn)
 (ze (uJ 4)))))))),?_⟩
 match s,hs,q with
 | (true,0),hs,_=>exact absurd (hs rfl) (Nat.lt_irrefl _)
 | (true,p+1),_,q=>
  repeat (first | (walk_at "rd1") | refine ⟨_,_,_,rfl,rfl,T.UE,T.UG,?_⟩)
  refine jX q ?_
  show Dt.lst [.tup [.int (((p+1:Nat):Int)+1),.int 1],.tup [.int ((p+1:Nat):Int),.int (-n)],.tup [.int (((p+1:Nat):Int) - 1),.int (-1)]]=_
  rw [show ((p+1:Nat):Int) - 1=(p:Int) by omega]
  rfl
 | (false,0),_,q=>
  repeat (first | (walk_at "rd1") | refine ⟨_,_,_,rfl,rfl,T.UE,T.UG,?_⟩)
  refine ⟨fun ρ=>ρ=[.some (zL A .falling n),.some (yJ (false,0)),.some (.str (pO false)),.some (.int 0),.own [chD (1,1),chD (0,-n - 1)]],?_,?_⟩
  ·exact ⟨_,rfl,rfl,rfl,_,rfl,ifF (neI (by decide)) rfl⟩
  rintro ρ rfl
  refine ⟨fun ρ=>ρ=[.some (zL A .falling n),.some (yJ (false,0)),.some (.str (pO false)),.some (.int 0),.own [chD (1,1),chD (0,-n - 1)]],?_,?_⟩
  ·exact ⟨_,rfl,_,_,rfl,rfl,_,rfl,ifF (by decide) rfl⟩
  rintro ρ rfl
  exact ⟨_,rfl,q⟩
 | (false,1),_,q=>
  repeat (first | (walk_at "rd1") | refine ⟨_,_,_,rfl,rfl,T.UE,T.UG,?_⟩)
  refine ⟨fun ρ=>ρ=[.some (zL A .falling n),.some (yJ (false,1)),.some (.str (pO false)),.some (.int 1),.own [chD (2,1),chD (1,-n - 1),chD (0,n)]],?_,?_⟩
  ·exact ⟨_,rfl,rfl,rfl,_,rfl,ifT (eqI rfl) ⟨_,rfl,_,rfl,_,_,_,rfl,rfl,T.UE,T.UG,rfl,(by show (2:Nat)≤100000; decide),rfl⟩⟩
  rintro ρ rfl
  refine ⟨fun ρ=>ρ=[.some (zL A .falling n),.some (yJ (false,1)),.some (.str (pO false)),.some (.int 1),.own [chD (2,1),chD (1,-n - 1),chD (0,n)]],?_,?_⟩
  ·exact ⟨_,rfl,_,_,rfl,rfl,_,rfl,ifF (by decide) rfl⟩
  rintro ρ rfl
  exact ⟨_,rfl,q⟩
 | (false,p+2),_,q=>
  repeat (first | (walk_at "rd1") | refine ⟨_,_,_,rfl,rfl,T.UE,T.UG,?_⟩)
  refine ⟨fun ρ=>ρ=[.some (zL A .falling n),.some (yJ (false,p+2)),.some (.str (pO false)),.some (.int ((p+2:Nat):Int)),.own [chD (p+3,1),chD (p+2,-n - 1)]],?_,?_⟩
  ·exact ⟨_,rfl,rfl,rfl,_,rfl,ifF (neI (by show ((p+2:Nat):Int)≠1; omega)) rfl⟩
  rintro ρ rfl
  refine ⟨fun ρ=>ρ=[.some (zL A .falling n),.some (yJ (false,p+2)),.some (.str (pO false)),.some (.int ((p+2:Nat):Int)),.own [chD (p+3,1),chD (p+2,-n - 1),chD (p+1,n - 1),chD (p,1)]],?_,?_⟩
  ·refine ⟨_,rfl,_,_,rfl,rfl,_,rfl,ifT (decide_eq_true (by omega)) ?_⟩
   refine ⟨_,rfl,_,rfl,_,_,rfl,rfl,_,rfl,_,_,_,rfl,rfl,T.UE,T.UG,_,_,rfl,rfl,rfl,(by show (2:Nat)≤100000; decide),?_⟩
   refine ⟨_,rfl,_,rfl,_,_,rfl,rfl,rfl,(by show (3:Nat)≤100000; decide),?_⟩
   show [_,_,_,_,Sl.own [_,_,Dt.tup [.int (((p+2:Nat):Int) - 1),.int (n - 1)],Dt.tup [.int (((p+2:Nat):Int) - 2),.int 1]]]=_
   rw [show ((p+2:Nat):Int) - 1=((p+1:Nat):Int) by omega,show ((p+2:Nat):Int) - 2=(p:Int) by omega]
   rfl
  rintro ρ rfl
  exact ⟨_,rfl,q⟩
abbrev wX:Stmt:=top 31
theorem sc_do_steps:zg ["way","heap","step","many","place","things"] ["way","heap","step","many"] (defScope wX):=by walk_at "sc"
theorem qM (T:Txt K mg A) (G_changes:DOk P w K mg base 1 "changes" (dD A)) (F:Fun K "do_steps" "do_steps" wX f fd):FnOk P w K mg base CX0 2 f fd ["way","heap","step","many"] (pI K (Vu A)):=by
 refine okA F sc_do_steps (by walk_at "ln") fun _ _ _ _ _ _ hr d0 es0 ds Q a h=>?_
 obtain ⟨n,l,s,m,rfl,rfl,rfl,hn,hs,hp,q⟩:=h
 refine ⟨_,(zd (wy PassesOwn.never (zo (sH) (eB 1 rfl T.len) (zh zC (zr (dv 2) zc (fun _ _=>rfl)) zc) (zm _)) (ze (fZ 1 zc)))
 (ze (fX (i:=4) (j:=5) rfl sc_do_steps.nd rfl rfl (Or.inl rfl) (Or.inl rfl) PassesOwn.never (zl G_changes (hr.mono (by decide)) rfl (za (dv 0) (za (dv 2) zf))) (ze (fY 1 kB (dv 4) (zh z4 (dv 3) (dv 5))))))),?_⟩
 obtain ⟨b1,b2⟩:=xw hn
 refine ⟨fun m' ρ=>∃ k,ρ=[.some (zL A .falling n),.arg a ((l++List.replicate k 0).map Dt.int),.some (yJ s),.some (.int m),.none,.none]∧m'=(s.2+2) - (l.length+k)∧(k=0∨l.length+k≤s.2+2)∧k≤s.2+2,⟨_,0,by rw [List.replicate_zero,List.append_nil]; rfl,rfl,.inl rfl,Nat.zero_le _⟩,?_⟩
 rintro m' ρ' ⟨k,rfl,rfl,hk,hk2⟩
 have hlen:((l++List.replicate k 0).map Dt.int).length=l.length+k:=by rw [zA,List.length_append,List.length_replicate]
 refine ⟨a,_,rfl,_,rfl,_,1,_,rfl,rfl,rfl,_,_,rfl,rfl,_,_,rfl,rfl,_,rfl,?_⟩
 rw [hlen]
 refine ifB (fun h=>?_) (fun h=>?_)
 ·have h:=of_decide_eq_true h
  have h':l.length+k<s.2+2:=by omega
  refine ⟨a,_,rfl,by rw [hlen]; omega,_,?_,k+1,?_,rfl,.inr (by omega),by omega⟩
  ·omega
  ·show [_,_,_,_,_,_]=_
   rw [List.replicate_succ',← List.append_assoc,← vv]
 ·have h:=of_decide_eq_false h
  have h':s.2+2≤l.length+k:=by omega
  obtain ⟨l2,hl2⟩:∃ l2,l2=l++List.replicate k 0:=⟨_,rfl⟩
  have el:l2.length=max l.length (s.2+2):=by rw [hl2,List.length_append,List.length_replicate]; omega
  have ef:∀ i,hf l2 i=hf l i:=fun i=>by rw [hl2]; exact Yn l k i
  rw [← hl2]
  refine ⟨_,rfl,_,rfl,n,s,rfl,hn,hs,_,fun i ρ=>∃ g v4 v5,ρ=[.some (zL A .falling n),.arg a (g.map Dt.int),.some (yJ s),.some (.int m),v4,v5]∧g.length=l2.length∧∀ j,hf g j=hf l j+m*wA ((chg n s).take i) j,rfl,⟨l2,_,_,rfl,rfl,fun j=>by rw [ef]; show _=hf l j+m*0; omega⟩,?_,?_⟩
  ·rintro i e ρ' he ⟨g,v4,v5,rfl,hg,hj⟩
   rw [List.getElem?_map] at he
   obtain ⟨x,hx,rfl⟩:=Option.map_eq_some_iff.mp he
   have hm:=List.mem_of_getElem? hx
   have hlt:=oW (m:=g.length) (by omega) x hm
   obtain ⟨c1,c2⟩:=YJ b1 b2 x hm
   refine ⟨_,_,rfl,a,_,rfl,_,rfl,(x.1:Int),hf g x.1,rfl,by omega,?_,_,rfl,_,rfl,_,_,rfl,rfl,small (by omega) (by omega) _,_,rfl,?_⟩
   ·rw [Int.toNat_natCast]; exact tN hlt
   ·rw [Int.toNat_natCast]
    refine ⟨g.set x.1 (hf g x.1+m*x.2),.some (.int x.1),.some (.int x.2),?_,by rw [List.length_set]; exact hg,fun j=>?_⟩
    ·show [_,_,_,_,_,_]=_
     rw [← qy]
    ·rw [Ym hlt,hj j,mR hx,Int.mul_add]
     have:pt x.1 (m*x.2) j=m*pt x.1 x.2 j:=by
      unfold pt
      split
      ·rfl
      ·rw [Int.mul_zero]
     omega
  ·rintro ρ' ⟨g,v4,v5,rfl,hg,hj⟩
   rw [List.length_map,List.take_length] at hj
   exact ⟨_,rfl,q g (by omega) hj⟩
abbrev vC:Stmt:=top 27
theorem sc_trimmed:zg ["row","things"] ["row"] (defScope vC):=by walk_at "sc"
theorem oh (T:Txt K mg A) (F:Fun K "trimmed" "trimmed" vC f fd):FnOk P w K mg base CX0 1 f fd ["row"] (xV K (oY)):=by
 refine okF F sc_trimmed (by walk_at "ln") fun _ _ _ _ _ _ hr ds Q h=>?_
 obtain ⟨r,rfl,q⟩:=h
 refine ⟨_,(zd (yT (i:=1) sc_trimmed.nd rfl (Or.inl rfl) (uM rfl T.n_list (dv 0)))
 (zd (wy PassesOwn.never (DW.dt (yy (fR 1) (yx (zo (yr hr) (oS 1 (ya zc) (fun _ _=>rfl)) zc (zm _))))) (ze (kY 1)))
 (ze (uJ 1)))),?_⟩
 refine ⟨_,rfl,_,rfl,_,rfl,?_⟩
 exact qm rfl ⟨_,rfl,q⟩
abbrev yc:Stmt:=top 34
theorem sc_steps_and_writing:zg ["way","heap","done","left","place","step","many"] ["way","heap"] (defScope yc):=by walk_at "sc"
theorem wn (T:Txt K mg A) (G_held_to_be_a_heap:DOkX P w K mg base 1 "held_to_be_a_heap" (nW A)) (G_step_at:DOk P w K mg base 1 "step_at" (pG A)) (G_how_often:DOk P w K mg base 1 "how_often" (nR A)) (G_do_steps:AOk P w K mg base 2 "do_steps" (Vu A)) (G_trimmed:FOk P w K mg base 1 "trimmed" (oY)) (F:Fun K "steps_and_writing" "steps_and_writing" yc f fd):FnOk P w K mg base (CX1 P w) 3 f fd ["way","heap"] (qg K (.t true true) (dz A)):=by
 refine VQ F sc_steps_and_writing (by walk_at "ln") fun _ _ _ _ _ _ hr ds Q R h rz=>?_
 obtain ⟨k,n,h,rfl,hn,hl,hw⟩:=h
 refine ⟨_,(zd (nH (jk G_held_to_be_a_heap (hr.mono (by decide)) rfl (za (dv 0) (za (dv 1) zf))))
 (zd (yT (i:=2) sc_steps_and_writing.nd rfl (Or.inl rfl) (w_ zf))
 (zd (yT (i:=3) sc_steps_and_writing.nd rfl (Or.inl rfl) (uM rfl T.n_list (dv 1)))
 (zd (zp (i:=4) sc_steps_and_writing.nd rfl (Or.inl rfl) (zh zN (wM 3 rfl T.len) zc))
 (zd (wy Xl (zo (iq) (dv 4) zc (zm _)) (zd (zp (i:=5) sc_steps_and_writing.nd rfl (Or.inl rfl) (nL (zl G_step_at (hr.mono (by decide)) rfl (za (dv 0) (za (dv 3) (za (dv 4) zf))))))
 (ze (zx (kT (dv 5)) (ze (nI (i:=4) Yl sc_steps_and_writing.nd rfl (Or.inl rfl) zc)) (zd (zp (i:=6) sc_steps_and_writing.nd rfl (Or.inl rfl) (nL (zl G_how_often (hr.mono (by decide)) rfl (za (dv 0) (za (dv 3) (za (dv 5) zf))))))
 (zd (Yt 2 (DF.de (Yv (va (za (dv 5) zf)) (dv 6))))
 (zd (ja 3 G_do_steps (hr.mono (by decide)) rfl (dv 0) (za (dv 5) (za (dv 6) zf)))
 (ze (zp (i:=4) sc_steps_and_writing.nd rfl (Or.inl rfl) (ji rfl rfl T.n_min (za (zh zC (dv 4) zc) (za (zh zN (wM 3 rfl T.len) zc) zf))))))))))))
 (vp 3 (ze (kW 2 (uN G_trimmed (hr.mono (by decide)) rfl (za (dv 3) zf)))))))))),?_⟩
 refine ⟨_,rfl,_,rfl,k,n,h,rfl,hn,?_⟩
 rcases hw with hw | ⟨h1,h2,h3⟩ | ⟨rfl,hnn,hpot,q⟩
 ·exact .inl (ku rz hw)
 ·exact .inr (.inl ⟨h1,h2,rz _ h3⟩)
 refine .inr (.inr ⟨rfl,hnn,?_⟩)
 obtain ⟨b1,b2⟩:=xw hn
 have h0:=WG hnn
 refine ⟨rfl,_,rfl,_,rfl,_,rfl,_,rfl,_,rfl,_,_,rfl,rfl,?_⟩
 refine ⟨fun m ρ=>∃ (ss:List Stp) (l:List Int) (p:Int) (v5 v6:Sl),ρ=[.some (zL A .falling n),.some (zB h),.own (ss.map yJ),.own (l.map Dt.int),.some (.int p),v5,v6]∧-1≤p∧p<l.length∧(∀ i,0≤hf l i)∧l.length≤h.length+60∧My.hw n l=My.hw n h∧Walk n (hf h) ss (hf l)∧(ss.length:Int)+pot n l≤pot n h∧(∀ q:Nat,p<q→q<l.length→yl n (hf l) q=none)∧m=(3*pot n l+p+1).toNat,?_,?_⟩
 ·refine ⟨_,[],h,_,_,_,rfl,by omega,?_,h0,by omega,rfl,rfl,?_,fun q h1 h2=>?_,rfl⟩
  ·rw [zA]; omega
  ·show (0:Int)+_≤_; omega
  ·rw [zA] at h1; omega
 rintro m ρ' ⟨ss,l,p,v5,v6,rfl,p0,p1,l0,hlen,hwe,hwk,hss,hno,rfl⟩
 have pn:=qw (w:=cst n) (fun i=>by have:=(wP n i).1; omega) l0 l.length
 have pn:0≤pot n l:=pn
 refine ⟨_,rfl,_,_,rfl,rfl,_,rfl,ifB (fun hp=>?_) (fun hp=>?_)⟩
 ·have hp:=of_decide_eq_true hp
  obtain ⟨pp,rfl⟩:∃ pp:Nat,p=pp:=⟨p.toNat,by omega⟩
  have hpl:pp<l.length:=by omega
  refine ⟨_,rfl,_,rfl,_,rfl,n,l,pp,rfl,hn,hpl,?_⟩
  cases hs:yl n (hf l) pp with
  | none=>
   refine ⟨rfl,_,rfl,_,rfl,ifT rfl ?_⟩
   refine ⟨_,rfl,_,_,rfl,rfl,_,?_,ss,l,(pp:Int) - 1,_,_,rfl,by omega,by omega,l0,hlen,hwe,hwk,hss,fun q h1 h2=>?_,rfl⟩
   ·omega
   ·by_cases e:q=pp
    ·subst e; exact hs
    ·exact hno q (by omega) h2
  | some s=>
   obtain ⟨e2,hcan⟩:=qu hs
   have hsp:s.2<l.length:=by omega
   refine ⟨rfl,_,rfl,_,rfl,ifF rfl ?_⟩
   refine ⟨_,rfl,_,rfl,_,rfl,n,l,s,rfl,hn,hsp,hcan,fun m hm hof=>⟨rfl,?_⟩⟩
   have hmc:=hof.le_pot b1 l0 (by omega) hsp
   refine ⟨_,rfl,_,rfl,rfl,_,rfl,_,_,rfl,rfl,by omega,by omega,by show 1*_≤_; omega,_,rfl,?_,?_⟩
   ·rw [sO,List.length_map,List.length_map,List.length_replicate]; omega
   have pb:pp<h.length+48:=by
    refine lK b1 h0 l0 hpot hwe ?_
    rw [← e2]
    exact hcan.pos b1
   refine ⟨_,rfl,_,rfl,_,rfl,_,rfl,n,l,s,m,rfl,rfl,rfl,hn,hof.up,by omega,fun l' hl' he'=>?_⟩
   obtain ⟨k1,k2,k3,k4⟩:=mL b1 hm l0 hof hl' he'
   have pn':=qw (w:=cst n) (fun i=>by have:=(wP n i).1; omega) k1 l'.length
   have pn':0≤pot n l':=pn'
   refine ⟨_,rfl,_,_,rfl,rfl,_,rfl,_,_,rfl,rfl,_,_,rfl,?_⟩
   dsimp only
   rw [zA,sO,← List.map_append]
   obtain ⟨p',hp'⟩:∃ p':Int,p'=if (l'.length:Int) - 1<(pp:Int)+2 then (l'.length:Int) - 1 else (pp:Int)+2:=⟨_,rfl⟩
   rw [← hp']
   have hp2:p'≤pp+2∧-1≤p'∧p'<l'.length∧(p'=(l'.length:Int) - 1∨p'=pp+2):=by
    rw [hp']
    split <;> omega
   refine ⟨(3*pot n l'+p'+1).toNat,by omega,ss++List.replicate m.toNat s,l',p',_,_,rfl,by omega,by omega,k1,by omega,k2.trans hwe,k4.append hwk,?_,fun q h1 h2=>?_,rfl⟩
   ·rw [List.length_append,List.length_replicate]; omega
   ·rcases hp2.2.2.2 with z | z
    ·omega
    ·have f1:hf l' q=hf l q:=by rw [he',nK (by omega),Int.mul_zero,Int.add_zero]
     have f2:hf l' (q - 1)=hf l (q - 1):=by rw [he',nK (by omega),Int.mul_zero,Int.add_zero]
     have e:yl n (hf l') q=yl n (hf l) q:=by unfold yl; rw [f1,f2]
     rw [e]
     by_cases hq:q<l.length
     ·exact hno q (by omega) hq
     ·unfold yl
      rw [w8 (by omega),if_neg (by omega),if_neg (by omega)]
 ·have hp:=of_decide_eq_false hp
  have hlg:Lg .falling n l:=fG l0 (fun q hq=>hno q (by omega) hq)
  refine ⟨_,rfl,_,rfl,_,rfl,l,rfl,?_⟩
  have:=x_ l
  refine q ss (trim l) ⟨hlg.trim,(fJ n l).trans hwe,?_,by omega,by omega⟩
  rw [show hf (trim l)=hf l from funext (nA l)]
  exact hwk
abbrev u_:Stmt:=top 35
theorem mj:zg ["way","heap"] ["way","heap"] (defScope u_):=by walk_at "sc"
theorem mB (T:Txt K mg A) (G_steps_and_writing:TOkX P w K mg base 3 "steps_and_writing" (.t true true) (dz A)) (F:Fun K "fallen" "fallen" u_ f fd):FnOk P w K mg base (CX1 P w) 4 f fd ["way","heap"] (vx K (rd A)):=by
 refine VR F mj (by walk_at "ln") fun _ _ _ _ _ _ hr ds Q R h rz=>?_
 obtain ⟨k,n,h,rfl,hn,hl,hw⟩:=h
 refine ⟨_,(ze (uK (Yu (jb G_steps_and_writing (hr.mono (by decide)) rfl (za (dv 0) (za (dv 1) zf))) (fun _ _=>rfl)))),?_⟩
 refine ⟨_,rfl,_,rfl,k,n,h,rfl,hn,hl,?_⟩
 rcases hw with hw | ⟨h1,h2,h3⟩ | ⟨h1,h2,h3,h4⟩
 ·exact .inl (ku rz hw)
 ·exact .inr (.inl ⟨h1,h2,rz _ h3⟩)
 ·exact .inr (.inr ⟨h1,h2,h3,fun ss r hF=>⟨_,_,rfl,h4 ss r hF⟩⟩)
abbrev vK:Stmt:=top 13
theorem pZ:zg ["number"] ["number"] (defScope vK):=by walk_at "sc"
theorem ot (T:Txt K mg A) (G_is_whole:DOk P w K mg base 1 "is_whole" (yU)) (F:Fun K "as_pair" "as_pair" vK f fd):FnOk P w K mg base CX0 2 f fd ["number"] (zq K (wQ)):=by
 refine okD F pZ (by walk_at "ln") fun _ _ _ _ _ _ hr ds Q h=>?_
 obtain ⟨d,m,rfl,hm,q⟩:=h
 refine ⟨_,(zd (zx (zP (zl G_is_whole (hr.mono (by decide)) rfl (za (dv 0) zf))) (ze (zj (zy (za (dv 0) (za zc zf))))) zn)
 (ze (zj (dv 0)))),?_⟩
 obtain rfl:=yH hm
 cases m with
 | i n=>
  walk_at "rd"
  exact q
 | p a b=>
  walk_at "rd"
  exact q
abbrev rA:Stmt:=top 14
theorem sc_added:zg ["one","other","left","right"] ["one","other"] (defScope rA):=by walk_at "sc"
theorem lQ (T:Txt K mg A) (G_is_whole:DOk P w K mg base 1 "is_whole" (yU)) (G_as_pair:DOk P w K mg base 2 "as_pair" (wQ)) (F:Fun K "added" "added" rA f fd):FnOk P w K mg base CX0 3 f fd ["one","other"] (zq K (nY)):=by
 refine okD F sc_added (by walk_at "ln") fun _ _ _ _ _ _ hr ds Q h=>?_
 obtain ⟨d,e,m,n,rfl,hm,hn,q⟩:=h
 refine ⟨_,(zd (zx (DW.dt (yy (zP (zl G_is_whole (hr.mono (by decide)) rfl (za (dv 0) zf))) (yx (zP (zl G_is_whole (hr.mono (by decide)) rfl (za (dv 1) zf)))))) (ze (zj (zh zC (dv 0) (dv 1)))) zn)
 (zd (zp (i:=2) sc_added.nd rfl (Or.inl rfl) (zl G_as_pair (hr.mono (by decide)) rfl (za (dv 0) zf)))
 (zd (zp (i:=3) sc_added.nd rfl (Or.inl rfl) (zl G_as_pair (hr.mono (by decide)) rfl (za (dv 1) zf)))
 (ze (zj (zy (za (zh zC (zr (dv 2) zc (fun _ _=>rfl)) (zr (dv 3) zc (fun _ _=>rfl))) (za (zh zC (zr (dv 2) zc (fun _ _=>rfl)) (zr (dv 3) zc (fun _ _=>rfl))) zf)))))))),?_⟩
 obtain rfl:=yH hm
 obtain rfl:=yH hn
 cases m <;> cases n
 all_goals
  walk_at "rd"
  exact q
abbrev wS:Stmt:=top 26
theorem qA:zg ["row","place"] ["row","place"] (defScope wS):=by walk_at "sc"
theorem qH (T:Txt K mg A) (F:Fun K "thing_at" "thing_at" wS f fd):FnOk P w K mg base CX0 1 f fd ["row","place"] (zq K (tX)):=by
 refine okD F qA (by walk_at "ln") fun _ _ _ _ _ _ hr ds Q h=>?_
 obtain ⟨xs,p,rfl,hp,q⟩:=h
 refine ⟨_,(zd (zx (zo (sH) (dv 1) (yD rfl T.len (dv 0)) (zm _)) (ze (zj (zr (dv 0) (dv 1) (fun _ _=>rfl)))) zn)
 (ze (zj zc))),?_⟩
 refine ⟨_,rfl,_,rfl,_,rfl,_,_,rfl,rfl,_,rfl,Wy (fun h=>?_) (fun h=>?_)⟩
 ·have h:p<(xs.length:Int):=of_decide_eq_true h
  have hl:p.toNat<xs.length:=by omega
  have e:((p.toNat:Nat):Int)=p:=Int.toNat_of_nonneg hp
  have:=xU (List.getElem?_eq_getElem hl)
  rw [e] at this
  rw [List.getD_eq_getElem?_getD,List.getElem?_eq_getElem hl] at q
  exact ⟨_,rfl,_,rfl,_,_,_,rfl,rfl,this,q⟩
 ·have h:¬ p<(xs.length:Int):=fun z=>h (decide_eq_true z)
  rw [List.getD_eq_getElem?_getD,List.getElem?_eq_none (by omega)] at q
  exact q
abbrev xG:Stmt:=inClass (top 18) 0
theorem sd:zg ["self"] ["self"] (defScope xG):=by walk_at "sc"
theorem yh (T:Txt K mg A) (F:Fun K "nought" "Way.nought" xG f fd):FnOk P w K mg base CX0 1 f fd ["self"] (zq K (Vq)):=by
 refine okD F sd (by walk_at "ln") fun _ _ _ _ _ _ hr ds Q h=>?_
 obtain ⟨o,rfl,q⟩:=h
 refine ⟨_,(ze (zj zc)),?_⟩
 exact q
abbrev yX:Stmt:=inClass (top 24) 1
theorem ul:zg ["self"] ["self"] (defScope yX):=by walk_at "sc"
theorem uv (T:Txt K mg A) (F:Fun K "nought" "Pairs.nought" yX f fd):FnOk P w K mg base CX0 1 f fd ["self"] (zq K (Vp)):=by
 refine okD F ul (by walk_at "ln") fun _ _ _ _ _ _ hr ds Q h=>?_
 obtain ⟨o,rfl,q⟩:=h
 refine ⟨_,(ze (zj (zy (za zc (za zc zf))))),?_⟩
 exact ⟨rfl,q⟩
abbrev vM:Stmt:=inClass (top 18) 5
theorem p6:zg ["self","number"] ["self","number"] (defScope vM):=by walk_at "sc"
theorem wY (T:Txt K mg A) (G_is_whole:DOk P w K mg base 1 "is_whole" (yU)) (F:Fun K "has" "Way.has" vM f fd):FnOk P w K mg base CX0 2 f fd ["self","number"] (zq K (uc .plain)):=by
 refine okD F p6 (by walk_at "ln") fun _ _ _ _ _ _ hr ds Q h=>?_
 obtain ⟨o,d,m,rfl,hm,q⟩:=h
 refine ⟨_,(ze (zj (tV (zl G_is_whole (hr.mono (by decide)) rfl (za (dv 1) zf)) (qd (tU (iq) (dv 1) zc (zm _)))))),?_⟩
 obtain rfl:=yH hm
 cases m
 all_goals
  walk_at "rd"
  exact q
abbrev wl:Stmt:=inClass (top 20) 3
theorem rq:zg ["self","number"] ["self","number"] (defScope wl):=by walk_at "sc"
theorem rM (T:Txt K mg A) (G_is_whole:DOk P w K mg base 1 "is_whole" (yU)) (F:Fun K "has" "Below.has" wl f fd):FnOk P w K mg base CX0 2 f fd ["self","number"] (zq K (uc .below)):=by
 refine okD F rq (by walk_at "ln") fun _ _ _ _ _ _ hr ds Q h=>?_
 obtain ⟨o,d,m,rfl,hm,q⟩:=h
 refine ⟨_,(ze (zj (zl G_is_whole (hr.mono (by decide)) rfl (za (dv 1) zf)))),?_⟩
 obtain rfl:=yH hm
 cases m
 all_goals
  walk_at "rd"
  exact q
abbrev y1:Stmt:=inClass (top 21) 4
theorem uu:zg ["self","number"] ["self","number"] (defScope y1):=by walk_at "sc"
theorem uB (T:Txt K mg A) (G_is_whole:DOk P w K mg base 1 "is_whole" (yU)) (F:Fun K "has" "Balanced.has" y1 f fd):FnOk P w K mg base CX0 2 f fd ["self","number"] (zq K (uc .balanced)):=by
 refine okD F uu (by walk_at "ln") fun _ _ _ _ _ _ hr ds Q h=>?_
 obtain ⟨o,d,m,rfl,hm,q⟩:=h
 refine ⟨_,(ze (zj (zl G_is_whole (hr.mono (by decide)) rfl (za (dv 1) zf)))),?_⟩
 obtain rfl:=yH hm
 cases m
 all_goals
  walk_at "rd"
  exact q
abbrev vH:Stmt:=top 12
theorem pX:zg ["value"] ["value"] (defScope vH):=by walk_at "sc"
theorem om (T:Txt K mg A) (G_is_whole:DOk P w K mg base 1 "is_whole" (yU)) (F:Fun K "is_pair" "is_pair" vH f fd):FnOk P w K mg base CX0 2 f fd ["value"] (zq K (rc)):=by
 refine okD F pX (by walk_at "ln") fun _ _ _ _ _ _ hr ds Q h=>?_
 obtain ⟨d,m,rfl,hm,q⟩:=h
 refine ⟨_,(ze (zj (tV (xS (T:=.tuple) T.kt T.isinstance T.n_tuple PyProof.Rows.boot_tuple (dv 0)) (tV (tU (yr hr) (yD rfl T.len (dv 0)) zc (zm _)) (tV (zl G_is_whole (hr.mono (by decide)) rfl (za (zr (dv 0) zc (fun _ _=>rfl)) zf)) (qd (zl G_is_whole (hr.mono (by decide)) rfl (za (zr (dv 0) zc (fun _ _=>rfl)) zf)))))))),?_⟩
 obtain rfl:=yH hm
 cases m
 all_goals
  walk_at "rd"
  exact q
abbrev wk:Stmt:=inClass (top 24) 5
theorem rp:zg ["self","number"] ["self","number"] (defScope wk):=by walk_at "sc"
theorem rL (T:Txt K mg A) (G_is_pair:DOk P w K mg base 2 "is_pair" (rc)) (F:Fun K "has" "Pairs.has" wk f fd):FnOk P w K mg base CX0 3 f fd ["self","number"] (zq K (uc .pairs)):=by
 refine okD F rp (by walk_at "ln") fun _ _ _ _ _ _ hr ds Q h=>?_
 obtain ⟨o,d,m,rfl,hm,q⟩:=h
 refine ⟨_,(ze (zj (zl G_is_pair (hr.mono (by decide)) rfl (za (dv 1) zf)))),?_⟩
 obtain rfl:=yH hm
 refine ⟨_,rfl,_,m,rfl,hm,?_⟩
 cases m <;> exact q
abbrev wj:Stmt:=inClass (top 18) 4
theorem sc_Way_split:zg ["self","total","place","low","figures","figure"] ["self","total","place"] (defScope wj):=by walk_at "sc"
theorem yR (T:Txt K mg A) (HLo:∀ k:Kd,MOk P w K mg base 1 (A.at k) "low" (xz A k (k.low))∧MOk P w K mg base 1 (A.at k) "high" (xz A k (k.high))) (HR:∀ k:Kd,k.five=true→MOk P w K mg base 1 (A.at k) "ratio" (wD A k (k.ratN))) (F:Fun K "split" "Way.split" wj f fd):FnOk P w K mg base CX0 2 f fd ["self","total","place"] (zq K (jz A)):=by
 refine okD F sc_Way_split (by walk_at "ln") fun _ _ _ _ _ _ hr ds Q h=>?_
 obtain ⟨k,n,t,j,rfl,h4,hn,hj,q⟩:=h
 refine ⟨_,(zd (zp (i:=3) sc_Way_split.nd rfl (Or.inl rfl) (xg hr (dv 0) (za (dv 2) zf)))
 (zd (zp (i:=4) sc_Way_split.nd rfl (Or.inl rfl) (zh zC (zh zN (xg hr (dv 0) (za (dv 2) zf)) (dv 3)) zc))
 (zd (zp (i:=5) sc_Way_split.nd rfl (Or.inl rfl) (zh zC (dv 3) (zh yB (zh zN (dv 1) (dv 3)) (dv 4))))
 (ze (zj (zy (za (dv 5) (za (zh xp (zh zN (dv 1) (dv 5)) (xg hr (dv 0) (za (dv 2) zf))) zf)))))))),?_⟩
 obtain ⟨M1,M2⟩:=HLo k
 have h5:k.five=true:=by cases k <;> first | rfl | cases h4
 have M3:=HR k h5
 obtain ⟨e1,e2⟩:=rm h4 n j
 have hp:=uV h4 hn j
 have hr:k.ratN n j=.i (k.rat n j):=by cases k <;> first | rfl | cases h4
 have hb:(k.rat n j).natAbs<1073741824:=by
  obtain ⟨b1,b2⟩:=xw hn
  cases k <;> cases h4 <;> simp only [Kd.rat] <;> omega
 refine ⟨_,rfl,_,_,_,_,rfl,dk k,M1.mono (by decide),_,rfl,n,j,rfl,hn,?_⟩
 refine ⟨_,rfl,_,_,_,_,rfl,kS k,M2.mono (by decide),_,rfl,n,j,rfl,hn,_,rfl,_,_,rfl,rfl,_,_,rfl,rfl,?_⟩
 refine ⟨_,rfl,_,rfl,_,rfl,_,_,rfl,rfl,_,rfl,_,_,rfl,rfl,(show k.high n j - k.low n j+1≠0 by omega),_,_,rfl,rfl,?_⟩
 refine ⟨_,rfl,_,rfl,_,rfl,_,_,rfl,rfl,_,rfl,_,_,_,_,rfl,nG k,M3.mono (by decide),_,rfl,n,j,rfl,hn,?_⟩
 rw [hr]
 refine ⟨_,_,rfl,rfl,⟨by omega,hb⟩,rfl,?_⟩
 cases k <;> cases h4 <;> exact q
abbrev xD:Stmt:=top 15
theorem sc_multiplied:zg ["one","other","left","right"] ["one","other"] (defScope xD):=by walk_at "sc"
theorem su (T:Txt K mg A) (G_is_whole:DOk P w K mg base 1 "is_whole" (yU)) (G_as_pair:DOk P w K mg base 2 "as_pair" (wQ)) (F:Fun K "multiplied" "multiplied" xD f fd):FnOk P w K mg base CX0 3 f fd ["one","other"] (zq K (jE)):=by
 refine okD F sc_multiplied (by walk_at "ln") fun _ _ _ _ _ _ hr ds Q h=>?_
 obtain ⟨d,e,m,n,rfl,hm,hn,k1,q⟩:=h
 refine ⟨_,(zd (zx (DW.dt (yy (zP (zl G_is_whole (hr.mono (by decide)) rfl (za (dv 0) zf))) (yx (zP (zl G_is_whole (hr.mono (by decide)) rfl (za (dv 1) zf)))))) (ze (zj (zh z4 (dv 0) (dv 1)))) zn)
 (zd (zp (i:=2) sc_multiplied.nd rfl (Or.inl rfl) (zl G_as_pair (hr.mono (by decide)) rfl (za (dv 0) zf)))
 (zd (zp (i:=3) sc_multiplied.nd rfl (Or.inl rfl) (zl G_as_pair (hr.mono (by decide)) rfl (za (dv 1) zf)))
 (ze (zj (zy (za (zh zN (zh z4 (zr (dv 2) zc (fun _ _=>rfl)) (zr (dv 3) zc (fun _ _=>rfl))) (zh z4 (zr (dv 2) zc (fun _ _=>rfl)) (zr (dv 3) zc (fun _ _=>rfl)))) (za (zh zC (zh z4 (zr (dv 2) zc (fun _ _=>rfl)) (zr (dv 3) zc (fun _ _=>rfl))) (zh z4 (zr (dv 2) zc (fun _ _=>rfl)) (zr (dv 3) zc (fun _ _=>rfl)))) zf)))))))),?_⟩
 obtain rfl:=yH hm
 obtain rfl:=yH hn
 obtain ⟨h1,h2,h3,h4⟩:=k1
 cases m <;> cases n
 all_goals
  walk_at "rd"
  first | refine ⟨h1,?_⟩ | skip
  walk_at "rd"
  first | exact q | skip
  try refine ⟨h2,?_⟩
  walk_at "rd"
  try refine ⟨h3,?_⟩
  walk_at "rd"
  try refine ⟨h4,?_⟩
  walk_at "rd"
  try exact q
abbrev xl:Stmt:=inClass (top 24) 4
theorem Te:zg ["self","total","place","pair","figures","figure","turned"] ["self","total","place"] (defScope xl):=by walk_at "sc"
theorem tF (T:Txt K mg A) (G_as_pair:DOk P w K mg base 2 "as_pair" (wQ)) (G_multiplied:DOk P w K mg base 3 "multiplied" (jE)) (F:Fun K "split" "Pairs.split" xl f fd):FnOk P w K mg base CX0 4 f fd ["self","total","place"] (zq K (jA A)):=by
 refine okD F Te (by walk_at "ln") fun _ _ _ _ _ _ hr ds Q h=>?_
 obtain ⟨n,d,m,j,rfl,hm,hn,q⟩:=h
 refine ⟨_,(zd (zp (i:=3) Te.nd rfl (Or.inl rfl) (zl G_as_pair (hr.mono (by decide)) rfl (za (dv 1) zf)))
 (zd (zp (i:=4) Te.nd rfl (Or.inl rfl) (zh zC (zh z4 (zG (dv 0)) (zG (dv 0))) zc))
 (zd (zp (i:=5) Te.nd rfl (Or.inl rfl) (zh yB (zh zC (zr (dv 3) zc (fun _ _=>rfl)) (zh z4 (zG (dv 0)) (zr (dv 3) zc (fun _ _=>rfl)))) (dv 4)))
 (zd (zp (i:=6) Te.nd rfl (Or.inl rfl) (zl G_multiplied (hr.mono (by decide)) rfl (za (zy (za (zh zN (zr (dv 3) zc (fun _ _=>rfl)) (dv 5)) (za (zr (dv 3) zc (fun _ _=>rfl)) zf))) (za (zy (za (ya (zG (dv 0))) (za (ya zc) zf))) zf))))
 (ze (zj (zy (za (dv 5) (za (zy (za (zh xp (zr (dv 6) zc (fun _ _=>rfl)) (dv 4)) (za (zh xp (zr (dv 6) zc (fun _ _=>rfl)) (dv 4)) zf))) zf))))))))),?_⟩
 have hn1:1≤n:=hn.1
 have hn2:n≤9:=hn.2
 have sq:n*n≤81:=by
  have:=Int.mul_le_mul hn2 hn2 (by omega) (by omega)
  omega
 have sq0:0≤n*n:=Int.mul_nonneg (by omega) (by omega)
 have hN:n0 0 (n*n+1):=⟨by omega,by omega⟩
 refine ⟨_,rfl,_,m,rfl,hm,?_⟩
 refine ⟨_,rfl,_,_,_,rfl,rfl,T.UH,T.UQ,_,rfl,_,_,_,rfl,rfl,T.UH,T.UQ,_,_,rfl,rfl,small (by omega) (by omega) _,_,_,rfl,rfl,?_⟩
 refine ⟨_,rfl,_,_,_,rfl,rfl,rfl,_,rfl,_,_,_,rfl,rfl,T.UH,T.UQ,_,rfl,_,_,_,rfl,rfl,rfl,_,_,rfl,rfl,xC (by omega) (by omega) _,_,_,rfl,rfl,_,rfl,_,_,rfl,rfl,(show n*n+1≠0 by omega),?_⟩
 repeat (first | (walk_at "rd1") | refine ⟨_,_,_,rfl,rfl,T.UH,T.UQ,?_⟩)
 refine ⟨⟨small (show -1000000≤-n by omega) (show -n≤1000000 by omega) _,small (show (-1000000:Int)≤-1 by decide) (show (-1:Int)≤1000000 by decide) _,small (show (-1000000:Int)≤-1 by decide) (show (-1:Int)≤1000000 by decide) _,small (show -1000000≤-n by omega) (show -n≤1000000 by omega) _⟩,?_⟩
 repeat (first | (walk_at "rd1") | refine ⟨hN,?_⟩)
 exact q
abbrev zZ:Stmt:=top 37
theorem sc_figures_and_carries:zg ["way","totals","figures","carry","found","place","parts"] ["way","totals"] (defScope zZ):=by walk_at "sc"
theorem xN (T:Txt K mg A) (G_added:DOk P w K mg base 3 "added" (nY)) (G_thing_at:DOk P w K mg base 1 "thing_at" (tX)) (HNo:∀ k:Kd,MOk P w K mg base 1 (A.at k) "nought" (Vr k)) (HHas:∀ k:Kd,MOk P w K mg base 3 (A.at k) "has" (uc k)) (HSp:∀ k:Kd,k.five=true→MOk P w K mg base 4 (A.at k) "split" (nQ A k)) (F:Fun K "figures_and_carries" "figures_and_carries" zZ f fd):FnOk P w K mg base CX0 5 f fd ["way","totals"] (zq K (Vs A)):=by
 refine okD F sc_figures_and_carries (by walk_at "ln") fun _ _ _ _ _ _ hr ds Q h=>?_
 obtain ⟨k,n,ts,J,rfl,h5,hn,ht,F,hJ,q⟩:=h
 refine ⟨_,(zd (zx (zP (wO T.isinstance T.UZ (dv 0))) (ze y7) zn)
 (zd (yT (i:=2) sc_figures_and_carries.nd rfl (Or.inl rfl) (w_ zf))
 (zd (zp (i:=3) sc_figures_and_carries.nd rfl (Or.inl rfl) (pj hr (dv 0)))
 (zd (yT (i:=4) sc_figures_and_carries.nd rfl (Or.inl rfl) (w_ (za (dv 3) zf)))
 (zd (wy PassesOwn.never (DW.dt (xW (zo (sH) (wM 2 rfl T.len) (yD rfl T.len (dv 1)) (zm _)) (w9 (zo (rQ hr) (dv 3) (pj hr (dv 0)) (zm _))))) (zd (zp (i:=5) sc_figures_and_carries.nd rfl (Or.inl rfl) (wM 2 rfl T.len))
 (zV (zx (DW.dt (yy (zo (iq) (dv 5) (yD rfl T.len (dv 1)) (zm _)) (yx (yN (zP (xg hr (dv 0) (za (dv 3) zf))))))) (ze y7) zn)
 (zd (zp (i:=6) sc_figures_and_carries.nd rfl (Or.inl rfl) (xg hr (dv 0) (za (zl G_added (hr.mono (by decide)) rfl (za (dv 3) (za (zl G_thing_at (hr.mono (by decide)) rfl (za (dv 1) (za (dv 5) zf))) zf))) (za (dv 5) zf))))
 (zd (xR 2 (zr (dv 6) zc (fun _ _=>rfl)))
 (zd (zp (i:=3) sc_figures_and_carries.nd rfl (Or.inl rfl) (zr (dv 6) zc (fun _ _=>rfl)))
 (ze (xR 4 (dv 3)))))))))
 (vp 2 (vp 4 (ze (zj (zy (za (dv 2) (za (dv 4) zf)))))))))))),?_⟩
 have ll:(ts.map Nm.dt).length=ts.length:=List.length_map _
 refine ⟨_,rfl,_,_,_,_,rfl,qS T k,kiF T k,_,rfl,?_⟩
 refine ifF (tO h5) ?_
 refine ⟨rfl,_,rfl,_,rfl,_,_,_,_,rfl,tQ k,(HNo k).mono (by decide),_,rfl,_,rfl,rfl,_,rfl,?_⟩
 refine ⟨fun m ρ=>∃ j v5 v6,ρ=[.some (zL A k n),.some (qt ts),.own ((xP k n ts j).map Dt.int),.some (cAt k n ts j).dt,.own (pC k n ts (j+1)),v5,v6]∧m=J - j∧j≤J,⟨J,0,_,_,rfl,rfl,Nat.zero_le _⟩,?_⟩
 rintro m ρ' ⟨j,v5,v6,rfl,rfl,hj⟩
 have fl:=ww k n ts j
 have fl':((xP k n ts j).map Dt.int).length=j:=by rw [List.length_map,fl]
 have cl:(pC k n ts (j+1)).length=j+1:=by unfold pC; rw [List.length_map,eE]
 have hcz:cAt k n ts j=k.zero↔eqD (cAt k n ts j).dt k.zero.dt=true:=(Yp (y8 k n ts j) (yF k)).symm
 refine ⟨_,rfl,_,rfl,_,rfl,_,_,rfl,rfl,_,rfl,?_⟩
 by_cases hjJ:j<J
 ·refine ifB (fun _=>ifT rfl ?_) (fun hlt=>⟨_,rfl,_,rfl,_,_,_,_,rfl,tQ k,(HNo k).mono (by decide),_,rfl,rN _,rN _,_,rfl,ifT (nF ?_) ?_⟩)
  rotate_left
  ·have hle:ts.length≤j:=by have:=of_decide_eq_false hlt; omega
   cases e:eqD (cAt k n ts j).dt k.zero.dt with
   | false=>rfl
   | true=>exact absurd (hcz.mpr e) (F.nz j hle hjJ).1
  all_goals
   refine ⟨_,rfl,?_⟩
   rw [fl']
   refine ⟨fun ρ=>ρ=[.some (zL A k n),.some (qt ts),.own ((xP k n ts j).map Dt.int),.some (cAt k n ts j).dt,.own (pC k n ts (j+1)),.some (.int j),v6],?_,?_⟩
   ·refine ⟨_,rfl,_,rfl,_,rfl,_,_,rfl,rfl,_,rfl,?_⟩
    refine ifB (fun hge=>?_) (fun _=>ifF rfl rfl)
    have hge:ts.length≤j:=by have:=of_decide_eq_true hge; omega
    refine ⟨_,rfl,_,_,_,_,rfl,WK k,(HHas k).mono (by decide),_,rfl,_,_,_,rfl,uF _,_,rfl,?_⟩
    rw [(F.nz j hge hjJ).2]
    exact ifF rfl rfl
   ·rintro ρ' rfl
    refine ⟨_,rfl,_,_,_,_,rfl,fQ k,(HSp k h5).mono (by decide),_,rfl,_,rfl,_,rfl,_,_,rfl,by omega,?_⟩
    rw [Int.toNat_natCast,fL]
    refine ⟨_,_,_,_,rfl,uF _,uF _,_,rfl,n,_,j,rfl,wC (y8 k n ts j) (xr ht j),hn,by omega,?_⟩
    refine ⟨_,rfl,_,rfl,_,_,_,rfl,rfl,rfl,by omega,?_⟩
    refine ⟨_,rfl,_,_,_,rfl,rfl,rfl,?_⟩
    refine ⟨_,rfl,_,rfl,by omega,J - (j+1),by omega,j+1,.some (.int j),.some (.tup [.int (fAt k n ts j),(cAt k n ts (j+1)).dt]),?_,rfl,hjJ⟩
    have ef:(xP k n ts j).map Dt.int++[Dt.int (fAt k n ts j)]=(xP k n ts (j+1)).map Dt.int:=by rw [mQ,vv]
    have ec:pC k n ts (j+1)++[(cAt k n ts (j+1)).dt]=pC k n ts (j+1+1):=by unfold pC; rw [jp k n ts (j+1),List.map_append]; rfl
    rw [← ec,← ef]
    rfl
 ·have ej:j=J:=by omega
  subst ej
  refine ifF (decide_eq_false (by rw [fl',ll]; have:=F.le; omega)) ?_
  refine ⟨_,rfl,_,rfl,_,_,_,_,rfl,tQ k,(HNo k).mono (by decide),_,rfl,rN _,rN _,_,rfl,ifF (nT (hcz.mp F.z)) ?_⟩
  exact ⟨_,rfl,_,rfl,_,rfl,_,rfl,rfl,q⟩
abbrev vF:Stmt:=top 38
theorem pV:zg ["way","totals"] ["way","totals"] (defScope vF):=by walk_at "sc"
theorem oj (T:Txt K mg A) (G_trimmed:FOk P w K mg base 1 "trimmed" (oY)) (G_figures_and_carries:DOk P w K mg base 5 "figures_and_carries" (Vs A)) (F:Fun K "settled" "settled" vF f fd):FnOk P w K mg base CX0 6 f fd ["way","totals"] (xV K (ra A)):=by
 refine okF F pV (by walk_at "ln") fun _ _ _ _ _ _ hr ds Q h=>?_
 obtain ⟨k,n,ts,J,rfl,h5,hn,ht,F,hJ,q⟩:=h
 refine ⟨_,(ze (uK (uN G_trimmed (hr.mono (by decide)) rfl (za (zr (zl G_figures_and_carries (hr.mono (by decide)) rfl (za (dv 0) (za (dv 1) zf))) zc (fun _ _=>rfl)) zf)))),?_⟩
 refine ⟨_,rfl,_,rfl,k,n,ts,J,rfl,h5,hn,ht,F,hJ,_,_,_,rfl,rfl,rfl,?_⟩
 exact ⟨_,rfl,q⟩
abbrev xh:Stmt:=top 44
theorem u3:zg ["way","row"] ["way","row"] (defScope xh):=by walk_at "sc"
theorem tw (T:Txt K mg A) (G_fallen:FOkX P w K mg base 4 "fallen" (rd A)) (G_settled:FOk P w K mg base 6 "settled" (ra A)) (F:Fun K "written_row" "written_row" xh f fd):FnOk P w K mg base CX0 7 f fd ["way","row"] (xV K (jx A)):=by
 refine okF F u3 (by walk_at "ln") fun _ _ _ _ _ _ hr ds Q h=>?_
 obtain ⟨k,n,ts,b,rfl,hn,hl,ht,hb,b7,b8,hp,hf,q⟩:=h
 refine ⟨_,(zd (zx (zP (wO T.isinstance T.UZ (dv 0))) (ze (uK (je G_fallen (hr.mono (by decide)) rfl (za (dv 0) (za (dv 1) zf))))) zn)
 (ze (uK (uN G_settled (hr.mono (by decide)) rfl (za (dv 0) (za (dv 1) zf)))))),?_⟩
 refine ⟨_,rfl,_,_,_,_,rfl,qS T k,kiF T k,_,rfl,?_⟩
 by_cases hk:k=.falling
 ·subst hk
  obtain ⟨h,rfl,h0,hpot⟩:=hf rfl
  refine ifT rfl ?_
  rw [List.length_map] at hl
  refine ⟨_,rfl,_,rfl,.falling,n,h,by unfold zB qt; rw [lf],hn,by omega,.inr (.inr ⟨rfl,h0,hpot,fun ss r F=>?_⟩)⟩
  refine q r F.leg ?_ ?_
  ·rw [x9,uQ,uQ,F.eqw]
  ·rw [List.length_map]; have:=F.len; omega
 ·have h5:k.five=true:=by cases k <;> first | rfl | exact absurd rfl hk
  refine ifF (tO h5) ?_
  obtain ⟨J,F,hJ⟩:=lu h5 hn ht hb b7 hp
  refine ⟨_,rfl,_,rfl,k,n,ts,J,rfl,h5,hn,ht,F,by omega,?_⟩
  refine q _ (uX h5 hn ht) (uW F h5 hn ht) ?_
  have:=x_ (xP k n ts J)
  rw [ww] at this
  show (trim (xP k n ts J)).length≤_
  omega
abbrev u8:Stmt:=top 49
theorem sc_shared:zg ["way","row","many","parts"] ["way","row","many"] (defScope u8):=by walk_at "sc"
theorem mz (T:Txt K mg A) (G_held_to_be_writings:DOk P w K mg base 4 "held_to_be_writings" (jG A)) (G_quotients_and_rest:DOk P w K mg base 3 "quotients_and_rest" (dA A)) (G_written_row:FOk P w K mg base 7 "written_row" (jx A)) (F:Fun K "shared" "shared" u8 f fd):FnOk P w K mg base CX0 8 f fd ["way","row","many"] (nP K (.t true false) (pH A)):=by
 refine okT F sc_shared (by walk_at "ln") fun _ _ _ _ _ _ hr ds Q h=>?_
 obtain ⟨k,n,r,m,rfl,hk,ho,q⟩:=h
 refine ⟨_,(zd (zx (zP (wO T.isinstance T.Sw (dv 0))) (ze y7) zn)
 (zd (nH (zl G_held_to_be_writings (hr.mono (by decide)) rfl (za (dv 0) (za (va (za (dv 1) zf)) zf))))
 (zd (zx (zo (sH) (dv 2) zc (zm _)) (ze y7) zn)
 (zd (zp (i:=3) sc_shared.nd rfl (Or.inl rfl) (zl G_quotients_and_rest (hr.mono (by decide)) rfl (za (dv 0) (za (dv 1) (za (dv 2) zf)))))
 (ze (fW (V8 (uN G_written_row (hr.mono (by decide)) rfl (za (dv 0) (za (zr (dv 3) zc (fun _ _=>rfl)) zf)))) (V9 (zr (dv 3) zc (fun _ _=>rfl))))))))),?_⟩
 obtain ⟨hn,hL,⟨hl,hlf⟩,hm,hm2⟩:=id ho
 refine ⟨_,rfl,_,_,_,_,rfl,qS T k,kiP T k,_,rfl,ifF (by cases k <;> first | rfl | exact absurd rfl hk) ?_⟩
 refine ⟨_,rfl,_,rfl,rfl,k,n,[r],rfl,hn,fun r' h'=>by rw [List.mem_singleton.mp h']; exact ⟨hL,by omega⟩,?_⟩
 refine ⟨_,rfl,_,_,rfl,rfl,_,rfl,ifF (decide_eq_false (by omega)) ?_⟩
 refine ⟨_,rfl,_,rfl,_,rfl,k,n,r,m,rfl,hk,ho,fun qs e hq=>?_⟩
 obtain ⟨q1,q2,q3,q4,q5,q6⟩:=hq
 refine ⟨_,rfl,_,rfl,_,_,_,rfl,rfl,rfl,k,n,qs.map Nm.i,14,by rw [jN],hn,by rw [List.length_map]; omega,lc,fun t ht=>?_,by decide,by decide,fun hp=>?_,fun hf=>?_,fun s hs hws hls=>?_⟩
 ·obtain ⟨z,hz,rfl⟩:=List.mem_map.mp ht
  have:=q2 z hz
  exact ⟨by show z.natAbs≤16384; omega,by show (0:Int).natAbs≤_; decide⟩
 ·rw [x9]
  exact p8 hm q6 q5 (mG hn hL hp)
 ·exact ⟨qs,rfl,fun z hz=>(q3 hf z hz).1,mm (B:=30) (q3 hf) (by decide) (by decide) (by rw [q1]; exact hlf hf)⟩
 ·rw [x9] at hws
  rw [List.length_map] at hls
  exact ⟨_,rfl,_,_,_,rfl,rfl,rfl,q s e hs (by omega) q4 q5 (by rw [hws]; exact q6)⟩
abbrev wd:Stmt:=top 57
theorem sc_law_legal:zg ["_law_kind","_law_by","_law_row","_law_place","_law_low","_law_high"] ["_law_kind","_law_by","_law_row"] (defScope wd):=by walk_at "sc"
theorem rJ (T:Txt K mg A) (G__law_span:DOk P w K mg base 1 "_law_span" (oZ)) (F:Fun K "_law_legal" "_law_legal" wd f fd):FnOk P w K mg base CX0 2 f fd ["_law_kind","_law_by","_law_row"] (zq K (jF)):=by
 refine okD F sc_law_legal (by walk_at "ln") fun _ _ _ _ _ _ hr ds Q h=>?_
 obtain ⟨k,n,r,rfl,hn,hL,hl,q⟩:=h
 refine ⟨_,(zd (zx (yN (zP (xS (T:=.list) T.kt T.isinstance T.n_list PyProof.Rows.boot_list (dv 2)))) (ze (zj wz)) zn)
 (zd (uL (j:=3) rfl sc_law_legal.nd rfl (Or.inl rfl) PassesOwn.never rfl T.range (yD rfl T.len (dv 2)) (zd (oR (i:=4) (j:=5) rfl sc_law_legal.nd rfl rfl (Or.inl rfl) (Or.inl rfl) (zl G__law_span (hr.mono (by decide)) rfl (za (dv 0) (za (dv 1) (za (dv 3) zf)))))
 (zV (zx (DW.dt (xW (yN (zP (xS (T:=.int) T.kt T.isinstance T.n_int PyProof.Rows.boot_int (zr (dv 2) (dv 3) (fun _ _=>rfl))))) (xW (zP (xS (T:=.bool) T.kt T.isinstance T.n_bool PyProof.Rows.boot_bool (zr (dv 2) (dv 3) (fun _ _=>rfl)))) (w9 (yN (pf (cq) (cq) (dv 4) (zr (dv 2) (dv 3) (fun _ _=>rfl)) (dv 5))))))) (ze (zj wz)) zn)
 (ze (zx (DW.dt (yy (zo (yr hr) (dv 0) zc (zm _)) (yy (zo (rR) (dv 3) zc (zm _)) (yy (zo (yr hr) (zr (dv 2) (dv 3) (fun _ _=>rfl)) (dv 1) (zm _)) (yx (zo (rQ hr) (zr (dv 2) (zh zN (dv 3) zc) (fun _ _=>rfl)) zc (zm _))))))) (ze (zj wz)) zn)))))
 (ze (zj (WL (tU (yr hr) (yD rfl T.len (dv 2)) zc (zm _)) (qd (tU (rQ hr) (zr (dv 2) (ya zc) (fun _ _=>rfl)) zc (zm _)))))))),?_⟩
 have ll:=zA r
 walk_at "rd"
 refine ⟨_,fun i ρ=>∃ v3 v4 v5,ρ=[.some (.int k.num),.some (.int n),.some (zB r),v3,v4,v5],rfl,by omega,by omega,⟨_,_,_,rfl⟩,?_,?_⟩
 ·rintro i ρ' hi ⟨v3,v4,v5,rfl⟩
  have hi':i<r.length:=by omega
  obtain ⟨f1,f2⟩:=hL.fig i hi'
  refine ⟨_,rfl,_,rfl,_,rfl,k,n,i,rfl,hn,_,_,rfl,?_⟩
  refine ⟨fun ρ=>ρ=[.some (.int k.num),.some (.int n),.some (zB r),.some (.int i),.some (.int (k.low n i)),.some (.int (k.high n i))],?_,?_⟩
  ·refine ⟨_,rfl,_,rfl,_,_,_,rfl,rfl,xo hi',?_⟩
   walk_at "rd"
   refine ⟨_,_,_,rfl,rfl,xo hi',?_⟩
   walk_at "rd"
   refine ⟨_,_,_,rfl,rfl,xo hi',?_⟩
   refine ⟨_,_,rfl,rfl,_,rfl,ifT (decide_eq_true f1) ?_⟩
   refine ⟨_,rfl,_,_,rfl,rfl,_,rfl,?_⟩
   rw [decide_eq_true f2]
   exact ifF rfl rfl
  ·rintro ρ' rfl
   by_cases hk:k=.falling
   ·subst hk
    refine ⟨_,rfl,rfl,rfl,_,rfl,ifT rfl ?_⟩
    refine ⟨_,rfl,_,_,rfl,rfl,_,rfl,?_⟩
    refine ifB (fun h3=>?_) (fun h3=>ifF rfl ⟨_,_,_,rfl⟩)
    have h3:(0:Int)<i:=of_decide_eq_true h3
    refine ⟨_,rfl,_,rfl,_,_,_,rfl,rfl,xo hi',_,rfl,rfl,rfl,_,rfl,?_⟩
    refine ifB (fun h4=>?_) (fun h4=>ifF rfl ⟨_,_,_,rfl⟩)
    refine ⟨_,rfl,_,rfl,_,_,rfl,rfl,_,_,_,rfl,rfl,vt (by omega) (by omega),rfl,rfl,_,rfl,ifF (nT (eqI ?_)) ⟨_,_,_,rfl⟩⟩
    have e1:((i:Int) - 1).toNat=i - 1:=by omega
    rw [e1]
    have hi1:i - 1+1=i:=by omega
    exact hL.fal rfl (i - 1) (by omega) (by rw [hi1]; exact rP h4)
   ·have en:eqD (.int k.num) (.int 4)=false:=by cases k <;> first | rfl | exact absurd rfl hk
    exact ⟨_,rfl,rfl,rfl,_,rfl,ifF en (ifF rfl ⟨_,_,_,rfl⟩)⟩
 ·rintro ρ' ⟨v3,v4,v5,rfl⟩
  walk_at "rd"
  rcases zF r with rfl | ⟨l,y,rfl⟩
  ·exact ifT rfl q
  ·have ez:(l++[y]).getD ((l++[y]).length - 1) 0=y:=by rw [List.length_append]; exact getD_snoc_eq
   have hy:y≠0:=by
    rcases hL.end_ with h | h
    ·simp at h
    ·rw [ez] at h; exact h
   refine ifF (neI (by rw [ll,List.length_append]; simp; omega)) ?_
   refine ⟨_,rfl,_,rfl,_,_,_,rfl,rfl,wB,rfl,rfl,?_⟩
   rw [neI hy]
   exact q
abbrev wa:Stmt:=top 60
theorem sc_law_right:zg ["_law_kind","_law_by","_law_way_here","_law_row","_law_many","_law_handed","_law_found","_law_kept"] ["_law_kind","_law_by","_law_way_here","_law_row","_law_many"] (defScope wa):=by walk_at "sc"
theorem rG (T:Txt K mg A) (G_shared:TOk P w K mg base 8 "shared" (.t true false) (pH A)) (G__law_legal:DOk P w K mg base 2 "_law_legal" (jF)) (G__law_number:DOk P w K mg base 2 "_law_number" (o3)) (F:Fun K "_law_right" "_law_right" wa f fd):FnOk P w K mg base CX0 9 f fd ["_law_kind","_law_by","_law_way_here","_law_row","_law_many"] (zq K (rb A)):=by
 refine okD F sc_law_right (by walk_at "ln") fun _ _ _ _ _ _ hr ds Q h=>?_
 obtain ⟨k,n,r,m,rfl,ho,hm,hm2,q⟩:=h
 refine ⟨_,(zd (zp (i:=5) sc_law_right.nd rfl (Or.inl rfl) (DF.de (uM rfl T.n_list (dv 3))))
 (fS (i:=6) sc_law_right.nd rfl (Or.inl rfl) (f_ G_shared (hr.mono (by decide)) rfl (za (dv 2) (za (dv 5) (za (dv 4) zf))))
 (oQ (DW.dt (xW (yN (zP (xS (T:=.tuple) T.kt T.isinstance T.n_tuple PyProof.Rows.boot_tuple (dv 6)))) (xW (zo (rQ hr) (yD rfl T.len (dv 6)) zc (zm _)) (xW (zo (rQ hr) (dv 5) (dv 3) (zm _)) (w9 (yN (zP (zl G__law_legal (hr.mono (by decide)) rfl (za (dv 0) (za (dv 1) (za (zr (dv 6) zc (fun _ _=>rfl)) zf))))))))))) (ze (zj tT))
 (oQ (DW.dt (xW (yN (zP (xS (T:=.int) T.kt T.isinstance T.n_int PyProof.Rows.boot_int (zr (dv 6) zc (fun _ _=>rfl))))) (xW (zP (xS (T:=.bool) T.kt T.isinstance T.n_bool PyProof.Rows.boot_bool (zr (dv 6) zc (fun _ _=>rfl)))) (w9 (yN (pf (cq) (sH) zc (zr (dv 6) zc (fun _ _=>rfl)) (dv 4))))))) (ze (zj tT))
 (oQ (zo (rQ hr) (zh zC (zh z4 (dv 4) (zl G__law_number (hr.mono (by decide)) rfl (za (dv 0) (za (dv 1) (za (zr (dv 6) zc (fun _ _=>rfl)) zf))))) (zr (dv 6) zc (fun _ _=>rfl))) (zl G__law_number (hr.mono (by decide)) rfl (za (dv 0) (za (dv 1) (za (dv 3) zf)))) (zm _)) (ze (zj tT))
 (fU (i:=6) (j:=7) (by decide) sc_law_right.nd rfl (Or.inl rfl) (uM rfl T.n_list (zr (dv 6) zc (fun _ _=>rfl)))
 (fV (i:=6) zc
 (zV (zx (Yr (DW.dt (xW (zo (rQ hr) (dv 5) (dv 3) (zm _)) (w9 (zo (rQ hr) (zr (zl G_shared.dok (hr.mono (by decide)) rfl (za (dv 2) (za (dv 5) (za (dv 4) zf)))) zc (fun _ _=>rfl)) (dv 7) (zm _)))))) (ze (zj tT)) zn)
 (ze (uJ 7)))))))))),?_⟩
 obtain ⟨hk,hn,hL,_⟩:=id ho
 obtain ⟨hl,hlf⟩:=ho.len
 refine ⟨_,rfl,_,rfl,?_⟩
 refine ⟨_,rfl,_,rfl,_,rfl,k,n,r,m,rfl,hk,⟨hn,hL,⟨by omega,fun z=>by have:=hlf z; omega⟩,hm,hm2⟩,fun s e hs hls e0 e1 hw=>⟨_,_,_,rfl,rfl,?_⟩⟩
 obtain ⟨x,ex⟩:=yI hk (zJ k n r)
 obtain ⟨y,ey⟩:=yI hk (zJ k n s)
 have os:=ho.quo hs hm e0 e1 hw
 have hb:=os.bd
 rw [ex,ey] at hw
 rw [ey] at hb
 have hw:x=m*y+e:=hw
 have hb:y.natAbs<2 ^ 800:=hb
 have bdr:=oM hn hL (by omega)
 have bds:=oM hn hs (by omega)
 refine ⟨_,rfl,_,rfl,_,rfl,ifF rfl ?_⟩
 refine ⟨_,rfl,_,rfl,rfl,rfl,_,rfl,ifF rfl ?_⟩
 refine ⟨_,rfl,_,rfl,xO r,xO r,_,rfl,ifF (nT (oP r)) ?_⟩
 refine ⟨_,rfl,_,rfl,_,rfl,_,_,_,rfl,rfl,rfl,k,n,s,rfl,hn,hs,by omega,_,rfl,ifF rfl ?_⟩
 refine ⟨_,rfl,_,_,_,rfl,rfl,rfl,_,rfl,_,rfl,ifF rfl ?_⟩
 refine ⟨_,rfl,_,_,_,rfl,rfl,rfl,_,rfl,_,rfl,ifF rfl ?_⟩
 refine ⟨_,rfl,_,_,_,rfl,rfl,rfl,_,_,rfl,rfl,_,rfl,ifT (decide_eq_true e0) ?_⟩
 refine ⟨_,rfl,_,_,rfl,rfl,_,rfl,?_⟩
 rw [decide_eq_true e1]
 refine ifF rfl ?_
 refine ⟨_,rfl,_,rfl,_,rfl,_,rfl,_,_,_,rfl,rfl,rfl,k,n,s,rfl,hn,by omega,bds,?_⟩
 rw [ey]
 refine ⟨_,_,rfl,rfl,ou hm2 hb (by decide),_,rfl,_,_,_,rfl,rfl,rfl,_,_,rfl,rfl,_,rfl,_,rfl,_,rfl,k,n,r,rfl,hn,by omega,bdr,?_⟩
 rw [ex]
 refine ⟨rfl,rfl,_,rfl,ifF (nT (eqI hw.symm)) ?_⟩
 refine ⟨_,rfl,_,_,_,rfl,rfl,rfl,_,rfl,_,_,rfl,mi s,rfl,?_⟩
 refine ⟨by rw [zA]; omega,?_⟩
 refine ⟨fun ρ=>∃ v6,ρ=[.some (.int k.num),.some (.int n),.some (zL A k n),.some (zB r),.some (.int m),.some (zB r),v6,.own (s.map Dt.int)],?_,?_⟩
 ·refine ⟨_,rfl,_,rfl,xO r,xO r,_,rfl,ifF (nT (oP r)) ?_⟩
  refine ⟨_,rfl,_,rfl,_,rfl,k,n,r,m,rfl,hk,⟨hn,hL,⟨by omega,fun z=>by have:=hlf z; omega⟩,hm,hm2⟩,fun s2 e2 hs2 hls2 e20 e21 hw2=>?_⟩
  obtain ⟨y2,ey2⟩:=yI hk (zJ k n s2)
  rw [ex,ey2] at hw2
  have hw2:x=m*y2+e2:=hw2
  obtain rfl:s2=s:=YV hn hs2 hs (by rw [ey,ey2,lC (hw2.symm.trans hw) e20 e21 e0 e1])
  exact ⟨_,_,_,rfl,rfl,rfl,_,rfl,xO _,xO _,_,rfl,ifF (nT (oP _)) ⟨_,rfl⟩⟩
 ·rintro ρ ⟨v6,rfl⟩
  exact ⟨_,rfl,q s os⟩
abbrev u9:Stmt:=top 61
theorem sc_law:zg ["_law_script","_law_kind","_law_by","_law_way_here","_law_row","_law_cell","_law_mixed_here","_law_own","_law_many","_law_k"] ["_law_script"] (defScope u9):=by walk_at "sc"
theorem cp (T:Txt K mg A) (G__law_pick:DOk P w K mg base 2 "_law_pick" (jD)) (G__law_cell_at:DOk P w K mg base 1 "_law_cell_at" (jI)) (G__law_way:DOk P w K mg base 5 "_law_way" (jy A)) (G__law_figures:DOk P w K mg base 2 "_law_figures" (nX)) (G__law_mixed:DOk P w K mg base 1 "_law_mixed" (uO)) (G__law_number:DOk P w K mg base 2 "_law_number" (o3)) (G__law_right:DOk P w K mg base 9 "_law_right" (rb A)) (F:Fun K "law" "law" u9 f fd):FnOk P w K mg base CX0 10 f fd ["_law_script"] (zq K (nV)):=by
 refine okD F sc_law (by walk_at "ln") fun _ _ _ _ _ _ hr ds Q h=>?_
 obtain ⟨ns,rfl,hns,q⟩:=h
 refine ⟨_,(zd (oR (i:=1) (j:=2) rfl sc_law.nd rfl rfl (Or.inl rfl) (Or.inl rfl) (zl G__law_pick (hr.mono (by decide)) rfl (za (zl G__law_cell_at (hr.mono (by decide)) rfl (za (dv 0) (za zc zf))) zf)))
 (zV (zx (zo (yr hr) (dv 1) zc (zm _)) (ze (zp (i:=1) sc_law.nd rfl (Or.inl rfl) zc)) zn)
 (zd (zp (i:=3) sc_law.nd rfl (Or.inl rfl) (zl G__law_way (hr.mono (by decide)) rfl (za (dv 1) (za (dv 2) zf))))
 (zd (zp (i:=4) sc_law.nd rfl (Or.inl rfl) (zl G__law_figures (hr.mono (by decide)) rfl (za (dv 1) (za (dv 2) (za (jh (dv 0) (nJ zc) (nJ (zr (va (za zc (za zc zf))) (eD rfl T.n_int (tU (yr hr) (dv 1) zc (zm _))) (fun _ _=>rfl)))) zf)))))
 (zd (zp (i:=5) sc_law.nd rfl (Or.inl rfl) (zl G__law_cell_at (hr.mono (by decide)) rfl (za (dv 0) (za zc zf))))
 (zd (zp (i:=6) sc_law.nd rfl (Or.inl rfl) (zl G__law_mixed (hr.mono (by decide)) rfl (za (dv 5) zf)))
 (zd (zp (i:=7) sc_law.nd rfl (Or.inl rfl) (Yz rfl T.n_abs (za (zl G__law_number (hr.mono (by decide)) rfl (za (dv 1) (za (dv 2) (za (dv 4) zf)))) zf)))
 (zd (zp (i:=8) sc_law.nd rfl (Or.inl rfl) (zr (va (za zc (za zc (za (zh zC zc (zh yB (zh xp (dv 6) zc) zc)) (za (zh zC zc (zh yB (dv 5) (zh Xw zc zc))) (za (Yy rfl rfl T.n_max (za zc (za (dv 7) zf))) (za (zh zC (dv 7) zc) zf))))))) (zh yB (dv 6) zc) (fun _ _=>rfl)))
 (zd (uL (j:=9) rfl sc_law.nd rfl (Or.inl rfl) PassesOwn.never rfl T.range zc (zd (zp (i:=4) sc_law.nd rfl (Or.inl rfl) (zl G__law_right (hr.mono (by decide)) rfl (za (dv 1) (za (dv 2) (za (dv 3) (za (dv 4) (za (dv 8) zf)))))))
 (zd (zx (kT (dv 4)) (ze (zj wz)) zn)
 (ze (zp (i:=8) sc_law.nd rfl (Or.inl rfl) (zh zC zc (zh yB (zh zC (dv 8) (dv 9)) (zh zC (dv 6) zc))))))))
 (ze (zj wz))))))))))),?_⟩
 refine ⟨_,rfl,ns,_,rfl,by decide,fun z0=>⟨_,rfl,fun k n hn=>⟨_,_,rfl,?_⟩⟩⟩
 refine ⟨fun ρ=>∃ k:Kd,ρ=[.some (.scr ns),.some (.int k.num),.some (.int n),.none,.none,.none,.none,.none,.none,.none]∧k.ok n∧k≠.pairs,?_,?_⟩
 ·by_cases hp:k=.pairs
  ·subst hp
   exact ⟨_,rfl,rfl,rfl,_,rfl,ifT rfl ⟨.falling,rfl,hn,fun z=>nomatch z⟩⟩
  ·exact ⟨_,rfl,rfl,rfl,_,rfl,ifF (by cases k <;> first | rfl | exact absurd rfl hp) ⟨k,rfl,hn,hp⟩⟩
 rintro ρ ⟨k,rfl,hn,hk⟩
 have hc:∃ c:Int,atI [Dt.int 102,.int 62] (if eqD (.int k.num) (.int 4)=true then 1 else 0)=some (.int c):=by cases k <;> exact ⟨_,rfl⟩
 obtain ⟨c,ec⟩:=hc
 obtain ⟨cs,ecs,lcs,_⟩:=jn ns (some 2) (some c)
 refine ⟨_,rfl,_,rfl,k,n,rfl,hn,?_⟩
 walk_at "rd"
 refine ⟨_,_,_,rfl,rfl,ec,_,rfl,_,rfl,?_⟩
 rw [ecs]
 refine ⟨k,n,cs,rfl,hn,by omega,fun r hL hl=>?_⟩
 have o0:=Ok34.start hk hn hL (by omega)
 refine ⟨_,rfl,ns,_,rfl,by decide,fun z1=>⟨_,rfl,z1,rfl,fun mx hmx=>?_⟩⟩
 obtain ⟨x,ex⟩:=yI hk (zJ k n r)
 have hb:=o0.bd
 rw [ex] at hb
 have hb:x.natAbs<2 ^ 800:=hb
 refine ⟨_,rfl,_,rfl,_,rfl,k,n,r,rfl,hn,by omega,oM hn hL (by omega),?_⟩
 rw [ex]
 refine ⟨x,rfl,?_⟩
 obtain ⟨w,ew⟩:∃ w:Int,w=if x<0 then -x else x:=⟨_,rfl⟩
 rw [← ew]
 have hw:0≤w∧w.natAbs < 2 ^ 800:=by rw [ew]; split <;> omega
 walk_at "rd"
 have b0:=Int.fmod_nonneg_of_pos (mx.fdiv 6) (show (0:Int)<99 by decide)
 have b1:=Int.fmod_lt_of_pos (mx.fdiv 6) (show (0:Int)<99 by decide)
 have c0:=Int.fmod_nonneg_of_pos z1 (show (0:Int)<10 ^ Int.toNat 60 by decide)
 have c1:=Int.fmod_lt_of_pos z1 (show (0:Int)<10 ^ Int.toNat 60 by decide)
 have e10:(10:Int) ^ Int.toNat 60=((10 ^ 60:Nat):Int):=by decide
 have x1:10 ^ 60+1≤2 ^ 800:=Nat.le_trans (show 10 ^ 60+1≤2 ^ 200 by decide) (Nat.pow_le_pow_right (by decide) (by decide))
 have x2:2 ^ 801≤2 ^ 9000:=Nat.pow_le_pow_right (by decide) (by decide)
 have x3:2 ^ 801=2*2 ^ 800:=Nat.pow_succ'
 rw [x3] at x2
 have x4:100≤2 ^ 800:=Nat.le_trans (show 100≤10 ^ 60+1 by decide) x1
 have x5:∀ z:Int,z<((10 ^ 60:Nat):Int)→0≤z→(1+z).natAbs≤2 ^ 800:=fun z h h0=>by
  generalize 2 ^ 800=X at *
  generalize 10 ^ 60=Y at *
  omega
 have x6:=x5 _ (e10 ▸ c1) c0
 clear x5 c1 e10 x1 x3
 obtain ⟨Y,eY⟩:∃ Y:Nat,Y=2 ^ 9000:=⟨_,rfl⟩
 rw [← eY] at x2
 generalize 2 ^ 800=X at *
 obtain ⟨m,em,m1,m2⟩:=dO (a:=1) (b:=2) (c:=1 + (mx.fdiv 6).fmod 99) (d:=1 + z1.fmod (10 ^ Int.toNat 60)) (e:=if w > 1 then w else 1) (f:=w + 1) (z:=mx) (fun m=>1≤m∧m.natAbs≤X + 10) ⟨⟨by decide,by show (1:Nat)≤_; omega⟩,⟨by decide,by show (2:Nat)≤_; omega⟩,⟨by omega,by omega⟩,⟨by omega,by omega⟩,by split <;> exact ⟨by omega,by omega⟩,⟨by omega,by omega⟩⟩
 refine ⟨_,_,_,rfl,rfl,em,?_⟩
 refine ⟨_,fun i ρ=>∃ (s:List Int) (m:Int) (v9:Sl),ρ=[.some (.scr ns),.some (.int k.num),.some (.int n),.some (zL A k n),.some (zB s),.some (.int z1),.some (.int mx),.some (.int w),.some (.int m),v9]∧Ok34 k n s∧1≤m∧m.natAbs≤X+10+4*i,rfl,by decide,by decide,⟨r,m,_,rfl,o0,m1,m2⟩,?_,?_⟩
 ·rintro i ρ' hi ⟨s,m,v9,rfl,os,hm,hmb⟩
  have hi:i<3:=hi
  refine ⟨_,rfl,_,rfl,_,rfl,_,rfl,_,rfl,k,n,s,m,rfl,os,hm,by rw [← eY]; omega,fun s' os'=>?_⟩
  refine ⟨_,rfl,_,rfl,ifF rfl ?_⟩
  obtain ⟨d1,d2,d3⟩:=qc (m+i) (mx+7) (by omega)
  have d4:=p8 (by omega) d1 d3 (by omega)
  have d5:=Int.mul_nonneg (show 0≤mx+7 by omega) d4
  refine ⟨_,rfl,_,rfl,_,_,rfl,rfl,_,rfl,_,_,rfl,rfl,_,_,rfl,rfl,(by show mx+7≠0; omega),_,_,rfl,rfl,?_⟩
  exact ⟨s',_,_,rfl,os',by omega,by omega⟩
 ·rintro ρ' ⟨s,m,v9,rfl,os,hm,hmb⟩
  exact q
end
section
variable (K:PySem.W.Frag)
def FX (n q:Str) (st:Stmt) (f:Addr):Prop:=∃ oc od kV dc pm an cd ct sl,K.lookup f=some ⟨oc,od,.func (PySem.W.fnOf n q (defArgs st) (defBody st) (defScope st) .none kV dc pm an cd ct),sl⟩∧PySem.W.codeIn K cd q=true∧PySem.W.keepIn K (.ref f)=true
def FD (n:Str) (st:Stmt) (f:Addr):Prop:=PySem.W.nsIn K mainGlobals n=some (some (.ref f))∧FX K n n st f
def FM (n q:Str) (st:Stmt) (f:Addr):Prop:=PySem.W.isFn K (.ref f)=true∧FX K n q st f
def Fi (C:Addr) (n:Str) (f:Addr):Prop:=PySem.W.findIn K (.ref C) n=some (some (.ref f))
def Ki (C D:Addr) (b:Bool):Prop:=PySem.W.kitOne K (.ref C) (.ref D)=some b
def Gc (n:Str) (C:Addr):Prop:=PySem.W.nsIn K mainGlobals n=some (some (.ref C))
def Zn (n:Str):Prop:=PySem.W.nsIn K mainGlobals n=some none
structure ClR (C:Addr) (x:Str):Prop where
 cls:Cls K C
 mks:PySem.W.makesIn K C=true
 kc:PySem.W.keepIn K (.ref C)=true
 na:PySem.W.findIn K (.ref C) x=some none
structure IR (C:Addr):Prop where
 ia:PySem.W.findIn K (.ref C) "__class__"=some (some (.builtin "object.__class__"))
 im:PySem.W.mroIn K C (.type "object")=some true
variable {K} {n q:Str} {st:Stmt} {f:Addr}
theorem FX.mk {oc od kV dc pm an cd ct sl} (l:K.lookup f=some ⟨oc,od,.func (PySem.W.fnOf n q (defArgs st) (defBody st) (defScope st) .none kV dc pm an cd ct),sl⟩) (c:PySem.W.codeIn K cd q=true) (k:PySem.W.keepIn K (.ref f)=true):FX K n q st f:=⟨_,_,_,_,_,_,_,_,_,l,c,k⟩
theorem FX.get (r:FX K n q st f) (ps:List Str) (h:∀ (kV doc pm:Value) (an:Option Addr) (cdv ct:Value) (us:List Value),us.length=ps.length→bindArgs (PySem.W.fnOf n q (defArgs st) (defBody st) (defScope st) .none kV doc pm an cdv ct) ⟨us,[]⟩=pure (ps.zip us)):∃ fd,Fun K n q st f fd∧Binds K fd ps []:=
 let ⟨_,_,_,_,_,_,_,_,_,l,c,k⟩:=r; ⟨_,oK l c k,(oK l c k).binds h⟩
theorem FD.get (r:FD K n st f) {h:Heap} {mg:Str→Option Value} (X:K.In h) (G:h.Ns mainGlobals mg) (ps:List Str) (h:∀ (kV doc pm:Value) (an:Option Addr) (cdv ct:Value) (us:List Value),us.length=ps.length→bindArgs (PySem.W.fnOf n n (defArgs st) (defBody st) (defScope st) .none kV doc pm an cdv ct) ⟨us,[]⟩=pure (ps.zip us)):∃ fd,mg n=some (.ref f)∧Fun K n n st f fd∧Binds K fd ps []:=
 let ⟨fd,F,b⟩:=r.2.get ps h; ⟨fd,PySem.W.mg_of X G r.1,F,b⟩
theorem mkr (l:PySem.W.OpenLaw) (w:World) (base:Heap) {mg:Str→Option Value} {C:Addr} {k:Nat} {fd:FuncData} {ps:List Str} {S:DSp} (c:Cls K C) (a:Fi K C n f) (r:FM K n q st f) (F:Fun K n q st f fd) (b:Binds K fd ps []) (o:FnOk l.prog w K mg base CX0 k f fd ps (zq K S)):MOk l.prog w K mg base k C n S:=.mk c ⟨_,_,_,⟨a,r.1,F.kp⟩,b,o⟩
theorem FM.get (r:FM K n q st f) (ps:List Str) (h:∀ (kV doc pm:Value) (an:Option Addr) (cdv ct:Value) (us:List Value),us.length=ps.length→bindArgs (PySem.W.fnOf n q (defArgs st) (defBody st) (defScope st) .none kV doc pm an cdv ct) ⟨us,[]⟩=pure (ps.zip us)):∃ fd,Fun K n q st f fd∧Binds K fd ps []:=r.2.get ps h
end
theorem all_mk {l:PySem.W.OpenLaw} {w:World} {K:PySem.W.Frag} {h:Heap} {mg:Str→Option Value} {fa:Addr} (X:K.In h) (G:h.Ns mainGlobals mg) (hfa:mg "law"=some (.ref fa))
 {UI UJ UK UL UF UD UY f1 f2 f3 f4 f5 f6 f7 f8 f9 f10 f11 f12 f13 f14 f15 f16 f17 f18 f19 f20 f21 f22 f23 f24 f25 f26 f27 f28 f29 f30 f31 f32 f33 f34 f35 f36 f37 f38 f39 f40 f41 f42 f43 f44 f45 f46 f47 f48 f49 f50 f51 f52 f53 f54 f55 f56 f57 f58 f59 f60 f61 f62 f63 f64:Addr}
 (Tz:Gc K "Plain" UI)
 (TC:Gc K "Below" UJ)
 (TD:Gc K "Balanced" UK)
 (TF:Gc K "Growing" UL)
 (Ti:Gc K "Falling" UF)
 (Tj:Gc K "Pairs" UD)
 (TH:Gc K "TooLess" UY)
 (r1:FD K "_law_mixed" wc f1)
 (r2:FD K "_law_pick" wU f2)
 (r3:FD K "_law_cell_at" xj f3)
 (r4:FD K "is_whole" wW f4)
 (r5:FD K "bounded" vJ f5)
 (TJ:Fi K UI "__init__" f6)
 (r6:FM K "__init__" "Plain.__init__" yO f6)
 (TK:Fi K UJ "__init__" f7)
 (r7:FM K "__init__" "Below.__init__" yQ f7)
 (TL:Fi K UK "__init__" f8)
 (r8:FM K "__init__" "Balanced.__init__" yj f8)
 (TM:Fi K UL "__init__" f9)
 (r9:FM K "__init__" "Growing.__init__" yt f9)
 (TN:Fi K UF "__init__" f10)
 (r10:FM K "__init__" "Falling.__init__" yu f10)
 (TQ:Fi K UD "__init__" f11)
 (r11:FM K "__init__" "Pairs.__init__" yP f11)
 (r12:FD K "_law_way" vG f12)
 (r13:FD K "_law_span" wT f13)
 (r14:FD K "_law_figures" xi f14)
 (r15:FD K "_law_next" wV f15)
 (r16:FD K "_law_number" xE f16)
 (r17:FD K "has_mosts_above_noughts_alone" zD f17)
 (TR:Fi K UI "low" f18)
 (TU:Fi K UJ "low" f18)
 (TV:Fi K UL "low" f18)
 (TW:Fi K UF "low" f18)
 (TX:Fi K UD "low" f18)
 (r18:FM K "low" "Way.low" vL f18)
 (TY:Fi K UK "low" f19)
 (r19:FM K "low" "Balanced.low" y0 f19)
 (TZ:Fi K UI "high" f20)
 (r20:FM K "high" "Plain.high" xH f20)
 (T0:Fi K UJ "high" f21)
 (r21:FM K "high" "Below.high" xJ f21)
 (T3:Fi K UK "high" f22)
 (r22:FM K "high" "Balanced.high" yM f22)
 (T4:Fi K UL "high" f23)
 (r23:FM K "high" "Growing.high" yY f23)
 (T5:Fi K UF "high" f24)
 (r24:FM K "high" "Falling.high" yZ f24)
 (T6:Fi K UD "high" f25)
 (r25:FM K "high" "Pairs.high" xI f25)
 (r26:FD K "has_figures_alone" ye f26)
 (r27:FD K "is_writing" xF f27)
 (r28:FD K "held_to_be_writings" zY f28)
 (r29:FD K "quotients_in_falling" zW f29)
 (T7:Fi K UI "ratio" f30)
 (r30:FM K "ratio" "Plain.ratio" xk f30)
 (T8:Fi K UJ "ratio" f31)
 (r31:FM K "ratio" "Below.ratio" xn f31)
 (T9:Fi K UK "ratio" f32)
 (r32:FM K "ratio" "Balanced.ratio" yC f32)
 (T_:Fi K UL "ratio" f33)
 (r33:FM K "ratio" "Growing.ratio" yL f33)
 (Sa:Fi K UD "ratio" f34)
 (r34:FM K "ratio" "Pairs.ratio" xm f34)
 (r35:FD K "quotients_by_ratio" z6 f35)
 (r36:FD K "quotients_and_rest" z7 f36)
 (r37:FD K "held_to_be_a_heap" yd f37)
 (r38:FD K "step_at" vE f38)
 (r39:FD K "how_often" wg f39)
 (r40:FD K "changes" vI f40)
 (r41:FD K "do_steps" wX f41)
 (r42:FD K "trimmed" vC f42)
 (r43:FD K "steps_and_writing" yc f43)
 (r44:FD K "fallen" u_ f44)
 (r45:FD K "as_pair" vK f45)
 (r46:FD K "added" rA f46)
 (r47:FD K "thing_at" wS f47)
 (Sb:Fi K UI "nought" f48)
 (Sc:Fi K UJ "nought" f48)
 (Sd:Fi K UK "nought" f48)
 (Se:Fi K UL "nought" f48)
 (Sf:Fi K UF "nought" f48)
 (r48:FM K "nought" "Way.nought" xG f48)
 (Sg:Fi K UD "nought" f49)
 (r49:FM K "nought" "Pairs.nought" yX f49)
 (Sh:Fi K UI "has" f50)
 (Si:Fi K UL "has" f50)
 (Sj:Fi K UF "has" f50)
 (r50:FM K "has" "Way.has" vM f50)
 (Sk:Fi K UJ "has" f51)
 (r51:FM K "has" "Below.has" wl f51)
 (Sm:Fi K UK "has" f52)
 (r52:FM K "has" "Balanced.has" y1 f52)
 (r53:FD K "is_pair" vH f53)
 (Sn:Fi K UD "has" f54)
 (r54:FM K "has" "Pairs.has" wk f54)
 (So:Fi K UI "split" f55)
 (Sq:Fi K UJ "split" f55)
 (Sr:Fi K UK "split" f55)
 (Ss:Fi K UL "split" f55)
 (r55:FM K "split" "Way.split" wj f55)
 (r56:FD K "multiplied" xD f56)
 (Su:Fi K UD "split" f57)
 (r57:FM K "split" "Pairs.split" xl f57)
 (r58:FD K "figures_and_carries" zZ f58)
 (r59:FD K "settled" vF f59)
 (r60:FD K "written_row" xh f60)
 (r61:FD K "shared" u8 f61)
 (r62:FD K "_law_legal" wd f62)
 (r63:FD K "_law_right" wa f63)
 (r64:FD K "law" u9 f64)
 (UR:ClR K UI "base")
 (US:ClR K UJ "base")
 (UT:ClR K UK "half")
 (UU:ClR K UL "first")
 (UV:ClR K UF "most")
 (UW:ClR K UD "most")
 (Tk:IR K UI)
 (U3:Ki K UI UF false)
 (U4:Ki K UI UD false)
 (Tl:IR K UJ)
 (U5:Ki K UJ UF false)
 (U6:Ki K UJ UD false)
 (Tm:IR K UK)
 (U7:Ki K UK UF false)
 (U8:Ki K UK UD false)
 (Tn:IR K UL)
 (U9:Ki K UL UF false)
 (U_:Ki K UL UD false)
 (To:IR K UF)
 (UX:Ki K UF UF true)
 (Ta:Ki K UF UD false)
 (Tp:IR K UD)
 (Tb:Ki K UD UF false)
 (Tc:Ki K UD UD true)
 (in_:PySem.W.specialIn K (.builtin "object.__class__") "__get__"=some (some (.builtin "getset_descriptor.__get__")))
 (it_:PySem.W.takesIn K (.builtin "object.__class__")=some true)
 (Td:ExcK K UY)
 (Tg:dE K UY)
 (Th:Ki K UY UY true)
 (z_isinstance:Zn K "isinstance")
 (z_int:Zn K "int")
 (z_bool:Zn K "bool")
 (z_tuple:Zn K "tuple")
 (z_list:Zn K "list")
 (z_len:Zn K "len")
 (z_range:Zn K "range")
 (z_enumerate:Zn K "enumerate")
 (z_min:Zn K "min")
 (z_max:Zn K "max")
 (z_abs:Zn K "abs"):
 ∃ fd:FuncData,(∀ (s:Shared) (v:Value),BindsTo s fd ⟨[v],[]⟩ [("_law_script",v)])∧∀ base:Heap,K.In base→base.Ns mainGlobals mg→FnOk l.prog w K mg base CX0 10 fa fd ["_law_script"] (zq K (nV)):=by
 have mn {n:Str} (z:Zn K n):=PySem.W.mg_none_of X G z
 have mo {n:Str} {C:Addr} (z:Gc K n C):=PySem.W.mg_of X G z
 let A:Adr:=⟨UI,UJ,UK,UL,UF,UD,UY⟩
 have T:Txt K mg A:=⟨VZ K,mn z_isinstance,mn z_int,mn z_bool,mn z_tuple,mn z_list,mn z_len,mn z_range,mn z_enumerate,mn z_min,mn z_max,mn z_abs,UR.cls,UR.na,US.cls,US.na,UT.cls,UT.na,UU.cls,UU.na,UV.cls,UV.na,UW.cls,UW.na,mo Ti,mo Tj,⟨UR.cls,Tk.1,in_,it_,Tk.2⟩,U3,U4,⟨US.cls,Tl.1,in_,it_,Tl.2⟩,U5,U6,⟨UT.cls,Tm.1,in_,it_,Tm.2⟩,U7,U8,⟨UU.cls,Tn.1,in_,it_,Tn.2⟩,U9,U_,⟨UV.cls,To.1,in_,it_,To.2⟩,UX,Ta,⟨UW.cls,Tp.1,in_,it_,Tp.2⟩,Tb,Tc,mo TH,Td,Tg,Th⟩
 obtain ⟨_,m1,F1,b1⟩:=r1.get X G ["_law_cell"] (by walk_at "bm")
 obtain ⟨_,m2,F2,b2⟩:=r2.get X G ["_law_cell"] (by walk_at "bm")
 obtain ⟨_,m3,F3,b3⟩:=r3.get X G ["_law_script","_law_k"] (by walk_at "bm")
 obtain ⟨_,m4,F4,b4⟩:=r4.get X G ["value"] (by walk_at "bm")
 obtain ⟨_,m5,F5,b5⟩:=r5.get X G ["number","least","most"] (by walk_at "bm")
 obtain ⟨_,F6,b6⟩:=r6.get ["self","base"] (by walk_at "bm")
 obtain ⟨_,F7,b7⟩:=r7.get ["self","base"] (by walk_at "bm")
 obtain ⟨_,F8,b8⟩:=r8.get ["self","half"] (by walk_at "bm")
 obtain ⟨_,F9,b9⟩:=r9.get ["self","first"] (by walk_at "bm")
 obtain ⟨_,F10,b10⟩:=r10.get ["self","most"] (by walk_at "bm")
 obtain ⟨_,F11,b11⟩:=r11.get ["self","most"] (by walk_at "bm")
 obtain ⟨_,m12,F12,b12⟩:=r12.get X G ["_law_kind","_law_by"] (by walk_at "bm")
 obtain ⟨_,m13,F13,b13⟩:=r13.get X G ["_law_kind","_law_by","_law_place"] (by walk_at "bm")
 obtain ⟨_,m14,F14,b14⟩:=r14.get X G ["_law_kind","_law_by","_law_cells"] (by walk_at "bm")
 obtain ⟨_,m15,F15,b15⟩:=r15.get X G ["_law_kind","_law_by","_law_place","_law_here","_law_lower"] (by walk_at "bm")
 obtain ⟨_,m16,F16,b16⟩:=r16.get X G ["_law_kind","_law_by","_law_row"] (by walk_at "bm")
 obtain ⟨_,m17,F17,b17⟩:=r17.get X G ["way","row"] (by walk_at "bm")
 obtain ⟨_,F18,b18⟩:=r18.get ["self","place"] (by walk_at "bm")
 obtain ⟨_,F19,b19⟩:=r19.get ["self","place"] (by walk_at "bm")
 obtain ⟨_,F20,b20⟩:=r20.get ["self","place"] (by walk_at "bm")
 obtain ⟨_,F21,b21⟩:=r21.get ["self","place"] (by walk_at "bm")
 obtain ⟨_,F22,b22⟩:=r22.get ["self","place"] (by walk_at "bm")
 obtain ⟨_,F23,b23⟩:=r23.get ["self","place"] (by walk_at "bm")
 obtain ⟨_,F24,b24⟩:=r24.get ["self","place"] (by walk_at "bm")
 obtain ⟨_,F25,b25⟩:=r25.get ["self","place"] (by walk_at "bm")
 obtain ⟨_,m26,F26,b26⟩:=r26.get X G ["way","row"] (by walk_at "bm")
 obtain ⟨_,m27,F27,b27⟩:=r27.get X G ["way","row"] (by walk_at "bm")
 obtain ⟨_,m28,F28,b28⟩:=r28.get X G ["way","rows"] (by walk_at "bm")
 obtain ⟨_,m29,F29,b29⟩:=r29.get X G ["way","row","many"] (by walk_at "bm")
 obtain ⟨_,F30,b30⟩:=r30.get ["self","place"] (by walk_at "bm")
 obtain ⟨_,F31,b31⟩:=r31.get ["self","place"] (by walk_at "bm")
 obtain ⟨_,F32,b32⟩:=r32.get ["self","place"] (by walk_at "bm")
 obtain ⟨_,F33,b33⟩:=r33.get ["self","place"] (by walk_at "bm")
 obtain ⟨_,F34,b34⟩:=r34.get ["self","place"] (by walk_at "bm")
 obtain ⟨_,m35,F35,b35⟩:=r35.get X G ["way","row","many"] (by walk_at "bm")
 obtain ⟨_,m36,F36,b36⟩:=r36.get X G ["way","row","many"] (by walk_at "bm")
 obtain ⟨_,m37,F37,b37⟩:=r37.get X G ["way","heap"] (by walk_at "bm")
 obtain ⟨_,m38,F38,b38⟩:=r38.get X G ["way","heap","place"] (by walk_at "bm")
 obtain ⟨_,m39,F39,b39⟩:=r39.get X G ["way","heap","step"] (by walk_at "bm")
 obtain ⟨_,m40,F40,b40⟩:=r40.get X G ["way","step"] (by walk_at "bm")
 obtain ⟨_,m41,F41,b41⟩:=r41.get X G ["way","heap","step","many"] (by walk_at "bm")
 obtain ⟨_,m42,F42,b42⟩:=r42.get X G ["row"] (by walk_at "bm")
 obtain ⟨_,m43,F43,b43⟩:=r43.get X G ["way","heap"] (by walk_at "bm")
 obtain ⟨_,m44,F44,b44⟩:=r44.get X G ["way","heap"] (by walk_at "bm")
 obtain ⟨_,m45,F45,b45⟩:=r45.get X G ["number"] (by walk_at "bm")
 obtain ⟨_,m46,F46,b46⟩:=r46.get X G ["one","other"] (by walk_at "bm")
 obtain ⟨_,m47,F47,b47⟩:=r47.get X G ["row","place"] (by walk_at "bm")
 obtain ⟨_,F48,b48⟩:=r48.get ["self"] (by walk_at "bm")
 obtain ⟨_,F49,b49⟩:=r49.get ["self"] (by walk_at "bm")
 obtain ⟨_,F50,b50⟩:=r50.get ["self","number"] (by walk_at "bm")
 obtain ⟨_,F51,b51⟩:=r51.get ["self","number"] (by walk_at "bm")
 obtain ⟨_,F52,b52⟩:=r52.get ["self","number"] (by walk_at "bm")
 obtain ⟨_,m53,F53,b53⟩:=r53.get X G ["value"] (by walk_at "bm")
 obtain ⟨_,F54,b54⟩:=r54.get ["self","number"] (by walk_at "bm")
 obtain ⟨_,F55,b55⟩:=r55.get ["self","total","place"] (by walk_at "bm")
 obtain ⟨_,m56,F56,b56⟩:=r56.get X G ["one","other"] (by walk_at "bm")
 obtain ⟨_,F57,b57⟩:=r57.get ["self","total","place"] (by walk_at "bm")
 obtain ⟨_,m58,F58,b58⟩:=r58.get X G ["way","totals"] (by walk_at "bm")
 obtain ⟨_,m59,F59,b59⟩:=r59.get X G ["way","totals"] (by walk_at "bm")
 obtain ⟨_,m60,F60,b60⟩:=r60.get X G ["way","row"] (by walk_at "bm")
 obtain ⟨_,m61,F61,b61⟩:=r61.get X G ["way","row","many"] (by walk_at "bm")
 obtain ⟨_,m62,F62,b62⟩:=r62.get X G ["_law_kind","_law_by","_law_row"] (by walk_at "bm")
 obtain ⟨_,m63,F63,b63⟩:=r63.get X G ["_law_kind","_law_by","_law_way_here","_law_row","_law_many"] (by walk_at "bm")
 obtain ⟨a64,_,_,kV,dc,pm,an,cd,ct,_,l64,c64,k64⟩:=r64
 cases hfa.symm.trans (PySem.W.mg_of X G a64)
 have F64:=oK (st:=u9) l64 c64 k64
 refine ⟨PySem.W.fnOf "law" "law" (defArgs u9) (defBody u9) (defScope u9) .none kV dc pm an cd ct,fun s v=>.of_eq rfl,fun base _ _=>?_⟩
 have G__law_mixed:=DOk.mk' F1 m1 b1 (rH (P:=l.prog) (w:=w) (base:=base) T F1)
 have G__law_pick:=DOk.mk' F2 m2 b2 (qJ T G__law_mixed F2)
 have G__law_cell_at:=DOk.mk' F3 m3 b3 (tD (P:=l.prog) (w:=w) (base:=base) T F3)
 have G_is_whole:=DOk.mk' F4 m4 b4 (qL (P:=l.prog) (w:=w) (base:=base) T F4)
 have G_bounded:=DOk.mk' F5 m5 b5 (oq T G_is_whole F5)
 have Tt:KOk l.prog w K mg base 3 "Plain" A.Plain "base" (Kd.ok .plain):=⟨_,_,_,mo Tz,⟨UR.mks,TJ,r6.1,UR.kc⟩,b6,sx T G_bounded F6⟩
 have Tu:KOk l.prog w K mg base 3 "Below" A.Below "base" (Kd.ok .below):=⟨_,_,_,mo TC,⟨US.mks,TK,r7.1,US.kc⟩,b7,sE T G_bounded F7⟩
 have Tv:KOk l.prog w K mg base 3 "Balanced" A.Balanced "half" (Kd.ok .balanced):=⟨_,_,_,mo TD,⟨UT.mks,TL,r8.1,UT.kc⟩,b8,vQ T G_bounded F8⟩
 have Tw:KOk l.prog w K mg base 3 "Growing" A.Growing "first" (Kd.ok .growing):=⟨_,_,_,mo TF,⟨UU.mks,TM,r9.1,UU.kc⟩,b9,uw T G_bounded F9⟩
 have Tx:KOk l.prog w K mg base 3 "Falling" A.Falling "most" (Kd.ok .falling):=⟨_,_,_,mo Ti,⟨UV.mks,TN,r10.1,UV.kc⟩,b10,uy T G_bounded F10⟩
 have Ty:KOk l.prog w K mg base 3 "Pairs" A.Pairs "most" (Kd.ok .pairs):=⟨_,_,_,mo Tj,⟨UW.mks,TQ,r11.1,UW.kc⟩,b11,sA T G_bounded F11⟩
 have G__law_way:=DOk.mk' F12 m12 b12 (ol T Tt Tu Tv Tw Tx Ty F12)
 have G__law_span:=DOk.mk' F13 m13 b13 (qI (P:=l.prog) (w:=w) (base:=base) T F13)
 have G__law_figures:=DOk.mk' F14 m14 b14 (tx T G__law_mixed G__law_span F14)
 have G__law_next:=DOk.mk' F15 m15 b15 (qK (P:=l.prog) (w:=w) (base:=base) T F15)
 have G__law_number:=DOk.mk' F16 m16 b16 (sv T G__law_next F16)
 have G_has_mosts_above_noughts_alone:=DOk.mk' F17 m17 b17 (yv (P:=l.prog) (w:=w) (base:=base) T F17)
 have SD:=mkr l w base T.UN TR r18 F18 b18 (y3 T F18)
 have SE:=mkr l w base T.UO TU r18 F18 b18 (y3 T F18)
 have SF:=mkr l w base T.UP TV r18 F18 b18 (y3 T F18)
 have SG:=mkr l w base T.UE TW r18 F18 b18 (y3 T F18)
 have SH:=mkr l w base T.UH TX r18 F18 b18 (y3 T F18)
 have SI:=mkr l w base T.UM TY r19 F19 b19 (uA T F19)
 have SJ:=mkr l w base T.UN TZ r20 F20 b20 (sy T F20)
 have SK:=mkr l w base T.UO T0 r21 F21 b21 (sG T F21)
 have SL:=mkr l w base T.UM T3 r22 F22 b22 (vR T F22)
 have SM:=mkr l w base T.UP T4 r23 F23 b23 (ux T F23)
 have SN:=mkr l w base T.UE T5 r24 F24 b24 (uz T F24)
 have SO:=mkr l w base T.UH T6 r25 F25 b25 (sD T F25)
 have HLo:∀ k:Kd,MOk l.prog w K mg base 1 (A.at k) "low" (xz A k (k.low))∧MOk l.prog w K mg base 1 (A.at k) "high" (xz A k (k.high)):=fun k=>match k with
  | .plain=>⟨SD.imp fun ds Q ⟨n,p,e,_,q⟩=>⟨_,_,e,q⟩,SJ⟩
  | .below=>⟨SE.imp fun ds Q ⟨n,p,e,_,q⟩=>⟨_,_,e,q⟩,SK⟩
  | .balanced=>⟨SI,SL⟩
  | .growing=>⟨SF.imp fun ds Q ⟨n,p,e,_,q⟩=>⟨_,_,e,q⟩,SM⟩
  | .falling=>⟨SG.imp fun ds Q ⟨n,p,e,_,q⟩=>⟨_,_,e,q⟩,SN⟩
  | .pairs=>⟨SH.imp fun ds Q ⟨n,p,e,_,q⟩=>⟨_,_,e,q⟩,SO⟩
 have G_has_figures_alone:=DOk.mk' F26 m26 b26 (wq (P:=l.prog) (w:=w) (base:=base) T HLo F26)
 have G_is_writing:=DOk.mk' F27 m27 b27 (sw T G_has_mosts_above_noughts_alone G_has_figures_alone F27)
 have G_held_to_be_writings:=DOk.mk' F28 m28 b28 (xM T G_is_writing F28)
 have G_quotients_in_falling:=DOk.mk' F29 m29 b29 (xv (P:=l.prog) (w:=w) (base:=base) T F29)
 have SQ:=mkr l w base T.UN T7 r30 F30 b30 (tE T F30)
 have SR:=mkr l w base T.UO T8 r31 F31 b31 (tH T F31)
 have SS:=mkr l w base T.UM T9 r32 F32 b32 (vg T F32)
 have ST:=mkr l w base T.UP T_ r33 F33 b33 (vP T F33)
 have SU:=mkr l w base T.UH Sa r34 F34 b34 (tG T F34)
 have HR:∀ k:Kd,k.five=true→MOk l.prog w K mg base 1 (A.at k) "ratio" (wD A k (k.ratN)):=fun k hk=>match k,hk with
  | .plain,_=>SQ
  | .below,_=>SR
  | .balanced,_=>SS
  | .growing,_=>ST
  | .pairs,_=>SU
 have G_quotients_by_ratio:=DOk.mk' F35 m35 b35 (xY (P:=l.prog) (w:=w) (base:=base) T HR F35)
 have G_quotients_and_rest:=DOk.mk' F36 m36 b36 (xZ T G_quotients_in_falling G_quotients_by_ratio F36)
 have G_held_to_be_a_heap:=DOkX.mk' F37 m37 b37 (wo (P:=l.prog) (w:=w) (base:=base) T F37)
 have G_step_at:=DOk.mk' F38 m38 b38 (oi (P:=l.prog) (w:=w) (base:=base) T F38)
 have G_how_often:=DOk.mk' F39 m39 b39 (rK (P:=l.prog) (w:=w) (base:=base) T F39)
 have G_changes:=DOk.mk' F40 m40 b40 (oo (P:=l.prog) (w:=w) (base:=base) T F40)
 have G_do_steps:=AOk.mk' F41 m41 b41 (qM T G_changes F41)
 have G_trimmed:=FOk.mk' F42 m42 b42 (oh (P:=l.prog) (w:=w) (base:=base) T F42)
 have G_steps_and_writing:=TOkX.mk' F43 m43 b43 (wn T G_held_to_be_a_heap G_step_at G_how_often G_do_steps G_trimmed F43)
 have G_fallen:=FOkX.mk' F44 m44 b44 (mB T G_steps_and_writing F44)
 have G_as_pair:=DOk.mk' F45 m45 b45 (ot T G_is_whole F45)
 have G_added:=DOk.mk' F46 m46 b46 (lQ T G_is_whole G_as_pair F46)
 have G_thing_at:=DOk.mk' F47 m47 b47 (qH (P:=l.prog) (w:=w) (base:=base) T F47)
 have SV:=mkr l w base T.UN Sb r48 F48 b48 (yh T F48)
 have SW:=mkr l w base T.UO Sc r48 F48 b48 (yh T F48)
 have SY:=mkr l w base T.UM Sd r48 F48 b48 (yh T F48)
 have SZ:=mkr l w base T.UP Se r48 F48 b48 (yh T F48)
 have S0:=mkr l w base T.UE Sf r48 F48 b48 (yh T F48)
 have S1:=mkr l w base T.UH Sg r49 F49 b49 (uv T F49)
 have HNo:∀ k:Kd,MOk l.prog w K mg base 1 (A.at k) "nought" (Vr k):=fun k=>match k with
  | .plain=>SV | .below=>SW | .balanced=>SY | .growing=>SZ | .falling=>S0 | .pairs=>S1
 have S2:=mkr l w base T.UN Sh r50 F50 b50 (wY T G_is_whole F50)
 have S3:=mkr l w base T.UP Si r50 F50 b50 (wY T G_is_whole F50)
 have S4:=mkr l w base T.UE Sj r50 F50 b50 (wY T G_is_whole F50)
 have S5:=mkr l w base T.UO Sk r51 F51 b51 (rM T G_is_whole F51)
 have S6:=mkr l w base T.UM Sm r52 F52 b52 (uB T G_is_whole F52)
 have G_is_pair:=DOk.mk' F53 m53 b53 (om T G_is_whole F53)
 have S7:=mkr l w base T.UH Sn r54 F54 b54 (rL T G_is_pair F54)
 have HHas:∀ k:Kd,MOk l.prog w K mg base 3 (A.at k) "has" (uc k):=fun k=>match k with
  | .plain=>S2.mono (by decide)
  | .below=>S5.mono (by decide)
  | .balanced=>S6.mono (by decide)
  | .growing=>(S3.imp fun ds Q ⟨o,d,m,e,a,q⟩=>⟨o,d,m,e,a,by cases m <;> exact q⟩).mono (by decide)
  | .falling=>(S4.imp fun ds Q ⟨o,d,m,e,a,q⟩=>⟨o,d,m,e,a,by cases m <;> exact q⟩).mono (by decide)
  | .pairs=>S7.mono (by decide)
 have S8:=mkr l w base T.UN So r55 F55 b55 (yR T HLo HR F55)
 have S9:=mkr l w base T.UO Sq r55 F55 b55 (yR T HLo HR F55)
 have Ra:=mkr l w base T.UM Sr r55 F55 b55 (yR T HLo HR F55)
 have Rb:=mkr l w base T.UP Ss r55 F55 b55 (yR T HLo HR F55)
 have G_multiplied:=DOk.mk' F56 m56 b56 (su T G_is_whole G_as_pair F56)
 have Rc:=mkr l w base T.UH Su r57 F57 b57 (tF T G_as_pair G_multiplied F57)
 have HSp:∀ k:Kd,k.five=true→MOk l.prog w K mg base 4 (A.at k) "split" (nQ A k):=fun k hk=>match k,hk with
  | .plain,_=>(S8.imp fun ds Q ⟨n,m,j,e,⟨a,em⟩,h1,h2,q⟩=>⟨.plain,n,a,j,by rw [e,em]; rfl,rfl,h1,h2,by rw [em] at q; exact q⟩).mono (by decide)
  | .below,_=>(S9.imp fun ds Q ⟨n,m,j,e,⟨a,em⟩,h1,h2,q⟩=>⟨.below,n,a,j,by rw [e,em]; rfl,rfl,h1,h2,by rw [em] at q; exact q⟩).mono (by decide)
  | .balanced,_=>(Ra.imp fun ds Q ⟨n,m,j,e,⟨a,em⟩,h1,h2,q⟩=>⟨.balanced,n,a,j,by rw [e,em]; rfl,rfl,h1,h2,by rw [em] at q; exact q⟩).mono (by decide)
  | .growing,_=>(Rb.imp fun ds Q ⟨n,m,j,e,⟨a,em⟩,h1,h2,q⟩=>⟨.growing,n,a,j,by rw [e,em]; rfl,rfl,h1,h2,by rw [em] at q; exact q⟩).mono (by decide)
  | .pairs,_=>(Rc.imp fun ds Q ⟨n,m,j,e,_,h1,h2,q⟩=>⟨n,_,m,j,e,uF m,h1,q⟩).mono (by decide)
 have G_figures_and_carries:=DOk.mk' F58 m58 b58 (xN T G_added G_thing_at HNo HHas HSp F58)
 have G_settled:=FOk.mk' F59 m59 b59 (oj T G_trimmed G_figures_and_carries F59)
 have G_written_row:=FOk.mk' F60 m60 b60 (tw T G_fallen G_settled F60)
 have G_shared:=TOk.mk' F61 m61 b61 (mz T G_held_to_be_writings G_quotients_and_rest G_written_row F61)
 have G__law_legal:=DOk.mk' F62 m62 b62 (rJ T G__law_span F62)
 have G__law_right:=DOk.mk' F63 m63 b63 (rG T G_shared G__law_legal G__law_number F63)
 exact cp T G__law_pick G__law_cell_at G__law_way G__law_figures G__law_mixed G__law_number G__law_right F64
theorem walk {l:PySem.W.OpenLaw} {q:Program} {loose:List Str} {XP:(Str→Option Value)→Heap→Prop} {YP:World→Heap→Prop} {d:DefRec} {K:Params→PySem.W.Frag} (hn:l.most=some 63) (hdf:d.params.defaults=[])
  (hY:∀ (w:World) (h:Heap),YP w h→(K w.params).In h)
  (F:∀ (w:World) (mg:Str→Option Value) (fa:Addr) (h:Heap),(K w.params).In h→h.Ns mainGlobals mg→mg d.name=some (.ref fa)→
   ∃ fd:FuncData,(∀ (s:Shared) (u:Value),BindsTo s fd ⟨[u],[]⟩ [("_law_script",u)])∧∀ base:Heap,(K w.params).In base→base.Ns mainGlobals mg→FnOk l.prog w (K w.params) mg base CX0 10 fa fd ["_law_script"] (zq (K w.params) (nV))):
  PySem.W.WalkO q loose XP YP l.row.toRowW d [] (fun f vs=>PySem.call f vs):=
 L2.walk_of (n:=63) (k:=10) (x:="_law_script") (CX:=fun _=>CX0) (sp:=fun w=>zq (K w.params) (nV)) hn (by decide) hdf ⟨rfl,by decide,by decide⟩ hY F (fun w H a ns hl _ hS=>⟨⟨H,H,Same.refl H⟩,[.scr ns],fun d=>d=.bl true,rfl,allIs_cons.mpr ⟨_,_,rfl,is_scr.mpr ⟨a,rfl,hS⟩,allIs_nil.mpr rfl⟩,⟨ns,rfl,hl,rfl⟩,fun d v W' _ i e=>by subst e; exact is_bl.mp i⟩) fun _ _ _ _ _ z=>z
end My
local macro_rules | `(tactic| walk_at "fx") => `(tactic| (refine' My.FX.mk ?l ?c ?k; (case l => k_is); (case c => k_is); (case k => k_is)))
local macro_rules | `(tactic| walk_at "kk") => `(tactic| first | k_is | kit_is | kts_exm | (delta L2.ExcK; k_exc) | (delta My.Fi; k_is) | (delta My.Zn; k_is) | (delta My.Gc; k_is) | (delta My.Ki; kit_is) | (delta My.FD; refine ⟨?a, ?b⟩; (case a => k_is); (case b => walk_at "fx")) | (delta My.FM; refine ⟨?a, ?b⟩; (case a => k_is); (case b => walk_at "fx")) | (refine ⟨⟨?_, ?_, ?_, ?_⟩, ?_, ?_, ?_⟩ <;> k_is) | (refine ⟨?_, ?_, ?_, ?_, ?_, ?_, ?_⟩ <;> k_is) | (refine ⟨?_, ?_⟩ <;> k_is))
open PySem PySem.W PyProof.Rows
set_option maxRecDepth 100000 in
set_option maxHeartbeats 0 in
theorem PySem.Challenge.cw_oddbases_k34_shared_holds : PySem.Challenge.rw_oddbases_k34_shared.Holds := by
 w_on; o_law
 refine holds_open (q:=My.h_view_39) (loose:=[]) (Xt:=(fun s=>xlAt My.h_view_39 [] s && recOk (RowW.records (OpenRow.toRowW PySem.Challenge.rw_oddbases_k34_shared.row)) s)) (XP:=XL My.h_view_39 []) (Yf:=Hook.obs (kHook My.h_heap_39 My.myAs My.myE)) (Ya:=Hook.val (kHook My.h_heap_39 My.myAs My.myE)) (YP:=Hook.says (kHook My.h_heap_39 My.myAs My.myE)) (N:=11074) My.left (Hook.of _) (Hook.keeps _) (fun s e=>xl_of s (Bool.and_eq_true_iff.mp e).1) XL.keeps (by rfl) (by rfl) (by rfl) (fun s e=>recFacts_of (Bool.and_eq_true_iff.mp e).2) (by rfl) (by first | assumption | decide +kernel) (by decide +kernel) ⟨rfl,rfl,rfl,rfl,rfl,by decide +kernel⟩ ?hw ?hc
 case hw=>w_witness2
 k_fill
 refine My.walk (l:=PySem.Challenge.rw_oddbases_k34_shared) rfl rfl (fun w h Y=>PySem.W.kIn_of Y) ?F
 case F=>
  intro w mg fa h KX G hmg
  refine' My.all_mk KX G hmg ?Tz ?TC ?TD ?TF ?Ti ?Tj ?TH ?r1 ?r2 ?r3 ?r4 ?r5 ?TJ ?r6 ?TK ?r7 ?TL ?r8 ?TM ?r9 ?TN ?r10 ?TQ ?r11 ?r12 ?r13 ?r14 ?r15 ?r16 ?r17 ?TR ?TU ?TV ?TW ?TX ?r18 ?TY ?r19 ?TZ ?r20 ?T0 ?r21 ?T3 ?r22 ?T4 ?r23 ?T5 ?r24 ?T6 ?r25 ?r26 ?r27 ?r28 ?r29 ?T7 ?r30 ?T8 ?r31 ?T9 ?r32 ?T_ ?r33 ?Sa ?r34 ?r35 ?r36 ?r37 ?r38 ?r39 ?r40 ?r41 ?r42 ?r43 ?r44 ?r45 ?r46 ?r47 ?Sb ?Sc ?Sd ?Se ?Sf ?r48 ?Sg ?r49 ?Sh ?Si ?Sj ?r50 ?Sk ?r51 ?Sm ?r52 ?r53 ?Sn ?r54 ?So ?Sq ?Sr ?Ss ?r55 ?r56 ?Su ?r57 ?r58 ?r59 ?r60 ?r61 ?r62 ?r63 ?r64 ?UR ?US ?UT ?UU ?UV ?UW ?Tk ?U3 ?U4 ?Tl ?U5 ?U6 ?Tm ?U7 ?U8 ?Tn ?U9 ?U_ ?To ?UX ?Ta ?Tp ?Tb ?Tc ?in_ ?it_ ?Td ?Tg ?Th ?z_isinstance ?z_int ?z_bool ?z_tuple ?z_list ?z_len ?z_range ?z_enumerate ?z_min ?z_max ?z_abs
  case Tz | TC | TD | TF | Ti | Tj | TH | r1 | r2 | r3 | r4 | r5 | TJ | r6 | TK | r7 | TL | r8 | TM | r9 | TN | r10 | TQ | r11 | r12 | r13 | r14 | r15 | r16 | r17 | TR | TU | TV | TW | TX | r18 | TY | r19 | TZ | r20 | T0 | r21 | T3 | r22 | T4 | r23 | T5 | r24 | T6 | r25 | r26 | r27 | r28 | r29 | T7 | r30 | T8 | r31 | T9 | r32 | T_ | r33 | Sa | r34 | r35 | r36 | r37 | r38 | r39 | r40 | r41 | r42 | r43 | r44 | r45 | r46 | r47 | Sb | Sc | Sd | Se | Sf | r48 | Sg | r49 | Sh | Si | Sj | r50 | Sk | r51 | Sm | r52 | r53 | Sn | r54 | So | Sq | Sr | Ss | r55 | r56 | Su | r57 | r58 | r59 | r60 | r61 | r62 | r63 | r64 | UR | US | UT | UU | UV | UW | Tk | U3 | U4 | Tl | U5 | U6 | Tm | U7 | U8 | Tn | U9 | U_ | To | UX | Ta | Tp | Tb | Tc | in_ | it_ | Td | Tg | Th | z_isinstance | z_int | z_bool | z_tuple | z_list | z_len | z_range | z_enumerate | z_min | z_max | z_abs=>walk_at "kk"
