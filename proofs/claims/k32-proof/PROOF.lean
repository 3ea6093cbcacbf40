import PyProof.Rows.All
import Wide.All
import OpenK.AllK
import Wide.FinOn
import Lean
import PyProof.EqAt
import PyProof.EqKinds
import PyProof.TupleCall
import PyProof.NeKinds
import PySem.Challenge.RW_oddbases_k32_differences
set_option Elab.async false
set_option linter.all false
set_option maxRecDepth 100000
namespace L2
open PySem PySem.Spec PyProof.Rows
abbrev Key:=Sum Int Str
def Ye:Key→Value→Bool
 | .inl k,v=>Value.isInt k v
 | .inr x,v=>Value.isStrOf x v
def RU (w:World):Key→Int
 | .inl k=>hashInt k
 | .inr x=>hashStr w x
theorem zU:∀ {k:Key} {v:Value},Ye k v=true→(∃ i t,k=Sum.inl i∧v=Value.int i t)∨(∃ x t,k=Sum.inr x∧v=Value.str x t)
 | .inl i,v,h=>by
  obtain ⟨t,e⟩:=Value.isInt_shape (k:=i) (v:=v) h
  exact .inl ⟨i,t,rfl,e⟩
 | .inr x,v,h=>by
  obtain ⟨t,e⟩:=Value.isStrOf_shape (x:=x) (v:=v) h
  exact .inr ⟨x,t,rfl,e⟩
theorem V7 (a b:Int):decide ((Sum.inl a:Key)=Sum.inl b)=(a == b):=by
 by_cases e:a=b
 ·subst e; simp
 ·have h:¬ (Sum.inl a:Key)=Sum.inl b:=fun q=>e (Sum.inl.inj q)
  rw [decide_eq_false h]
  exact (beq_eq_false_iff_ne.mpr e).symm
theorem V4 (a b:Str):decide ((Sum.inr a:Key)=Sum.inr b)=decide (a=b):=by
 by_cases e:a=b
 ·subst e; simp
 ·have h:¬ (Sum.inr a:Key)=Sum.inr b:=fun q=>e (Sum.inr.inj q)
  rw [decide_eq_false h,decide_eq_false e]
theorem V6 (a:Int) (b:Str):decide ((Sum.inl a:Key)=Sum.inr b)=false:=decide_eq_false (fun q=>nomatch q)
theorem V5 (a:Str) (b:Int):decide ((Sum.inr a:Key)=Sum.inl b)=false:=decide_eq_false (fun q=>nomatch q)
def ph (prog:Program) (w:World):PySem.KeyKind prog w Key where
 is:=Ye
 hash:=RU w
 inj:=fun v a b ha hb=>by
  rcases zU ha with ⟨i,t,rfl,rfl⟩ | ⟨x,t,rfl,rfl⟩
  ·rcases zU hb with ⟨j,u,rfl,e⟩ | ⟨y,u,rfl,e⟩
   ·injection e with e1 _; rw [e1]
   ·exact nomatch e
  ·rcases zU hb with ⟨j,u,rfl,e⟩ | ⟨y,u,rfl,e⟩
   ·exact nomatch e
   ·injection e with e1 _; rw [e1]
 byValue:=fun k v h=>by
  rcases zU h with ⟨i,t,rfl,rfl⟩ | ⟨x,t,rfl,rfl⟩ <;> rfl
 pyHash:=fun hv h=>by
  rcases zU hv with ⟨i,t,rfl,rfl⟩ | ⟨x,t,rfl,rfl⟩
  ·exact wpAny_pyHash_int h
  ·exact wpAny_pyHash_str h
 eqBool:=fun hu hv h=>by
  rcases zU hu with ⟨i,t,rfl,rfl⟩ | ⟨x,t,rfl,rfl⟩
  ·rcases zU hv with ⟨j,u,rfl,rfl⟩ | ⟨y,u,rfl,rfl⟩
   ·rw [V7] at h; exact wpAny_eqBool_int h
   ·rw [V6] at h; exact SeqAt.EqAt.int_str i t y u _ _ _ _ h
  ·rcases zU hv with ⟨j,u,rfl,rfl⟩ | ⟨y,u,rfl,rfl⟩
   ·rw [V5] at h; exact SeqAt.EqAt.str_int x t j u _ _ _ _ h
   ·rw [V4] at h; exact wpAny_eqBool_str h
 «strs»:=fun k x t v h=>by
  rcases zU h with ⟨i,u,rfl,e⟩ | ⟨y,u,rfl,e⟩
  ·exact nomatch e
  ·injection e with e1 _
   subst e1
   cases v <;> rfl
end L2
namespace L2
open PySem PySem.Spec PyProof.Rows
inductive V where
 | non | bl (b:Bool) | int (i:Int) | str (x:Str) | byt (b:Array UInt8) | flt (b:UInt64) | ref (a:Addr) | ty (n:String)
 deriving DecidableEq
def RelV:V→Value→Prop
 | .non,u=>u=Value.none
 | .bl b,u=>u=Value.bool b
 | .int i,u=>∃ t,u=Value.int i t
 | .str x,u=>∃ t,u=Value.str x t
 | .byt b,u=>∃ t,u=Value.bytes b t
 | .flt b,u=>∃ t,u=Value.float b t
 | .ref a,u=>u=Value.ref a
 | .ty n,u=>u=Value.type n
abbrev Vals:List V→List Value→Prop:=Paired RelV
theorem Vals.length {xs:List V} {us:List Value} (r:Vals xs us):xs.length=us.length:=Paired.length r
theorem Vals.get:∀ {xs:List V} {us:List Value} {i:Nat} {x:V},Vals xs us→xs[i]? = some x→∃ u,us[i]? = some u∧RelV x u
 | _,_,_,_,.nil,e=>by simp at e
 | _,_,0,_,.cons r _,e=>by simp at e; subst e; exact ⟨_,rfl,r⟩
 | _,_,i+1,x,.cons _ t,e=>by
  obtain ⟨u,h1,h2⟩:=Vals.get (i:=i) (x:=x) t (by simpa using e)
  exact ⟨u,by simpa using h1,h2⟩
theorem Vals.set {x:V} {u:Value} (r:RelV x u):∀ {xs:List V} {us:List Value} (i:Nat),Vals xs us→Vals (xs.set i x) (us.set i u)
 | _,_,_,.nil=>.nil
 | _,_,0,.cons _ t=>.cons r t
 | _,_,i+1,.cons q t=>.cons q (Vals.set r i t)
theorem Vals.append:∀ {xs ys:List V} {us ws:List Value},Vals xs us→Vals ys ws→Vals (xs++ys) (us++ws)
 | _,_,_,_,.nil,s=>s
 | _,_,_,_,.cons r t,s=>.cons r (Vals.append t s)
theorem Vals.take:∀ {xs:List V} {us:List Value} (n:Nat),Vals xs us→Vals (xs.take n) (us.take n)
 | _,_,0,_=>.nil
 | _,_,_+1,.nil=>.nil
 | _,_,n+1,.cons r t=>.cons r (Vals.take n t)
theorem Vals.drop:∀ {xs:List V} {us:List Value} (n:Nat),Vals xs us→Vals (xs.drop n) (us.drop n)
 | _,_,0,r=>r
 | _,_,_+1,.nil=>.nil
 | _,_,n+1,.cons _ t=>Vals.drop n t
theorem Vals.none_of:∀ {xs:List V} {us:List Value} {i:Nat},Vals xs us→xs[i]? = none→us[i]? = none:=fun {xs us i} r e=>by
 have h1:=r.length
 have h2:xs.length≤i:=List.getElem?_eq_none_iff.mp e
 exact List.getElem?_eq_none_iff.mpr (by omega)
def RelO:Option V→Option Value→Prop
 | some v,some u=>RelV v u
 | none,none=>True
 | _,_=>False
def KV {κ:Type}:List (κ × V)→List (κ × Value)→Prop:=Paired fun (p:κ × V) (q:κ × Value)=>p.1=q.1∧RelV p.2 q.2
def kV:Key→V
 | .inl i=>.int i
 | .inr x=>.str x
inductive HO where
 | lst (xs:List V)
 | tup (xs:List V)
 | dK (kvs:List (Key × V)) | dT (kvs:List (List Key × V))
 | set (S:Int→Bool) (n:Nat)
 | ins (C dx:Addr) (fs:List (Str × V))
 | own (x:Addr)
 | xd (fs:List (Str × V))
 | met (f x:Addr)
 | rng (lo hi:Int)
 | frz (o:Obj) (u:HO)
 | tbl (ps:Array Value)
 | ext (φ:Heap→Prop)
abbrev Hp:=Addr→Option HO
def upd (H:Hp) (a:Addr) (o:HO):Hp:=fun b=>if b=a then some o else H b
theorem zt {H:Hp} {a:Addr} {o:HO}:upd H a o a=some o:=by unfold upd; rw [if_pos rfl]
theorem zw {H:Hp} {a b:Addr} {o:HO} (h:b≠a):upd H a o b=H b:=by unfold upd; rw [if_neg h]
theorem zW {H:Hp} {a b:Addr} {o:HO} (h:H a=some o) (h':H b=none):a≠b:=by
 intro e; subst e; rw [h] at h'; cases h'
section
variable (P:Program) (w:World)
def ObjOk (H:Hp) (h:Heap) (a:Addr):HO→Prop
 | .lst xs=>xs.length≤sizeLine∧∃ (its:List Value) (n:Nat),Vals xs its∧h.get? a=some { cls:=.type "list",data:=.seq its.toArray n }
 | .tup xs=>xs.length≤sizeLine∧∃ its:List Value,Vals xs its∧IsTup h a its.toArray
 | .dK kvs=>kvs.length≤sizeLine∧(a == sysModules)=false∧∃ vs,KV kvs vs∧h.DictOf (ph P w) a vs
 | .dT kvs=>kvs.length≤sizeLine∧(a == sysModules)=false∧∃ xs:List (List Key × Addr × Value),
   Paired (fun (p:List Key × V) (q:List Key × Addr × Value)=>p.1=q.1∧H q.2.1=some (.tup (p.1.map kV))∧RelV p.2 q.2.2) kvs xs∧
   ∃ o es ep,h.get? a=some o∧o.ExactDict∧o.data=.dict es ep∧es.toList=xs.map (entryOfKey (tupleKind (ph P w)))∧(xs.map (·.1)).Nodup
 | .set S n=>h.SetOf (intKind P w) a S n
 | .ins C dx fs=>H dx=some (.own a)∧fs.length≤1000∧dx≠a∧h.get? a=some (PySem.W.instObj C dx)∧
   ∃ mA,h.Ns1 dx mA∧(∀ f,RelO (fs.lookup f) (mA f))∧PySem.Within mA (fs.map (·.1))
 | .own _=>∃ o,h.get? a=some o
 | .xd fs=>∃ mA,h.Ns1 a mA∧∀ f,RelO (fs.lookup f) (mA f)
 | .rng lo hi=>∃ t u v,h.get? a=some { cls:=.type "range",data:=.fields #[.int lo t,.int hi u,.int 1 v] }
 | .frz o u=>h.get? a=some o∧ObjOk H h a u
 | .tbl ps=>h.get? a=some { cls:=.none,data:=.fields ps }
 | .met f x=>h.get? a=some (PySem.W.methodObj (.ref f) (.ref x))
 | .ext φ=>φ h∧(∃ o,h.get? a=some o)∧∀ h1 h2:Heap,φ h1→(∀ o,h1.get? a=some o→h2.get? a=some o)→φ h2
def HOk (H:Hp) (h:Heap):Prop:=∀ a o,H a=some o→ObjOk P w H h a o
end
section
variable {P:Program} {w:World} {H H':Hp} {h h':Heap} {a:Addr} {o:HO}
theorem ObjOk.lt (x:ObjOk P w H h a o):a<h.objs.size:=by
 cases o with
 | lst xs=>obtain ⟨_,_,_,_,e⟩:=x; exact Heap.lt_size e
 | tup xs=>obtain ⟨_,_,_,p⟩:=x; exact p.lt
 | dK kvs=>obtain ⟨_,_,_,_,o,_,_,e,_⟩:=x; exact Heap.lt_size e
 | dT kvs=>obtain ⟨_,_,_,_,o,_,_,e,_⟩:=x; exact Heap.lt_size e
 | set S n=>obtain ⟨o,_,_,_,e,_⟩:=x; exact Heap.lt_size e
 | ins C dx fs=>obtain ⟨_,_,_,e,_⟩:=x; exact Heap.lt_size e
 | own y=>obtain ⟨_,e⟩:=x; exact Heap.lt_size e
 | xd fs=>obtain ⟨_,⟨_,_,_,e,_⟩,_⟩:=x; exact Heap.lt_size e
 | rng lo hi=>obtain ⟨_,_,_,e⟩:=x; exact Heap.lt_size e
 | frz ob u=>obtain ⟨e,_⟩:=x; exact Heap.lt_size e
 | tbl ps=>exact Heap.lt_size (show h.get? a=some _ from x)
 | met f y=>exact Heap.lt_size (show h.get? a=some _ from x)
 | ext φ=>obtain ⟨_,⟨_,e⟩,_⟩:=x; exact Heap.lt_size e
theorem Paired.mapP {α β:Type} {F G:α→β→Prop}:∀ {l₁:List α} {l₂:List β},Paired F l₁ l₂→(∀ a b,F a b→G a b)→Paired G l₁ l₂
 | _,_,.nil,_=>.nil
 | _,_,.cons r t,f=>.cons (f _ _ r) (Paired.mapP t f)
theorem ObjOk.stay (x:ObjOk P w H h a o) (k:∀ b u,(b=a∨H b=some (.own a))→h.get? b=some u→h'.get? b=some u)
  (ho:∀ b,H b=some (.own a)→H' b=some (.own a)) (ht:∀ b xs,H b=some (.tup xs)→H' b=some (.tup xs)):ObjOk P w H' h' a o:=by
 induction o with
 | lst xs=>obtain ⟨z,its,n,r,e⟩:=x; exact ⟨z,its,n,r,k _ _ (.inl rfl) e⟩
 | tup xs=>obtain ⟨z,its,r,ob,e,c⟩:=x; exact ⟨z,its,r,ob,k _ _ (.inl rfl) e,c⟩
 | dK kvs=>obtain ⟨z,y,vs,r,ob,es,ep,e,c⟩:=x; exact ⟨z,y,vs,r,ob,es,ep,k _ _ (.inl rfl) e,c⟩
 | dT kvs=>
  obtain ⟨z,y,xs,r,ob,es,ep,e,c⟩:=x
  exact ⟨z,y,xs,Paired.mapP r fun p q z=>⟨z.1,ht _ _ z.2.1,z.2.2⟩,ob,es,ep,k _ _ (.inl rfl) e,c⟩
 | set S n=>obtain ⟨ob,es,ep,t,e,c⟩:=x; exact ⟨ob,es,ep,t,k _ _ (.inl rfl) e,c⟩
 | ins C dx fs=>
  obtain ⟨d,z,ne,e,mA,⟨od,es,ep,e2,c⟩,r⟩:=x
  exact ⟨ho _ d,z,ne,k _ _ (.inl rfl) e,mA,⟨od,es,ep,k _ _ (.inr d) e2,c⟩,r⟩
 | own y=>obtain ⟨ob,e⟩:=x; exact ⟨ob,k _ _ (.inl rfl) e⟩
 | xd fs=>obtain ⟨mA,⟨od,es,ep,e,c⟩,r⟩:=x; exact ⟨mA,⟨od,es,ep,k _ _ (.inl rfl) e,c⟩,r⟩
 | rng lo hi=>obtain ⟨t,u,v,e⟩:=x; exact ⟨t,u,v,k _ _ (.inl rfl) e⟩
 | frz ob u ih=>obtain ⟨e,q⟩:=x; exact ⟨k _ _ (.inl rfl) e,ih q⟩
 | tbl ps=>
  have e:h.get? a=some { cls:=.none,data:=.fields ps }:=x
  show h'.get? a=some { cls:=.none,data:=.fields ps }
  exact k a _ (.inl rfl) e
 | met f y=>
  have e:h.get? a=some (PySem.W.methodObj (.ref f) (.ref y)):=x
  show h'.get? a=some (PySem.W.methodObj (.ref f) (.ref y))
  exact k a _ (.inl rfl) e
 | ext φ=>obtain ⟨p,⟨o,e⟩,st⟩:=x; exact ⟨st _ _ p fun o q=>k _ _ (.inl rfl) q,⟨o,k _ _ (.inl rfl) e⟩,st⟩
theorem HOk.lt (x:HOk P w H h) (e:H a=some o):a<h.objs.size:=(x a o e).lt
theorem HOk.fresh (x:HOk P w H h) (e:h.objs.size≤a):H a=none:=by
 cases q:H a with
 | none=>rfl
 | some u=>exact absurd (Nat.lt_of_lt_of_le (x.lt q) e) (Nat.lt_irrefl _)
theorem HOk.kept (x:HOk P w H h) (k:∀ b u,h.get? b=some u→h'.get? b=some u):HOk P w H h':=fun a o e=>
 (x a o e).stay (fun b u _ q=>k b u q) (fun _ q=>q) fun _ _ q=>q
theorem HOk.laid (x:HOk P w H h) (k:∀ b u,h.get? b=some u→h'.get? b=some u) (hp:h.objs.size≤a) (new:ObjOk P w (upd H a o) h' a o):HOk P w (upd H a o) h':=fun b u e=>by
 have hn:=x.fresh hp
 by_cases hb:b=a
 ·subst hb; rw [zt] at e; cases e; exact new
 ·rw [zw hb] at e
  exact (x b u e).stay (fun c v _ q=>k c v q) (fun c q=>by rw [zw (zW q hn)]; exact q) fun c xs q=>by rw [zw (zW q hn)]; exact q
end
def Rd (H:Hp) (a:Addr) (u:HO):Prop:=H a=some u∨∃ o,H a=some (.frz o u)
theorem Rd.of {H:Hp} {a:Addr} {u:HO} (h:H a=some u):Rd H a u:=.inl h
theorem Rd.ok {P:Program} {w:World} {H:Hp} {h:Heap} {a:Addr} {u:HO} (r:Rd H a u) (x:HOk P w H h):ObjOk P w H h a u:=by
 rcases r with r | ⟨o,r⟩
 ·exact x a u r
 ·obtain ⟨_,q⟩:=x a _ r
  exact q
def Mut:Option HO→Prop
 | some (.lst _)=>True
 | some (.dK _)=>True
 | some (.dT _)=>True
 | some (.set _ _)=>True
 | some (.ins _ _ _)=>True
 | some (.ext _)=>True
 | _=>False
section
variable {P:Program} {w:World} {H:Hp} {h h':Heap} {x e:Addr} {o':HO}
theorem HOk.write (ok:HOk P w H h) (mu:Mut (H x)) (he:e=x∨H e=some (.own x)) (k:∀ b u,b≠e→h.get? b=some u→h'.get? b=some u) (heo:∃ u,h'.get? e=some u)
  (new:ObjOk P w (upd H x o') h' x o'):HOk P w (upd H x o') h':=fun b u q=>by
 have nown:∀ c y,H c=some (.own y)→c≠x:=fun c y r z=>by subst z; rw [r] at mu; exact mu
 have ntup:∀ c xs,H c=some (.tup xs)→c≠x:=fun c xs r z=>by subst z; rw [r] at mu; exact mu
 by_cases hb:b=x
 ·subst hb; rw [zt] at q; cases q; exact new
 ·rw [zw hb] at q
  by_cases hbe:b=e
  ·have q':H b=some (.own x):=by
    rcases he with z | z
    ·exact absurd (hbe.trans z) hb
    ·rw [hbe]; exact z
   rw [q] at q'; cases q'
   obtain ⟨v,hv⟩:=heo
   exact ⟨v,by rw [hbe]; exact hv⟩
  ·refine (ok b u q).stay (fun c v hc r=>k c v ?_ r) (fun c r=>by rw [zw (nown c b r)]; exact r) fun c xs r=>by rw [zw (ntup c xs r)]; exact r
   rcases hc with rfl | hc
   ·exact hbe
   ·rintro rfl
    rcases he with z | z
    ·exact nown c b hc z
    ·rw [hc] at z; cases z; exact hb rfl
end
structure Un (fs ex:List Addr) (H H':Hp) (h h':Heap):Prop where
 keep:∀ b o,h.get? b=some o→H b=none→b∉fs→b∉ex→h'.get? b=some o
 slot:∀ b o,h.get? b=some o→H b=none→b∈fs→b∉ex→∃ sl,h'.get? b=some { o with slots:=sl }
 free:∀ b o,h.get? b=some o→H b=none→b∉ex→H' b=none
 there:∀ b o,h.get? b=some o→b∉ex→∃ o',h'.get? b=some o'
 tups:∀ b xs,H b=some (.tup xs)→H' b=some (.tup xs)
 frzs:∀ b o u,H b=some (.frz o u)→H' b=some (.frz o u)
 tbls:∀ b ps,H b=some (.tbl ps)→∃ more,H' b=some (.tbl (ps++more))
section
variable {fs fs' ex ex':List Addr} {H H1 H2:Hp} {h h1 h2 h':Heap} {a x e:Addr} {o:HO}
theorem Un.any (u:Un fs ex H H1 h h1) {b:Addr} {ob:Obj} (q:h.get? b=some ob) (n:H b=none) (hx:b∉ex):∃ sl,h1.get? b=some { ob with slots:=sl }:=by
 by_cases hb:b∈fs
 ·exact u.slot b ob q n hb hx
 ·exact ⟨ob.slots,u.keep b ob q n hb hx⟩
theorem Un.trans (a:Un fs ex H H1 h h1) (b:Un fs ex H1 H2 h1 h2):Un fs ex H H2 h h2 where
 keep:=fun c ob q n hc hx=>b.keep c ob (a.keep c ob q n hc hx) (a.free c ob q n hx) hc hx
 slot:=fun c ob q n hc hx=>by
  obtain ⟨sl,e1⟩:=a.slot c ob q n hc hx
  obtain ⟨sl',e2⟩:=b.slot c _ e1 (a.free c ob q n hx) hc hx
  exact ⟨sl',e2⟩
 free:=fun c ob q n hx=>by
  obtain ⟨o',e1⟩:=a.there c ob q hx
  exact b.free c o' e1 (a.free c ob q n hx) hx
 there:=fun c ob q hx=>by
  obtain ⟨o',e1⟩:=a.there c ob q hx
  exact b.there c o' e1 hx
 tups:=fun c xs q=>b.tups c xs (a.tups c xs q)
 frzs:=fun c ob xs q=>b.frzs c ob xs (a.frzs c ob xs q)
 tbls:=fun c ps q=>by
  obtain ⟨m1,e1⟩:=a.tbls c ps q
  obtain ⟨m2,e2⟩:=b.tbls c _ e1
  exact ⟨m1++m2,by rw [e2,Array.append_assoc]⟩
theorem Un.kept (k:∀ b u,h.get? b=some u→h'.get? b=some u):Un fs ex H H h h':=
 ⟨fun b ob q _ _ _=>k b ob q,fun b ob q _ _ _=>⟨ob.slots,k b ob q⟩,fun _ _ _ n _=>n,fun b ob q _=>⟨ob,k b ob q⟩,fun _ _ q=>q,fun _ _ _ q=>q,fun _ ps q=>⟨#[],by rw [q]; simp⟩⟩
theorem Un.refl:Un fs ex H H h h:=Un.kept fun _ _ q=>q
theorem Un.laid (k:∀ b u,h.get? b=some u→h'.get? b=some u) (hp:h.objs.size≤a) (hn:H a=none):Un fs ex H (upd H a o) h h' where
 keep:=fun b u q _ _ _=>k b u q
 slot:=fun b u q _ _ _=>⟨u.slots,k b u q⟩
 free:=fun b u q n _=>by rw [zw (Nat.ne_of_lt (Nat.lt_of_lt_of_le (Heap.lt_size q) hp))]; exact n
 there:=fun b u q _=>⟨u,k b u q⟩
 tups:=fun b xs q=>by rw [zw (zW q hn)]; exact q
 frzs:=fun b u xs q=>by rw [zw (zW q hn)]; exact q
 tbls:=fun b ps q=>⟨#[],by rw [zw (zW q hn),q]; simp⟩
theorem Un.write (mu:Mut (H x)) (he:e=x∨H e=some (.own x)) (k:∀ b u,b≠e→h.get? b=some u→h'.get? b=some u) (heo:∃ u,h'.get? e=some u):Un fs ex H (upd H x o) h h':=by
 have hx:∀ b,H b=none→b≠x:=fun b n z=>by subst z; rw [n] at mu; exact mu
 have hb:∀ b,H b=none→b≠e:=fun b n z=>by
  subst z
  rcases he with r | r
  ·exact hx b n r
  ·rw [n] at r; cases r
 have hm:∀ b u,H b=some u→¬ Mut (some u)→b≠x:=fun b u q nm z=>by subst z; rw [q] at mu; exact nm mu
 refine ⟨fun b u q n _ _=>k b u (hb b n) q,fun b u q n _ _=>⟨u.slots,k b u (hb b n) q⟩,fun b u q n _=>by rw [zw (hx b n)]; exact n,fun b u q _=>?_,
  fun b xs q=>by rw [zw (hm b _ q fun z=>z)]; exact q,fun b u xs q=>by rw [zw (hm b _ q fun z=>z)]; exact q,fun b ps q=>⟨#[],by rw [zw (hm b _ q fun z=>z),q]; simp⟩⟩
 by_cases hbe:b=e
 ·subst hbe; exact heo
 ·exact ⟨u,k b u hbe q⟩
theorem Un.mono (u:Un fs ex H H1 h h1) (hs:∀ b∈fs,b∈fs') (hx:∀ b∈ex,b∈ex'):Un fs' ex' H H1 h h1:=
 ⟨fun b ob q n hb he=>u.keep b ob q n (fun z=>hb (hs b z)) fun z=>he (hx b z),fun _ _ q n _ he=>u.any q n fun z=>he (hx _ z),fun b ob q n he=>u.free b ob q n fun z=>he (hx b z),fun b ob q he=>u.there b ob q fun z=>he (hx b z),u.tups,u.frzs,u.tbls⟩
end
def trk (h:Heap) (H:Hp):List Addr:=(List.range h.objs.size).filter fun a=>(H a).isSome
def pD (h:Heap) (H:Hp):Heap:=PySem.W.hideAll h (trk h H)
theorem jd (h:Heap) (H:Hp):(pD h H).objs.size=h.objs.size:=PySem.W.hideAll_size _ _
theorem fI {h:Heap} {H:Hp} {b:Addr} {o:Obj} (e:h.get? b=some o) (n:H b=none):(pD h H).get? b=some o:=
 PySem.W.hideAll_get _ e fun hm=>by
  have q:(H b).isSome=true:=(List.mem_filter.mp hm).2
  rw [n] at q; simp at q
theorem cx {h:Heap} {H:Hp} {b:Addr} {o:Obj} (e:(pD h H).get? b=some o):h.get? b=some o∧H b=none:=by
 have e':h.get? b=some o:=PySem.W.of_hideAll (trk h H) e
 refine ⟨e',?_⟩
 cases q:H b with
 | none=>rfl
 | some x=>
  have hm:b∈trk h H:=List.mem_filter.mpr ⟨List.mem_range.mpr (Heap.lt_size e'),by simp [q]⟩
  have z:(pD h H).get? b=none:=PySem.W.hideAll_none (trk h H) hm
  rw [z] at e; cases e
def ZW (g h:Heap) (L:Addr):List (Addr × Obj):=(List.range h.objs.size).filterMap fun a=>if a=L∨(g.get? a).isSome=true then none else (h.get? a).map fun o=>(a,o)
def yB (g h:Heap) (L d:Addr):List (Addr × Obj):=(ZW g h L).filter fun p=>decide (p.1≠d)
end L2
namespace L2
open PySem PySem.Spec PyProof.Rows
structure Mod (K:PySem.W.Frag) (mg:Str→Option Value) (base:Heap):Prop where
 kin:K.In base
 glob:base.Ns mainGlobals mg
 blt:∃ mb,base.Ns builtinsNs mb∧∀ x:Str,x≠"__name__"→mb x=bootBuiltins x
 nolimit:base.NoLimit
structure Cx where
 prog:Program
 w:World
 K:PySem.W.Frag
 mg:Str→Option Value
 base:Heap
 A:Around
 N:List Str
 s₀:Shared
 H₀:Hp
 env:Env
 outer:List Env
 stack:List Env
 ex:List Addr
 fn:Str→Bool
 calm:Bool
 pn:List (Addr × Obj)
 xe:Value→Shared→Prop
def frs (l:List Env):List Addr:=l.filterMap (·.frame)
abbrev Cx.fs (X:Cx):List Addr:=frs X.outer
def Vis (sc:Scope) (x:Str):Prop:=sc.names.lookup x=some .local∨sc.names.lookup x=some .cell∨sc.names.lookup x=some .free
def Loc (sc:Scope) (x:Str):Prop:=sc.names.lookup x=some .local∨sc.names.lookup x=some .cell
def Qm (env:Env) (h:Heap) (m:Str→Option Value) (x:Str) (u:Value):Prop:=
 (env.kindOf x=some .local∧m x=some u)∨((env.kindOf x=some .cell∨env.kindOf x=some .free)∧∃ c,env.cells.lookup x=some c∧h.IsCell c (some u))
structure Cx.Ok (X:Cx):Prop where
 mod:Mod X.K X.mg X.base
 kind:X.env.scope.kind=.function
 glob:X.env.globals=mainGlobals
 blt:X.env.builtins=builtinsNs
 above:X.s₀.heap.objs.size≤X.env.locals
 inj:∀ x y c,X.env.cells.lookup x=some c→X.env.cells.lookup y=some c→x=y
 has:∀ x,(X.env.kindOf x=some .cell∨X.env.kindOf x=some .free)→∃ c,X.env.cells.lookup x=some c
 cab:∀ x c,X.fn x=true→X.env.cells.lookup x=some c→X.s₀.heap.objs.size≤c
 hd:X.calm=true→X.A.handled=none
 frames:X.A.frames=some X.stack
 stk:X.stack=X.outer∨(X.stack=X.env::X.outer∧X.env.frame=some X.env.locals)
 exf:∀ b∈X.ex,b≠X.env.locals∧∀ x c,X.env.cells.lookup x=some c→c≠b
 bs:∀ b o,X.base.get? b=some o→X.s₀.heap.get? b=some o∧X.H₀ b=none
 bsz:X.base.objs.size≤X.s₀.heap.objs.size
 noex:∀ b o,X.base.get? b=some o→b∉X.ex
 exfs:∀ b∈X.ex,b∉X.fs
 funs:X.s₀.heap.FunFrames X.base X.outer
 frf:∀ b∈X.fs,X.H₀ b=none
structure Inv (X:Cx) (pins:List (Addr × Obj)) (σ:List (Option V)) (H:Hp) (s:Shared):Prop where
 ok:X.Ok
 os:s.os=X.s₀.os
 bare:AllBare s.gens
 base:Un X.fs X.ex X.H₀ H X.s₀.heap s.heap
 loc:∃ m,s.heap.Ns X.env.locals m∧∀ (i:Nat) (x:Str) (v:V),X.N[i]? = some x→σ[i]? = some (some v)→Vis X.env.scope x→∃ u,RelV v u∧Qm X.env s.heap m x u
 cell:∀ x c,X.env.cells.lookup x=some c→∃ v,s.heap.IsCell c v
 free:H X.env.locals=none
 freeC:∀ x c,X.env.cells.lookup x=some c→H c=none
 pin:∀ p∈X.pn++pins,s.heap.get? p.1=some p.2∧H p.1=none∧p.1≠X.env.locals∧p.1∉X.fs∧∀ v,p.2.data≠.cell v
 hok:HOk X.prog X.w H s.heap
 len:σ.length=X.N.length
section
variable {X:Cx} {pins:List (Addr × Obj)} {σ:List (Option V)} {H H':Hp} {s:Shared} {h':Heap}
theorem Cx.Ok.nofr (ok:X.Ok) {b:Addr} {o:Obj} (e:X.base.get? b=some o):b∉X.fs:=fun hb=>by
 have:=(ok.funs.mem hb).1
 rw [e] at this; cases this
theorem Inv.bs (I:Inv X pins σ H s):∀ b o,X.base.get? b=some o→s.heap.get? b=some o∧H b=none:=fun b o e=>
 ⟨I.base.keep b o (I.ok.bs b o e).1 (I.ok.bs b o e).2 (I.ok.nofr e) (I.ok.noex b o e),I.base.free b o (I.ok.bs b o e).1 (I.ok.bs b o e).2 (I.ok.noex b o e)⟩
theorem Inv.bk (I:Inv X pins σ H s):∀ b o,X.base.get? b=some o→s.heap.get? b=some o:=fun b o e=>(I.bs b o e).1
theorem Inv.mod (I:Inv X pins σ H s):Mod X.K X.mg X.base:=I.ok.mod
theorem Inv.kIn (I:Inv X pins σ H s):X.K.In s.heap:=I.ok.mod.kin.keeps I.bk
theorem Inv.nolimit (I:Inv X pins σ H s):s.heap.NoLimit:=I.ok.mod.nolimit.keeps I.bk
theorem Inv.fr (I:Inv X pins σ H s):∃ m,Fr X.base X.env.locals s.heap m:=
 let ⟨m,hn,_⟩:=I.loc
 ⟨m,hn,I.bk,Nat.le_trans I.ok.bsz I.ok.above⟩
theorem Inv.lt (I:Inv X pins σ H s):X.env.locals<s.heap.objs.size:=let ⟨_,hn,_⟩:=I.loc; hn.lt
theorem Inv.sz (I:Inv X pins σ H s):X.s₀.heap.objs.size≤s.heap.objs.size:=Nat.le_trans I.ok.above (Nat.le_of_lt I.lt)
theorem Inv.nofs (I:Inv X pins σ H s) {a:Addr} (h:s.heap.objs.size≤a):a∉X.fs:=fun hb=>by
 obtain ⟨_,o,ho,_⟩:=I.ok.funs.mem hb
 exact absurd (Nat.lt_of_lt_of_le (Heap.lt_size ho) (Nat.le_trans I.sz h)) (Nat.lt_irrefl _)
theorem Inv.cne (I:Inv X pins σ H s):∀ x c,X.env.cells.lookup x=some c→c≠X.env.locals:=fun x c e z=>by
 obtain ⟨v,o,ho,hd⟩:=I.cell x c e
 obtain ⟨m,⟨o',es,ep,ho',hd',_⟩,_⟩:=I.loc
 rw [z,ho'] at ho; cases ho; rw [hd'] at hd; cases hd
theorem Inv.funs (I:Inv X pins σ H s):s.heap.FunFrames X.base X.outer:=by
 have all:∀ (l:List Env),(∀ b∈frs l,b∈X.fs)→X.s₀.heap.FunFrames X.base l→s.heap.FunFrames X.base l:=by
  intro l
  induction l with
  | nil=>intro _ _; trivial
  | cons env r ih=>
   intro hs hl
   obtain ⟨hk,⟨L,o,hf,hn,ho,hd⟩,hr⟩:=hl
   have hL:L∈X.fs:=hs L (by unfold frs; rw [List.filterMap_cons,hf]; exact List.mem_cons_self)
   obtain ⟨sl,e⟩:=I.base.slot L o ho (I.ok.frf L hL) hL fun z=>I.ok.exfs L z hL
   exact ⟨hk,⟨L,_,hf,hn,e,hd⟩,ih (fun b hb=>hs b (by unfold frs; rw [List.filterMap_cons,hf]; exact List.mem_cons_of_mem _ hb)) hr⟩
 exact all X.outer (fun _ hb=>hb) I.ok.funs
theorem Inv.stack (I:Inv X pins σ H s):s.heap.FunFrames X.base X.stack:=by
 rcases I.ok.stk with e | ⟨e,hf⟩
 ·rw [e]; exact I.funs
 ·rw [e]
  obtain ⟨m,hn,_⟩:=I.loc
  refine .cons (by rw [I.ok.kind]; decide) hf hn ?_ I.funs
  exact Heap.get?_none_of_le (Nat.le_trans I.ok.bsz I.ok.above)
theorem Inv.stkSub (I:Inv X pins σ H s):∀ b∈frs X.stack,b∈X.env.locals::X.fs:=fun b hb=>by
 rcases I.ok.stk with e | ⟨e,hf⟩
 ·rw [e] at hb; exact List.mem_cons_of_mem _ hb
 ·rw [e] at hb
  unfold frs at hb
  rw [List.filterMap_cons,hf] at hb
  exact hb
theorem Inv.stkFree (I:Inv X pins σ H s):∀ b∈frs X.stack,H b=none:=fun b hb=>by
 rcases List.mem_cons.mp (I.stkSub b hb) with e | hb
 ·rw [e]; exact I.free
 ·obtain ⟨_,o,ho,_⟩:=I.ok.funs.mem hb
  exact I.base.free b o ho (I.ok.frf b hb) fun z=>I.ok.exfs b z hb
theorem Inv.step {g':Array GenState} {t':Nat} {d':Drawn} {ch:List Addr} (I:Inv X pins σ H s)
  (hch:∀ b∈ch,(b∈X.ex∨X.s₀.heap.objs.size≤b)∧b≠X.env.locals∧(∀ x c,X.env.cells.lookup x=some c→c≠b)∧∀ p∈X.pn++pins,p.1≠b)
  (keep:∀ b o,b≠X.env.locals→b∉X.fs→b∉ch→s.heap.get? b=some o→H b=none→h'.get? b=some o)
  (slot:∀ b o,b≠X.env.locals→b∈X.fs→b∉ch→s.heap.get? b=some o→H b=none→∃ sl,h'.get? b=some { o with slots:=sl }) (free:∀ b o,b∉ch→s.heap.get? b=some o→H b=none→H' b=none)
  (there:∀ b o,b∉ch→s.heap.get? b=some o→∃ o',h'.get? b=some o')
  (tups:∀ b xs,H b=some (.tup xs)→H' b=some (.tup xs)) (frzs:∀ b o u,H b=some (.frz o u)→H' b=some (.frz o u)) (tbls:∀ b ps,H b=some (.tbl ps)→∃ more,H' b=some (.tbl (ps++more)))
  (ns:∀ m,s.heap.Ns X.env.locals m→h'.Ns X.env.locals m) (hok:HOk X.prog X.w H' h') (hg:AllBare g'):
  Inv X pins σ H' { s with heap:=h',gens:=g',drawn:=d',toks:=t' }:=by
 have neL:∀ b o,X.s₀.heap.get? b=some o→b≠X.env.locals:=fun b o e=>Nat.ne_of_lt (Nat.lt_of_lt_of_le (Heap.lt_size e) I.ok.above)
 have neC:∀ b o,X.s₀.heap.get? b=some o→b∉X.ex→b∉ch:=fun b o e hx hb=>by
  rcases (hch b hb).1 with z | z
  ·exact hx z
  ·exact absurd (Nat.lt_of_lt_of_le (Heap.lt_size e) z) (Nat.lt_irrefl _)
 have cellK:∀ x c,X.env.cells.lookup x=some c→∀ v,s.heap.IsCell c v→h'.IsCell c v:=fun x c e v ⟨o,ho,hd⟩=>by
  have nch:c∉ch:=fun z=>(hch c z).2.2.1 x c e rfl
  by_cases hc:c∈X.fs
  ·obtain ⟨sl,q⟩:=slot c o (I.cne x c e) hc nch ho (I.freeC x c e)
   exact ⟨_,q,hd⟩
  ·exact ⟨o,keep c o (I.cne x c e) hc nch ho (I.freeC x c e),hd⟩
 refine ⟨I.ok,I.os,hg,⟨fun b o e n hb hx=>?_,fun b o e n hb hx=>?_,fun b o e n hx=>?_,fun b o e hx=>?_,fun b xs e=>tups b xs (I.base.tups b xs e),fun b o xs e=>frzs b o xs (I.base.frzs b o xs e),fun b ps e=>?_⟩,?_,fun x c e=>?_,?_,fun x c e=>?_,fun p hp=>?_,hok,I.len⟩
 ·exact keep b o (neL b o e) hb (neC b o e hx) (I.base.keep b o e n hb hx) (I.base.free b o e n hx)
 ·obtain ⟨sl,e1⟩:=I.base.slot b o e n hb hx
  obtain ⟨sl',e2⟩:=slot b _ (neL b o e) hb (neC b o e hx) e1 (I.base.free b o e n hx)
  exact ⟨sl',e2⟩
 ·obtain ⟨o',e1⟩:=I.base.there b o e hx
  exact free b o' (neC b o e hx) e1 (I.base.free b o e n hx)
 ·obtain ⟨o',e1⟩:=I.base.there b o e hx
  exact there b o' (neC b o e hx) e1
 ·obtain ⟨m1,e1⟩:=I.base.tbls b ps e
  obtain ⟨m2,e2⟩:=tbls b _ e1
  exact ⟨m1++m2,by rw [e2,Array.append_assoc]⟩
 ·obtain ⟨m,hn,hl⟩:=I.loc
  refine ⟨m,ns m hn,fun i x v e1 e2 e3=>?_⟩
  obtain ⟨u,r,l⟩:=hl i x v e1 e2 e3
  refine ⟨u,r,?_⟩
  rcases l with l | ⟨k,c,e,z⟩
  ·exact .inl l
  ·exact .inr ⟨k,c,e,cellK x c e _ z⟩
 ·obtain ⟨v,z⟩:=I.cell x c e
  exact ⟨v,cellK x c e v z⟩
 ·obtain ⟨m,⟨o,_,_,ho,_⟩,_⟩:=I.loc
  exact free _ o (fun z=>(hch _ z).2.1 rfl) ho I.free
 ·obtain ⟨v,o,ho,hd⟩:=I.cell x c e
  exact free c o (fun z=>(hch c z).2.2.1 x c e rfl) ho (I.freeC x c e)
 ·obtain ⟨e,n,ne,nf,d⟩:=I.pin p hp
  have nch:p.1∉ch:=fun z=>(hch p.1 z).2.2.2 p hp rfl
  exact ⟨keep p.1 p.2 ne nf nch e n,free p.1 p.2 nch e n,ne,nf,d⟩
theorem Inv.un {t':Nat} (I:Inv X pins σ H s) (u:Un X.fs [] H H' s.heap h') (hok:HOk X.prog X.w H' h'):Inv X pins σ H' { s with heap:=h',toks:=t' }:=by
 obtain ⟨m,⟨o,es,ep,ho,r⟩,_⟩:=id I.loc
 obtain ⟨sl,hL⟩:=u.any ho I.free (by simp)
 exact I.step (g':=s.gens) (d':=s.drawn) (ch:=[]) (fun _ z=>nomatch z) (fun b o _ hb _ e n=>u.keep b o e n hb (by simp)) (fun b o _ hb _ e n=>u.slot b o e n hb (by simp)) (fun b o _ e n=>u.free b o e n (by simp)) (fun b o _ e=>u.there b o e (by simp)) u.tups u.frzs u.tbls (fun m' hm=>by
  obtain ⟨o',es',ep',ho',r'⟩:=hm
  rw [ho] at ho'; cases ho'
  exact ⟨_,es',ep',hL,r'⟩) hok I.bare
theorem Inv.call {g':Array GenState} {t':Nat} {d':Drawn} {ch:List Addr} (I:Inv X pins σ H s) (u:Un (frs X.stack) ch H H' s.heap h') (hok:HOk X.prog X.w H' h') (hg:AllBare g')
  (hch:∀ b∈ch,(b∈X.ex∨X.s₀.heap.objs.size≤b)∧b≠X.env.locals∧(∀ x c,X.env.cells.lookup x=some c→c≠b)∧∀ p∈X.pn++pins,p.1≠b):
  Inv X pins σ H' { s with heap:=h',gens:=g',drawn:=d',toks:=t' }:=by
 obtain ⟨m,⟨o,es,ep,ho,r⟩,_⟩:=id I.loc
 obtain ⟨sl,hL⟩:=u.any ho I.free fun z=>(hch _ z).2.1 rfl
 exact I.step (ch:=ch) hch (fun b o hL hb hc e n=>u.keep b o e n (fun z=>(List.mem_cons.mp (I.stkSub b z)).elim hL hb) hc) (fun b o _ _ hc e n=>u.any e n hc) (fun b o hc e n=>u.free b o e n hc) (fun b o hc e=>u.there b o e hc) u.tups u.frzs u.tbls (fun m' hm=>by
  obtain ⟨o',es',ep',ho',r'⟩:=hm
  rw [ho] at ho'; cases ho'
  exact ⟨_,es',ep',hL,r'⟩) hok hg
theorem Inv.turned {t':Nat} {it:Addr} (I:Inv X pins σ H s) (k:∀ b o,b≠it→s.heap.get? b=some o→h'.get? b=some o) (hn:H it=none) (hL:it≠X.env.locals)
  (h1:it∈X.ex∨X.s₀.heap.objs.size≤it) (h2:∀ x c,X.env.cells.lookup x=some c→c≠it) (h3:∀ p∈X.pn++pins,p.1≠it):Inv X pins σ H { s with heap:=h',toks:=t' }:=by
 have nit:∀ b u,H b=some u→b≠it:=fun b u e z=>by rw [z,hn] at e; cases e
 refine I.step (g':=s.gens) (d':=s.drawn) (ch:=[it]) (fun b hb=>?_) (fun b o _ _ hc e _=>k b o (fun z=>hc (by simp [z])) e) (fun b o _ _ hc e _=>⟨o.slots,k b o (fun z=>hc (by simp [z])) e⟩) (fun _ _ _ _ n=>n)
  (fun b o hc e=>⟨o,k b o (fun z=>hc (by simp [z])) e⟩) (fun _ _ e=>e) (fun _ _ _ e=>e) (fun b ps e=>⟨#[],by rw [e]; simp⟩) (fun m hm=>?_) (fun b u e=>?_) I.bare
 ·have e:b=it:=by simpa using hb
  subst e
  exact ⟨h1,hL,h2,h3⟩
 ·obtain ⟨o,es,ep,ho,r⟩:=hm
  exact ⟨o,es,ep,k _ o (Ne.symm hL) ho,r⟩
 ·refine (I.hok b u e).stay (fun c v hc q=>k c v ?_ q) (fun _ q=>q) fun _ _ q=>q
  rcases hc with z | z
  ·rw [z]; exact nit b u e
  ·exact nit c _ z
theorem Inv.tok (I:Inv X pins σ H s) (t:Nat):Inv X pins σ H { s with toks:=t }:=I.un (h':=s.heap) (t':=t) Un.refl I.hok
theorem Inv.kept {t':Nat} (I:Inv X pins σ H s) (k:∀ b u,s.heap.get? b=some u→h'.get? b=some u):Inv X pins σ H { s with heap:=h',toks:=t' }:=I.un (Un.kept k) (I.hok.kept k)
theorem Inv.laid {a:Addr} {o:HO} {t':Nat} (I:Inv X pins σ H s) (k:∀ b u,s.heap.get? b=some u→h'.get? b=some u) (hp:s.heap.objs.size≤a) (new:ObjOk X.prog X.w (upd H a o) h' a o):
  Inv X pins σ (upd H a o) { s with heap:=h',toks:=t' }:=I.un (Un.laid k hp (I.hok.fresh hp)) (I.hok.laid k hp new)
theorem Inv.write {x e:Addr} {o:HO} {t':Nat} (I:Inv X pins σ H s) (mu:Mut (H x)) (he:e=x∨H e=some (.own x)) (k:∀ b u,b≠e→s.heap.get? b=some u→h'.get? b=some u) (heo:∃ u,h'.get? e=some u)
  (new:ObjOk X.prog X.w (upd H x o) h' x o):Inv X pins σ (upd H x o) { s with heap:=h',toks:=t' }:=I.un (Un.write mu he k heo) (I.hok.write mu he k heo new)
theorem Inv.weak {σ':List (Option V)} (I:Inv X pins σ H s) (hl:σ'.length=σ.length) (w:∀ (i:Nat) v,σ'[i]? = some (some v)→σ[i]? = some (some v)):Inv X pins σ' H s:=
 ⟨I.ok,I.os,I.bare,I.base,let ⟨m,hn,hl'⟩:=I.loc; ⟨m,hn,fun i x v e1 e2 e3=>hl' i x v e1 (w i v e2) e3⟩,I.cell,I.free,I.freeC,I.pin,I.hok,hl.trans I.len⟩
theorem Inv.pins_of {pins':List (Addr × Obj)} (I:Inv X pins σ H s) (h:∀ p∈pins',s.heap.get? p.1=some p.2∧H p.1=none∧p.1≠X.env.locals∧p.1∉X.fs∧∀ v,p.2.data≠.cell v):Inv X pins' σ H s:=
 ⟨I.ok,I.os,I.bare,I.base,I.loc,I.cell,I.free,I.freeC,fun p hp=>(List.mem_append.mp hp).elim (fun z=>I.pin p (List.mem_append_left _ z)) (h p),I.hok,I.len⟩
theorem sX {N:List Str} (hN:N.Nodup) {i j:Nat} {x:Str} (a:N[i]? = some x) (b:N[j]? = some x):i=j:=by
 obtain ⟨h1,e1⟩:=List.getElem?_eq_some_iff.mp a
 obtain ⟨h2,e2⟩:=List.getElem?_eq_some_iff.mp b
 exact (List.getElem_inj hN).mp (e1.trans e2.symm)
theorem ko {M:Model} {A:Around} {E:Value→Shared→Prop} {i:Nat} {x:Str} {v:V} {u:Value} {Q:Unit→Shared→Prop} (I:Inv X pins σ H s) (hN:X.N.Nodup) (hi:X.N[i]? = some x) (hx:Loc X.env.scope x) (r:RelV v u)
  (h:∀ s',Inv X pins (σ.set i (some v)) H s'→(∃ a,Heap.SameBut a s.heap s'.heap∧(a=X.env.locals∨X.env.cells.lookup x=some a))→Q () s') (hf:X.fn x=true∨X.env.scope.names.lookup x=some .local:=by first | exact .inl rfl | exact .inr rfl | assumption):wpAny M A (storeName X.env x u) Q E s:=by
 obtain ⟨m,hn,hl⟩:=id I.loc
 have hcls:(X.env.scope.kind == .class || (X.env.scope.kind == .module && X.env.locals != X.env.globals))=false:=by rw [I.ok.kind]; rfl
 have hiσ:i<σ.length:=by rw [I.len]; exact (List.getElem?_eq_some_iff.mp hi).1
 have cne:=I.cne
 have tracked:∀ {a:Addr} {h':Heap},(∃ o,s.heap.get? a=some o∧H a=none)→Heap.SameBut a s.heap h'→HOk X.prog X.w H h':=fun {a h'} ha hs b ob e=>by
  obtain ⟨_,_,hfree⟩:=ha
  refine (I.hok b ob e).stay (fun c w' hc q=>(hs.2 c ?_).trans q) (fun _ q=>q) fun _ _ q=>q
  rintro rfl
  rcases hc with rfl | hc
  ·rw [hfree] at e; cases e
  ·rw [hfree] at hc; cases hc
 rcases hx with hk | hk
 ·refine wpAny_storeName_local hk hn (fun h' hn' hs=>?_) hcls
  obtain ⟨oL,_,_,hoL,_⟩:=id hn
  refine h _ ⟨I.ok,I.os,I.bare,⟨fun b o e n hb hx=>?_,fun b o e n hb hx=>?_,I.base.free,fun b o e hx=>?_,I.base.tups,I.base.frzs,I.base.tbls⟩,⟨_,hn',fun j y v' e1 e2 e3=>?_⟩,fun y c e=>?_,I.free,I.freeC,fun p hp=>?_,tracked ⟨oL,hoL,I.free⟩ hs,by simpa using I.len⟩ ⟨_,hs,.inl rfl⟩
  ·exact (hs.2 b (Nat.ne_of_lt (Nat.lt_of_lt_of_le (Heap.lt_size e) I.ok.above))).trans (I.base.keep b o e n hb hx)
  ·obtain ⟨sl,e1⟩:=I.base.slot b o e n hb hx
   exact ⟨sl,(hs.2 b (Nat.ne_of_lt (Nat.lt_of_lt_of_le (Heap.lt_size e) I.ok.above))).trans e1⟩
  ·obtain ⟨o',e1⟩:=I.base.there b o e hx
   exact ⟨o',(hs.2 b (Nat.ne_of_lt (Nat.lt_of_lt_of_le (Heap.lt_size e) I.ok.above))).trans e1⟩
  ·by_cases hj:j=i
   ·subst hj
    rw [hi] at e1; cases e1
    rw [List.getElem?_set_self hiσ] at e2
    cases e2
    exact ⟨u,r,.inl ⟨hk,by simp⟩⟩
   ·rw [List.getElem?_set_ne (Ne.symm hj)] at e2
    obtain ⟨u',r',q⟩:=hl j y v' e1 e2 e3
    refine ⟨u',r',?_⟩
    rcases q with ⟨k,e⟩ | ⟨k,c,e,z⟩
    ·refine .inl ⟨k,?_⟩
     have:y≠x:=fun e=>hj (sX hN e1 (e ▸ hi))
     simp [this,e]
    ·exact .inr ⟨k,c,e,z.sameBut hs (cne y c e)⟩
  ·obtain ⟨w',z⟩:=I.cell y c e
   exact ⟨w',z.sameBut hs (cne y c e)⟩
  ·obtain ⟨e,n,ne,nf,d⟩:=I.pin p hp
   exact ⟨(hs.2 p.1 ne).trans e,n,ne,nf,d⟩
 ·have hfn:X.fn x=true:=by
   rcases hf with z | z
   ·exact z
   ·rw [z] at hk; cases hk
  obtain ⟨c,hc⟩:=I.ok.has x (.inl hk)
  obtain ⟨w',z⟩:=I.cell x c hc
  refine wpAny_storeName_cell I.ok.kind hk hc z (fun h' hc' hs=>?_)
  obtain ⟨oc,hoc,hocd⟩:=id z
  refine h { s with heap:=h' } ⟨I.ok,I.os,I.bare,⟨fun b o e n hb hx=>?_,fun b o e n hb hx=>?_,I.base.free,fun b o e hx=>?_,I.base.tups,I.base.frzs,I.base.tbls⟩,⟨m,hn.sameBut hs (Ne.symm (cne x c hc)),fun j y v' e1 e2 e3=>?_⟩,fun y c' e=>?_,I.free,I.freeC,fun p hp=>?_,tracked ⟨oc,hoc,I.freeC x c hc⟩ hs,by simpa using I.len⟩ ⟨c,hs,.inr hc⟩
  ·exact (hs.2 b (Nat.ne_of_lt (Nat.lt_of_lt_of_le (Heap.lt_size e) (I.ok.cab x c hfn hc)))).trans (I.base.keep b o e n hb hx)
  ·obtain ⟨sl,e1⟩:=I.base.slot b o e n hb hx
   exact ⟨sl,(hs.2 b (Nat.ne_of_lt (Nat.lt_of_lt_of_le (Heap.lt_size e) (I.ok.cab x c hfn hc)))).trans e1⟩
  ·obtain ⟨o',e1⟩:=I.base.there b o e hx
   exact ⟨o',(hs.2 b (Nat.ne_of_lt (Nat.lt_of_lt_of_le (Heap.lt_size e) (I.ok.cab x c hfn hc)))).trans e1⟩
  ·by_cases hj:j=i
   ·subst hj
    rw [hi] at e1; cases e1
    rw [List.getElem?_set_self hiσ] at e2
    cases e2
    exact ⟨u,r,.inr ⟨.inl hk,c,hc,hc'⟩⟩
   ·rw [List.getElem?_set_ne (Ne.symm hj)] at e2
    obtain ⟨u',r',q⟩:=hl j y v' e1 e2 e3
    refine ⟨u',r',?_⟩
    rcases q with q | ⟨k,c',e,z'⟩
    ·exact .inl q
    ·refine .inr ⟨k,c',e,z'.sameBut hs ?_⟩
     rintro rfl
     exact hj (sX hN e1 (I.ok.inj _ _ _ e hc ▸ hi))
  ·by_cases hcc:c'=c
   ·subst hcc; exact ⟨_,hc'⟩
   ·obtain ⟨w2,z2⟩:=I.cell y c' e
    exact ⟨w2,z2.sameBut hs hcc⟩
  ·obtain ⟨e,n,ne,nf,d⟩:=I.pin p hp
   refine ⟨(hs.2 p.1 ?_).trans e,n,ne,nf,d⟩
   intro q
   rw [q,hoc] at e
   have q':oc=p.2:=Option.some.inj e
   exact d w' (by rw [← q']; exact hocd)
theorem xI {M:Model} {A:Around} {E:Value→Shared→Prop} {i:Nat} {x:Str} {v:V} {u:Value} {Q:Unit→Shared→Prop} (I:Inv X pins σ H s) (hN:X.N.Nodup) (hi:X.N[i]? = some x) (hx:Loc X.env.scope x) (r:RelV v u)
  (h:∀ s',Inv X pins (σ.set i (some v)) H s'→Q () s') (hf:X.fn x=true∨X.env.scope.names.lookup x=some .local:=by first | exact .inl rfl | exact .inr rfl | assumption):wpAny M A (storeName X.env x u) Q E s:=
 ko I hN hi hx r (fun s' I' _=>h s' I') hf
theorem Inv.call' {s':Shared} {ch:List Addr} (I:Inv X pins σ H s) (ho:s'.os=s.os) (u:Un (frs X.stack) ch H H' s.heap s'.heap) (hok:HOk X.prog X.w H' s'.heap) (hg:AllBare s'.gens)
  (hch:∀ b∈ch,(b∈X.ex∨X.s₀.heap.objs.size≤b)∧b≠X.env.locals∧(∀ x c,X.env.cells.lookup x=some c→c≠b)∧∀ p∈X.pn++pins,p.1≠b):Inv X pins σ H' s':=by
 obtain ⟨h',g',d',t',o'⟩:=s'
 have e:o'=s.os:=ho
 subst e
 exact I.call (g':=g') (t':=t') (d':=d') u hok hg hch
end
abbrev XK:=Value→Option Addr→Hp→Prop
abbrev St:=List (Option V)
abbrev VK:=V→Hp→Prop
abbrev TE:=St→Hp→VK→Prop
abbrev TT:=St→Hp→(Bool→Hp→Prop)→Prop
abbrev TA:=St→Hp→(List V→Hp→Prop)→Prop
structure Ends where
 nx:St→Hp→Prop
 rt:VK
 bk:St→Hp→Prop:=fun _ _=>False
 ct:St→Hp→Prop:=fun _ _=>False
abbrev TS:=Ends→St→Hp→Prop
def EP (X:Cx) (pins:List (Addr × Obj)) (σ:St) (Q:VK) (u:Value) (s':Shared):Prop:=∃ v H',Inv X pins σ H' s'∧RelV v u∧Q v H'
def TP (X:Cx) (pins:List (Addr × Obj)) (σ:St) (Q:Bool→Hp→Prop) (b:Bool) (s':Shared):Prop:=∃ H',Inv X pins σ H' s'∧Q b H'
def AP (X:Cx) (pins:List (Addr × Obj)) (σ:St) (Q:List V→Hp→Prop) (us:List Value) (s':Shared):Prop:=∃ vs H',Inv X pins σ H' s'∧Vals vs us∧Q vs H'
def SP (X:Cx) (pins:List (Addr × Obj)) (D:Ends) (f:Flow) (s':Shared):Prop:=
 match f with
 | .next=>∃ σ' H',Inv X pins σ' H' s'∧D.nx σ' H'
 | .brk=>∃ σ' H',Inv X pins σ' H' s'∧D.bk σ' H'
 | .cont=>∃ σ' H',Inv X pins σ' H' s'∧D.ct σ' H'
 | .ret u=>∃ v σ' H',Inv X pins σ' H' s'∧RelV v u∧D.rt v H'
def PE (X:Cx) (e:Expr) (t:TE):Prop:=
 ∀ (pins:List (Addr × Obj)) (s:Shared) (σ:St) (H:Hp) (Q:VK),Inv X pins σ H s→t σ H Q→wpAny (model X.prog X.w) X.A (eval e X.env) (EP X pins σ Q) X.xe s
def PT (X:Cx) (e:Expr) (t:TT):Prop:=
 ∀ (pins:List (Addr × Obj)) (s:Shared) (σ:St) (H:Hp) (Q:Bool→Hp→Prop),Inv X pins σ H s→t σ H Q→wpAny (model X.prog X.w) X.A (isTrue e X.env (eval e X.env)) (TP X pins σ Q) X.xe s
def PW (X:Cx) (e:Expr) (t:TT):Prop:=
 ∀ (yK:Sem Value) (pins:List (Addr × Obj)) (s:Shared) (σ:St) (H:Hp) (Q:Bool→Hp→Prop),Inv X pins σ H s→t σ H Q→wpAny (model X.prog X.w) X.A (isTrue e X.env yK) (TP X pins σ Q) X.xe s
theorem PW.pt {X:Cx} {e:Expr} {t:TT} (h:PW X e t):PT X e t:=h _
def PA (X:Cx) (es:List Expr) (t:TA):Prop:=
 ∀ (pos:Pos) (pins:List (Addr × Obj)) (s:Shared) (σ:St) (H:Hp) (Q:List V→Hp→Prop),Inv X pins σ H s→t σ H Q→wpAny (model X.prog X.w) X.A (spliced (backTo pos (starEach es X.env))) (AP X pins σ Q) X.xe s
def PS (X:Cx) (st:Stmt) (t:TS):Prop:=
 ∀ (pins:List (Addr × Obj)) (s:Shared) (σ:St) (H:Hp) (D:Ends),Inv X pins σ H s→t D σ H→wpAny (model X.prog X.w) X.A (exec st X.env) (SP X pins D) X.xe s
def PSs (X:Cx) (st:List Stmt) (t:TS):Prop:=
 ∀ (pins:List (Addr × Obj)) (s:Shared) (σ:St) (H:Hp) (D:Ends),Inv X pins σ H s→t D σ H→wpAny (model X.prog X.w) X.A (execs st X.env) (SP X pins D) X.xe s
theorem thn {α:Type} {t:Sem α} {Q Q':α→Shared→Prop} {M:Model} {A:Around} {E:Value→Shared→Prop} {s:Shared} (h:wpAny M A t Q E s) (hQ:∀ a s,Q a s→Q' a s):wpAny M A t Q' E s:=wpAny_mono h hQ fun _ _ x=>x
end L2
namespace L2
open PySem PySem.Spec PyProof.Rows
section
variable {X:Cx}
theorem bin {a b:Expr} {ta tb:TE} (ha:PE X a ta) (hb:PE X b tb) {pins:List (Addr × Obj)} {s:Shared} {σ:St} {H:Hp} {R:V→V→Hp→Prop} (I:Inv X pins σ H s) (h:ta σ H fun x H1=>tb σ H1 fun y H2=>R x y H2)
  {α:Type} {Q:α→Shared→Prop} {f:Value→Value→Sem α}
  (hf:∀ v u s2 x y H2,Inv X pins σ H2 s2→RelV x v→RelV y u→R x y H2→wpAny (model X.prog X.w) X.A (f v u) Q X.xe s2):
  wpAny (model X.prog X.w) X.A (eval a X.env) (fun v s₁=>wpAny (model X.prog X.w) X.A (eval b X.env) (fun u s₂=>wpAny (model X.prog X.w) X.A (f v u) Q X.xe s₂) X.xe s₁) X.xe s:=by
 refine thn (ha pins s σ H _ I h) fun v s1 ⟨x,H1,I1,r1,q1⟩=>?_
 refine thn (hb pins s1 σ H1 _ I1 q1) fun u s2 ⟨y,H2,I2,r2,q2⟩=>?_
 exact hf v u s2 x y H2 I2 r1 r2 q2
def dM (i:Nat):TE:=fun σ H Q=>∃ v,σ[i]? = some (some v)∧Q v H
def tC (v:V):TE:=fun _ H Q=>Q v H
theorem z5 {i:Nat} {x:Str} {pos:Pos} (hN:X.N[i]? = some x) (hv:Vis X.env.scope x) (hd:(x == ("__debug__":Str))=false:=by decide) (hcd:(x == ("__classdict__":Str))=false:=by decide):PE X (.Name x pos) (dM i):=by
 intro pins s σ H Q I h
 obtain ⟨v,e,h⟩:=h
 obtain ⟨m,hn,hl⟩:=I.loc
 obtain ⟨u,r,l⟩:=hl i x v hN e hv
 have fin:EP X pins σ Q u s:=⟨v,H,I,r,h⟩
 rcases l with ⟨hk,hm⟩ | ⟨hk,c,hc,hcell⟩
 ·exact wpAny_Name (wpAny_loadName_local I.ok.kind hk hn hm fin) hd
 ·rcases hk with hk | hk
  ·exact wpAny_Name (wpAny_loadName_cell I.ok.kind hk hc hcell fin) hd
  ·exact wpAny_Name (wpAny_loadName_free I.ok.kind hk hc hcell fin hcd) hd
theorem j7 {i j pos}:PE X (.Constant (.int i) j pos) (tC (.int i)):=fun _ _ _ H _ I h=>wpAny_Constant_int ⟨.int i,H,I.tok _,⟨_,rfl⟩,h⟩
theorem Tg {b j pos}:PE X (.Constant (.bool b) j pos) (tC (.bl b)):=fun _ _ _ H _ I h=>Constant_bool ⟨.bl b,H,I,rfl,h⟩
theorem Y9 {j pos}:PE X (.Constant .none j pos) (tC .non):=fun _ _ _ H _ I h=>Constant_none ⟨.non,H,I,rfl,h⟩
theorem YZ {x j pos}:PE X (.Constant (.str x) j pos) (tC (.str x)):=fun _ _ _ H _ I h=>Calls.Constant_str ⟨.str x,H,I.tok _,⟨_,rfl⟩,h⟩
def Gl (X:Cx) (x:Str):Prop:=X.env.kindOf x=some .globalImplicit
theorem wg {E:Value→Shared→Prop} {pins:List (Addr × Obj)} {s:Shared} {σ:St} {H:Hp} {x:Str} {u:Value} {pos:Pos} {Q:Value→Shared→Prop} (I:Inv X pins σ H s) (hg:Gl X x) (hm:X.mg x=some u) (h:Q u s)
  (hd:(x == ("__debug__":Str))=false:=by decide):wpAny (model X.prog X.w) X.A (eval (.Name x pos) X.env) Q E s:=
 Calls.Name_function_global I.ok.kind hg (Calls.loadGlobal_global (by rw [I.ok.glob]; exact I.mod.glob.keeps I.bk) hm h) hd
theorem xG {E:Value→Shared→Prop} {pins:List (Addr × Obj)} {s:Shared} {σ:St} {H:Hp} {x:Str} {u:Value} {pos:Pos} {Q:Value→Shared→Prop} (I:Inv X pins σ H s) (hg:Gl X x) (hm:X.mg x=none) (hv:bootBuiltins x=some u) (h:Q u s)
  (hn:x≠"__name__":=by decide) (hd:(x == ("__debug__":Str))=false:=by decide):wpAny (model X.prog X.w) X.A (eval (.Name x pos) X.env) Q E s:=by
 obtain ⟨mb,h1,h2⟩:=I.mod.blt
 exact Calls.Name_function_global I.ok.kind hg (Calls.loadGlobal_builtin (by rw [I.ok.glob]; exact I.mod.glob.keeps I.bk) hm (by rw [I.ok.blt]; exact h1.keeps I.bk) ((h2 x hn).trans hv) h) hd
theorem ly {x:Str} {v:V} {u:Value} {pos:Pos} (hg:Gl X x) (hm:X.mg x=some u) (r:RelV v u) (hd:(x == ("__debug__":Str))=false:=by decide):PE X (.Name x pos) (tC v):=
 fun _ _ _ H _ I h=>wg I hg hm ⟨v,H,I,r,h⟩ hd
theorem cn {x:Str} {v:V} {u:Value} {pos:Pos} (hg:Gl X x) (hm:X.mg x=none) (hv:bootBuiltins x=some u) (r:RelV v u) (hn:x≠"__name__":=by decide) (hd:(x == ("__debug__":Str))=false:=by decide):PE X (.Name x pos) (tC v):=
 fun _ _ _ H _ I h=>xG I hg hm hv ⟨v,H,I,r,h⟩ hn hd
variable {a b:Expr} {ta tb:TE} {pos:Pos}
def PC (X:Cx) (op:CmpOp) (a b:Expr) (t:TE):Prop:=
 ∀ (pins:List (Addr × Obj)) (s:Shared) (σ:St) (H:Hp) (Q:VK),Inv X pins σ H s→t σ H Q→
  wpAny (model X.prog X.w) X.A (eval a X.env) (fun v s₁=>wpAny (model X.prog X.w) X.A (eval b X.env) (fun u s₂=>wpAny (model X.prog X.w) X.A (compareOp op v u) (EP X pins σ Q) X.xe s₂) X.xe s₁) X.xe s
theorem ft (b:Expr) {op:CmpOp} (h:op≠.In) (h2:op≠.NotIn):behindInMarks op b=false:=by
 have e1:(op == CmpOp.In)=false:=by cases op <;> first | rfl | exact absurd rfl h
 have e2:(op == CmpOp.NotIn)=false:=by cases op <;> first | rfl | exact absurd rfl h2
 cases b <;> simp [behindInMarks,e1,e2]
def UQ (ta:TE):TE:=fun σ H Q=>ta σ H fun x H1=>Q (.bl (decide (x=.non))) H1
theorem RelV.none_iff {x:V} {v:Value} (r:RelV x v):(v == Value.none)=decide (x=.non):=by
 cases x with
 | non=>cases r; rfl
 | bl _=>cases r; rfl
 | int _=>obtain ⟨t,rfl⟩:=r; rfl
 | str _=>obtain ⟨t,rfl⟩:=r; rfl
 | byt _=>obtain ⟨t,rfl⟩:=r; rfl
 | flt _=>obtain ⟨t,rfl⟩:=r; rfl
 | ref _=>cases r; rfl
 | ty _=>cases r; rfl
theorem Xe {j pos'} (ha:PE X a ta):PC X .Is a (.Constant .none j pos') (UQ ta):=by
 intro pins s σ H Q I h
 refine thn (ha pins s σ H _ I h) fun v s1 ⟨x,H1,I1,r1,q1⟩=>?_
 exact Constant_none (is_none_gen ⟨.bl _,H1,I1,by rw [r1.none_iff]; rfl,q1⟩)
def tB (t:TE):TT:=fun σ H Q=>t σ H fun x H1=>∃ c,x=.bl c∧Q c H1
theorem YS {op:CmpOp} {t:TE} (h:PC X op a b t) (h1:behindInMarks op b=false:=by first | exact ft _ (by decide) (by decide) | rfl):PT X (.Compare a [op] [b] pos) (tB t):=by
 intro pins s σ H Q I hw
 refine wpAny_isTrue_Compare1 (thn (h pins s σ H _ I hw) fun v s1 h1=>thn h1 fun u s2 h2=>thn h2 fun c s3 ⟨x,H1,I1,r1,q1⟩=>?_) h1
 obtain ⟨d,rfl,q⟩:=q1
 cases r1
 exact wpAny_truthy_bool ⟨H1,I1,q⟩
theorem YQ {e:Expr} {t:TE} (h:PE X e t) (he:∀ yK,isTrue e X.env yK=(do let v ← yK; standAt e.pos; holding [v] (truthy v)):=by intro _; rfl):PT X e (tB t):=by
 intro pins s σ H Q I hw
 refine isTrue_plain (thn (h pins s σ H _ I hw) fun v s1 ⟨x,H1,I1,r1,q1⟩=>?_) (he _)
 obtain ⟨d,rfl,q⟩:=q1
 cases r1
 exact wpAny_truthy_bool ⟨H1,I1,q⟩
variable {tA tB':TT} {yB:List Expr}
def RA (t u:TT):TT:=fun σ H Q=>t σ H fun c H1=>if c=true then u σ H1 Q else Q false H1
def tOr (t u:TT):TT:=fun σ H Q=>t σ H fun c H1=>if c=true then Q true H1 else u σ H1 Q
def Rs (t:TT):TT:=fun σ H Q=>t σ H fun c H1=>Q (!c) H1
theorem d7 (ha:PT X a tA):PW X (.BoolOp .And [a] pos) tA:=by
 intro wh pins s σ H Q I h
 refine isTrue_and (thn (ha pins s σ H Q I h) fun c s1 e=>?_)
 cases c with
 | true=>exact isTrue_and_nil e
 | false=>exact e
theorem YN (ha:PT X a tA):PW X (.BoolOp .Or [a] pos) tA:=by
 intro wh pins s σ H Q I h
 refine isTrue_or (thn (ha pins s σ H Q I h) fun c s1 e=>?_)
 cases c with
 | false=>exact isTrue_or_nil e
 | true=>exact e
theorem YO (ha:PT X a tA) (hb:PW X (.BoolOp .And (b::yB) pos) tB'):PW X (.BoolOp .And (a::b::yB) pos) (RA tA tB'):=by
 intro wh pins s σ H Q I h
 refine isTrue_and (thn (ha pins s σ H _ I h) fun c s1 ⟨H1,I1,q1⟩=>?_)
 cases c with
 | true=>exact hb wh pins s1 σ H1 Q I1 q1
 | false=>exact ⟨H1,I1,q1⟩
theorem Tc (ha:PT X a tA) (hb:PW X (.BoolOp .Or (b::yB) pos) tB'):PW X (.BoolOp .Or (a::b::yB) pos) (tOr tA tB'):=by
 intro wh pins s σ H Q I h
 refine isTrue_or (thn (ha pins s σ H _ I h) fun c s1 ⟨H1,I1,q1⟩=>?_)
 cases c with
 | true=>exact ⟨H1,I1,q1⟩
 | false=>exact hb wh pins s1 σ H1 Q I1 q1
theorem YR (ha:PT X a tA):PT X (.UnaryOp .Not a pos) (Rs tA):=by
 intro pins s σ H Q I h
 exact isTrue_not (ha pins s σ H (fun c H1=>Q (!c) H1) I h)
def UX (ta tb:TE):TE:=fun σ H Q=>ta σ H fun x H1=>∃ c,x=.bl c∧if c=true then tb σ H1 Q else Q (.bl false) H1
def Rr (ta tb:TE):TE:=fun σ H Q=>ta σ H fun x H1=>∃ c,x=.bl c∧if c=true then Q (.bl true) H1 else tb σ H1 Q
def UM (ta:TE):TE:=fun σ H Q=>ta σ H fun x H1=>∃ c,x=.bl c∧Q (.bl (!c)) H1
theorem Y7 {op} {t:TE} (h:PE X a t):PE X (.BoolOp op [a] pos) t:=fun pins s σ H Q I hw=>BoolOp_one (h pins s σ H Q I hw)
theorem Xb (ha:PE X a ta) (hb:PE X (.BoolOp .And (b::yB) pos) tb):PE X (.BoolOp .And (a::b::yB) pos) (UX ta tb):=by
 intro pins s σ H Q I h
 refine BoolOp_and (thn (ha pins s σ H _ I h) fun v s1 ⟨x,H1,I1,r1,q1⟩=>?_)
 obtain ⟨c,rfl,q1⟩:=q1
 cases r1
 refine wpAny_truthy_bool ?_
 cases c with
 | true=>exact hb pins s1 σ H1 Q I1 q1
 | false=>exact ⟨.bl false,H1,I1,rfl,q1⟩
theorem Tf (ha:PE X a ta) (hb:PE X (.BoolOp .Or (b::yB) pos) tb):PE X (.BoolOp .Or (a::b::yB) pos) (Rr ta tb):=by
 intro pins s σ H Q I h
 refine BoolOp_or (thn (ha pins s σ H _ I h) fun v s1 ⟨x,H1,I1,r1,q1⟩=>?_)
 obtain ⟨c,rfl,q1⟩:=q1
 cases r1
 refine wpAny_truthy_bool ?_
 cases c with
 | false=>exact hb pins s1 σ H1 Q I1 q1
 | true=>exact ⟨.bl true,H1,I1,rfl,q1⟩
theorem Y8 (ha:PE X a ta):PE X (.UnaryOp .Not a pos) (UM ta):=by
 intro pins s σ H Q I h
 refine UnaryOp_ (thn (ha pins s σ H _ I h) fun v s1 ⟨x,H1,I1,r1,q1⟩=>?_)
 obtain ⟨c,rfl,q1⟩:=q1
 cases r1
 exact not_of (wpAny_truthy_bool ⟨.bl (!c),H1,I1,rfl,q1⟩)
end
end L2
namespace L2
open PySem PySem.Spec PyProof.Rows
def SqL (K:PySem.W.Frag) (H:Hp) (a:Addr) (xs:List V):Prop:=
 Rd H a (.lst xs)∨
  ∃ (o:Obj) (its:Array Value) (n:Nat),K.lookup a=some o∧o.cls=.type "list"∧o.dict=none∧o.data=.seq its n∧its.size≤sizeLine∧Vals xs its.toList
def SqT (K:PySem.W.Frag) (H:Hp) (a:Addr) (xs:List V):Prop:=
 Rd H a (.tup xs)∨
  ∃ (o:Obj) (its:Array Value) (n:Nat),K.lookup a=some o∧o.cls=.type "tuple"∧o.data=.seq its n∧its.size≤sizeLine∧Vals xs its.toList
def Qk:Value→Option V
 | .none=>some .non
 | .bool b=>some (.bl b)
 | .int i _=>some (.int i)
 | .str x _=>some (.str x)
 | .bytes b _=>some (.byt b)
 | .float b _=>some (.flt b)
 | .ref a=>some (.ref a)
 | .type n=>some (.ty n)
 | _=>none
theorem RelV.abs {x:V} {u:Value} (r:RelV x u):Qk u=some x:=by
 cases x with
 | non=>cases r; rfl
 | bl _=>cases r; rfl
 | int _=>obtain ⟨t,rfl⟩:=r; rfl
 | str _=>obtain ⟨t,rfl⟩:=r; rfl
 | byt _=>obtain ⟨t,rfl⟩:=r; rfl
 | flt _=>obtain ⟨t,rfl⟩:=r; rfl
 | ref _=>cases r; rfl
 | ty _=>cases r; rfl
theorem RelV.inj {x y:V} {u:Value} (r:RelV x u) (q:RelV y u):x=y:=Option.some.inj (r.abs.symm.trans q.abs)
theorem Vals.inj:∀ {xs ys:List V} {us:List Value},Vals xs us→Vals ys us→xs=ys
 | _,_,_,.nil,.nil=>rfl
 | _,_,_,.cons r t,.cons r' t'=>by rw [r.inj r',Vals.inj t t']
section
variable {X:Cx} {pins:List (Addr × Obj)} {σ:St} {H:Hp} {s:Shared} {a:Addr} {xs ys:List V}
theorem SqL.of {K:PySem.W.Frag} (h:H a=some (.lst xs)):SqL K H a xs:=.inl (.inl h)
theorem SqT.of {K:PySem.W.Frag} (h:H a=some (.tup xs)):SqT K H a xs:=.inl (.inl h)
theorem Inv.list (I:Inv X pins σ H s) (h:SqL X.K H a xs):∃ its:List Value,Vals xs its∧PlainL s.heap a its.toArray∧xs.length≤sizeLine:=by
 rcases h with h | ⟨o,its,n,hk,hc,hd,hs,hz,r⟩
 ·obtain ⟨z,its,n,r,e⟩:=h.ok I.hok
  exact ⟨its,r,⟨_,n,e,rfl,rfl,rfl⟩,z⟩
 ·refine ⟨its.toList,r,⟨o,n,I.kIn a o hk,hc,hd,by simpa using hs⟩,?_⟩
  have e:=r.length
  simp only [Array.length_toList] at e
  omega
theorem Inv.tuple (I:Inv X pins σ H s) (h:SqT X.K H a xs):∃ its:List Value,Vals xs its∧IsTup s.heap a its.toArray∧xs.length≤sizeLine:=by
 rcases h with h | ⟨o,its,n,hk,hc,hs,hz,r⟩
 ·obtain ⟨z,its,r,p⟩:=h.ok I.hok
  exact ⟨its,r,p,z⟩
 ·refine ⟨its.toList,r,⟨o,I.kIn a o hk,hc,n,by simpa using hs⟩,?_⟩
  have e:=r.length
  simp only [Array.length_toList] at e
  omega
theorem Inv.list_inj (I:Inv X pins σ H s) (h:SqL X.K H a xs) (h':SqL X.K H a ys):xs=ys:=by
 obtain ⟨its,r,⟨o,n,e,_,_,d⟩,_⟩:=I.list h
 obtain ⟨its',r',⟨o',n',e',_,_,d'⟩,_⟩:=I.list h'
 rw [e] at e'; cases e'
 rw [d] at d'
 injection d' with d1 _
 have:its=its':=by simpa using congrArg Array.toList d1
 subst this
 exact r.inj r'
end
abbrev Cx.wish (X:Cx) (E:Value→Shared→Prop):Cx:={ X with xe:=E }
abbrev Cx.nox (X:Cx):Cx:=X.wish fun _ _=>False
theorem Cx.Ok.wish {X:Cx} (ok:X.Ok) (E:Value→Shared→Prop):(X.wish E).Ok:=
 ⟨ok.mod,ok.kind,ok.glob,ok.blt,ok.above,ok.inj,ok.has,ok.cab,ok.hd,ok.frames,ok.stk,ok.exf,ok.bs,ok.bsz,ok.noex,ok.exfs,ok.funs,ok.frf⟩
theorem Cx.Ok.unwish {X:Cx} {E:Value→Shared→Prop} (ok:(X.wish E).Ok):X.Ok:=
 ⟨ok.mod,ok.kind,ok.glob,ok.blt,ok.above,ok.inj,ok.has,ok.cab,ok.hd,ok.frames,ok.stk,ok.exf,ok.bs,ok.bsz,ok.noex,ok.exfs,ok.funs,ok.frf⟩
section
variable {X:Cx} {pins:List (Addr × Obj)} {σ:St} {H:Hp} {s:Shared} {E:Value→Shared→Prop}
theorem Inv.wish (I:Inv X pins σ H s) (E:Value→Shared→Prop):Inv (X.wish E) pins σ H s:=⟨I.ok.wish E,I.os,I.bare,I.base,I.loc,I.cell,I.free,I.freeC,I.pin,I.hok,I.len⟩
theorem Inv.unwish (I:Inv (X.wish E) pins σ H s):Inv X pins σ H s:=⟨I.ok.unwish,I.os,I.bare,I.base,I.loc,I.cell,I.free,I.freeC,I.pin,I.hok,I.len⟩
theorem SP.unwish {D:Ends} {f:Flow} {s':Shared} (h:SP (X.wish E) pins D f s'):SP X pins D f s':=by
 cases f with
 | next=>obtain ⟨σ',H',I,q⟩:=h; exact ⟨σ',H',I.unwish,q⟩
 | brk=>obtain ⟨σ',H',I,q⟩:=h; exact ⟨σ',H',I.unwish,q⟩
 | cont=>obtain ⟨σ',H',I,q⟩:=h; exact ⟨σ',H',I.unwish,q⟩
 | ret u=>obtain ⟨v,σ',H',I,r,q⟩:=h; exact ⟨v,σ',H',I.unwish,r,q⟩
theorem PE.nox {e:Expr} {t:TE} (h:PE X.nox e t):PE X e t:=fun pins s σ H Q I hw=>
 wpAny_mono (h pins s σ H Q (I.wish _) hw) (fun _ _ ⟨v,H',I',r,q⟩=>⟨v,H',I'.unwish,r,q⟩) fun _ _ z=>False.elim z
theorem PT.nox {e:Expr} {t:TT} (h:PT X.nox e t):PT X e t:=fun pins s σ H Q I hw=>
 wpAny_mono (h pins s σ H Q (I.wish _) hw) (fun _ _ ⟨H',I',q⟩=>⟨H',I'.unwish,q⟩) fun _ _ z=>False.elim z
theorem PSs.nox {st:List Stmt} {t:TS} (h:PSs X.nox st t):PSs X st t:=fun pins s σ H D I hw=>
 wpAny_mono (h pins s σ H D (I.wish _) hw) (fun _ _ q=>q.unwish) fun _ _ z=>False.elim z
end
section
variable {X:Cx} {st:Stmt} {yB:List Stmt} {t u:TS} {e:Expr} {te:TE} {pos:Pos}
def UO:TS:=fun D σ H=>D.nx σ H
def Rp (t u:TS):TS:=fun D σ H=>t { D with nx:=u D } σ H
theorem d9:PSs X [] UO:=fun _ _ σ H _ I h=>wpAny_execs_nil ⟨σ,H,I,h⟩
theorem oB (h1:PS X st t) (h2:PSs X yB u):PSs X (st::yB) (Rp t u):=by
 intro pins s σ H D I h
 refine wpAny_execs_cons (thn (h1 pins s σ H { D with nx:=u D } I h) fun f s1 q=>?_)
 cases f with
 | next=>
  obtain ⟨σ',H',I',q⟩:=q
  exact h2 pins s1 σ' H' D I' q
 | ret v=>exact q
 | brk=>exact q
 | cont=>exact q
theorem xZ (h1:PS X st t):PSs X [st] t:=by
 intro pins s σ H D I h
 refine wpAny_execs_cons (thn (h1 pins s σ H D I h) fun f s1 q=>?_)
 cases f with
 | next=>exact wpAny_execs_nil q
 | ret v=>exact q
 | brk=>exact q
 | cont=>exact q
theorem Inv.quiet {pins:List (Addr × Obj)} {σ:St} {H:Hp} {s:Shared} (I:Inv X pins σ H s):interactive X.env=false:=by simp [interactive,I.ok.kind]
def US (te:TE):TS:=fun D σ H=>te σ H fun _ H1=>D.nx σ H1
theorem w9 (he:PE X e te) (hs:swapsWith e none pos.line X.env=pure false:=by rfl):PS X (.Expr e pos) (US te):=by
 intro pins s σ H D I h
 exact wpAny_Expr_any (thn (he pins s σ H _ I h) fun v s1 ⟨x,H1,I1,r1,q1⟩=>⟨σ,H1,I1,q1⟩) I.quiet hs
def Rq (te:TE):TS:=fun D σ H=>te σ H D.rt
theorem uF (he:PE X e te):PS X (.Return (some e) pos) (Rq te):=by
 intro pins s σ H D I h
 exact wpAny_Return_some (thn (he pins s σ H _ I h) fun v s1 ⟨x,H1,I1,r1,q1⟩=>⟨x,σ,H1,I1,r1,q1⟩)
def Ru (c:TT) (t u:TS):TS:=fun D σ H=>c σ H fun b H1=>if b=true then t D σ H1 else u D σ H1
theorem Td {c:Expr} {a b:List Stmt} {tc:TT} (hc:PT X c tc) (ha:PSs X a t) (hb:PSs X b u):PS X (.If c a b pos) (Ru tc t u):=by
 intro pins s σ H D I h
 refine wpAny_If (thn (hc pins s σ H _ I h) fun d s1 ⟨H1,I1,q1⟩=>?_)
 cases d with
 | true=>exact ha pins s1 σ H1 D I1 q1
 | false=>exact hb pins s1 σ H1 D I1 q1
def YG:TS:=fun _ _ _=>False
theorem jX:PS X st YG:=fun _ _ _ _ _ _ h=>h.elim
end
abbrev TG:=V→St→Hp→(St→Hp→Prop)→Prop
abbrev TGs:=List V→St→Hp→(St→Hp→Prop)→Prop
def PG (X:Cx) (target:Expr) (t:TG):Prop:=
 ∀ (pins:List (Addr × Obj)) (s:Shared) (σ:St) (H:Hp) (v:V) (u:Value) (Q:St→Hp→Prop),Inv X pins σ H s→RelV v u→t v σ H Q→
  wpAny (model X.prog X.w) X.A (assign target X.env u) (fun _ s'=>∃ σ' H',Inv X pins σ' H' s'∧Q σ' H') X.xe s
def PGs (X:Cx) (ts:List Expr) (t:TGs):Prop:=
 ∀ (pins:List (Addr × Obj)) (s:Shared) (σ:St) (H:Hp) (vs:List V) (us:List Value) (Q:St→Hp→Prop),Inv X pins σ H s→Vals vs us→t vs σ H Q→
  wpAny (model X.prog X.w) X.A (assignInOrder ((assignEach ts X.env).map (·.2)) us) (fun _ s'=>∃ σ' H',Inv X pins σ' H' s'∧Q σ' H') X.xe s
abbrev dk:=V→V→V→Hp→(Hp→Prop)→Prop
def UG (X:Cx) (t:dk):Prop:=
 ∀ (pins:List (Addr × Obj)) (s:Shared) (σ:St) (H:Hp) (o i v:V) (ov iv u:Value) (Q:Hp→Prop),Inv X pins σ H s→RelV o ov→RelV i iv→RelV v u→t o i v H Q→
  wpAny (model X.prog X.w) X.A (setItem ov iv u) (fun _ s'=>∃ H',Inv X pins σ H' s'∧Q H') X.xe s
abbrev TIp:=V→V→Hp→VK→Prop
def PIp (X:Cx) (op:Operator) (t:TIp):Prop:=
 ∀ (pins:List (Addr × Obj)) (s:Shared) (σ:St) (H:Hp) (x y:V) (v u:Value) (Q:VK),Inv X pins σ H s→RelV x v→RelV y u→t x y H Q→
  wpAny (model X.prog X.w) X.A (inplaceOp op v u) (EP X pins σ Q) X.xe s
section
variable {X:Cx} {pos:Pos}
def o0 (i:Nat):TG:=fun v σ H Q=>Q (σ.set i (some v)) H
theorem zR {i:Nat} {x:Str} (hN:X.N.Nodup) (hi:X.N[i]? = some x) (hx:Loc X.env.scope x) (hf:X.fn x=true∨X.env.scope.names.lookup x=some .local:=by first | exact .inl rfl | exact .inr rfl | assumption):PG X (.Name x pos) (o0 i):=by
 intro pins s σ H v u Q I r h
 exact wpAny_assign_Name (xI I hN hi hx r (fun s' I'=>⟨_,H,I',h⟩) hf)
def Su:TGs:=fun vs σ H Q=>vs=[]∧Q σ H
def fN (t:TG) (u:TGs):TGs:=fun vs σ H Q=>∃ v r,vs=v::r∧t v σ H fun σ' H'=>u r σ' H' Q
theorem vQ:PGs X [] Su:=by
 intro pins s σ H vs us Q I r h
 obtain ⟨e,h⟩:=h
 subst e
 cases r
 exact assignInOrder_nil ⟨σ,H,I,h⟩
theorem yl {e:Expr} {es:List Expr} {t:TG} {u:TGs} (h1:PG X e t) (h2:PGs X es u)
  (hs:(assignEach (e::es) X.env).map (·.2)=assign e X.env::(assignEach es X.env).map (·.2):=by rfl):PGs X (e::es) (fN t u):=by
 intro pins s σ H vs us Q I r h
 obtain ⟨v,vr,e1,h⟩:=h
 subst e1
 cases r with
 | cons r rr=>
  rw [hs]
  refine assignInOrder_cons (thn (h1 pins s σ H _ _ _ I r h) fun _ s1 ⟨σ1,H1,I1,q1⟩=>?_)
  exact h2 pins s1 σ1 H1 _ _ Q I1 rr q1
def Ss (K:PySem.W.Frag) (n:Nat) (t:TGs):TG:=fun v σ H Q=>∃ a xs,v=.ref a∧SqT K H a xs∧xs.length=n∧t xs σ H Q
theorem sI {es:List Expr} {k:Nat} {t:TGs} {n:Nat} (hc:X.calm=true) (h:PGs X es t)
  (hn:(assignEach es X.env).length=n:=by rfl) (hst:(assignEach es X.env).findIdx? (·.1)=none:=by rfl):PG X (.Tuple es k pos) (Ss X.K n t):=by
 intro pins s σ H v u Q I r hw
 obtain ⟨a,xs,e1,hq,hl,hw⟩:=hw
 subst e1
 cases r
 obtain ⟨its,rv,ht,hz⟩:=I.tuple hq
 refine assign_Tuple_tuple (I.ok.hd hc) ht (by simp [hn,← hl,rv.length]) hst fun h' hx=>?_
 have I1:Inv X pins σ H { s with heap:=h' }:=I.kept (t':=s.toks) fun b o e=>hx b o (Nat.ne_of_lt (Heap.lt_size e)) e
 exact h pins _ σ H xs _ Q I1 (by simpa using rv) hw
def RY (to ti:TE) (t:dk):TG:=fun v σ H Q=>to σ H fun o H1=>ti σ H1 fun i H2=>t o i v H2 fun H3=>Q σ H3
theorem YY {o i:Expr} {to ti:TE} {t:dk} (ho:PE X o to) (hi:PE X i ti) (hs:UG X t)
  (ha:∀ v,assign (.Subscript o i pos) X.env v=(do
   let ov ← holding [v] (eval o X.env)
   let iv ← holding [v,ov] (eval i X.env)
   standAt pos
   holding [v,ov,iv] (setItem ov iv v)
   release [v,ov,iv] []):=by intro _; rfl):PG X (.Subscript o i pos) (RY to ti t):=by
 intro pins s σ H v u Q I r h
 rw [ha]
 refine wpAny_bind (wpAny_holding (thn (ho pins s σ H _ I h) fun ov s1 ⟨x,H1,I1,r1,q1⟩=>?_))
 refine wpAny_bind (wpAny_holding (thn (hi pins s1 σ H1 _ I1 q1) fun iv s2 ⟨y,H2,I2,r2,q2⟩=>?_))
 refine wpAny_bind (wpAny_standAt (wpAny_bind (wpAny_holding (thn (hs pins s2 σ H2 x y v ov iv u _ I2 r1 r2 r q2) fun _ s3 ⟨H3,I3,q3⟩=>?_))))
 exact wpAny_release ⟨σ,H3,I3,q3⟩
def UW (te:TE) (g:TG):TS:=fun D σ H=>te σ H fun x H1=>g x σ H1 D.nx
theorem nY {tg e:Expr} {te:TE} {g:TG} (he:PE X e te) (hg:PG X tg g) (hs:swapsWithSole [tg] e pos.line X.env=pure false:=by rfl) (hw:swappedStores [tg] e X.env=pure none:=by rfl)
  (h1:(assignEach [tg] X.env).map (·.2)=[assign tg X.env]:=by rfl):PS X (.Assign [tg] e pos) (UW te g):=by
 intro pins s σ H D I h
 refine wpAny_Assign_stores (thn (he pins s σ H _ I h) fun v s1 ⟨x,H1,I1,r1,q1⟩=>?_) hs hw
 rw [h1]
 exact thn (hg pins s1 σ H1 x v _ I1 r1 q1) fun _ s2 q=>q
theorem jV {i:Nat} {x:Str} {e:Expr} {te:TE} {pos':Pos} (hN:X.N.Nodup) (hi:X.N[i]? = some x) (hx:Loc X.env.scope x) (he:PE X e te) (hs:swapsWith e (some (.Name x pos')) pos.line X.env=pure false:=by rfl) (hf:X.fn x=true∨X.env.scope.names.lookup x=some .local:=by first | exact .inl rfl | exact .inr rfl | assumption):
  PS X (.Assign [.Name x pos'] e pos) (UW te (o0 i)):=by
 intro pins s σ H D I h
 refine wpAny_Assign_Name (thn (he pins s σ H _ I h) fun v s1 ⟨y,H1,I1,r1,q1⟩=>?_) hs
 exact xI I1 hN hi hx r1 (fun s2 I2=>⟨_,H1,I2,q1⟩) hf
def Ry (i:Nat) (te:TE) (ti:TIp):TS:=fun D σ H=>∃ x,σ[i]? = some (some x)∧te σ H fun y H1=>ti x y H1 fun z H2=>D.nx (σ.set i (some z)) H2
theorem YU {i:Nat} {x:Str} {e:Expr} {te:TE} {op:Operator} {ti:TIp} {pos':Pos} (hN:X.N.Nodup) (hi:X.N[i]? = some x) (hx:Loc X.env.scope x) (he:PE X e te) (ho:PIp X op ti) (hf:X.fn x=true∨X.env.scope.names.lookup x=some .local:=by first | exact .inl rfl | exact .inr rfl | assumption):
  PS X (.AugAssign (.Name x pos') op e pos) (Ry i te ti):=by
 intro pins s σ H D I h
 obtain ⟨v,e1,h⟩:=h
 obtain ⟨m,hn,hl⟩:=I.loc
 have vis:Vis X.env.scope x:=by rcases hx with k | k; exact .inl k; exact .inr (.inl k)
 obtain ⟨u,r,l⟩:=hl i x v hi e1 vis
 refine wpAny_AugAssign_Name ?_
 have go:wpAny (model X.prog X.w) X.A (eval e X.env) (fun w s₂=>wpAny (model X.prog X.w) X.A (inplaceOp op u w) (fun r s₃=>wpAny (model X.prog X.w) X.A (storeName X.env x r) (fun _=>SP X pins D .next) X.xe s₃) X.xe s₂) X.xe s:=by
  refine thn (he pins s σ H _ I h) fun w s1 ⟨y,H1,I1,r1,q1⟩=>?_
  refine thn (ho pins s1 σ H1 v y u w _ I1 r r1 q1) fun z s2 ⟨zv,H2,I2,r2,q2⟩=>?_
  exact xI I2 hN hi hx r2 (fun s3 I3=>⟨_,H2,I3,q2⟩) hf
 rcases l with ⟨hk,hm⟩ | ⟨hk,c,hc,hcell⟩
 ·exact wpAny_loadName_local I.ok.kind hk hn hm go
 ·rcases hk with hk | hk
  ·exact wpAny_loadName_cell I.ok.kind hk hc hcell go
  ·rcases hx with k | k
   ·have:X.env.scope.names.lookup x=some .free:=hk
    rw [k] at this; cases this
   ·have:X.env.scope.names.lookup x=some .free:=hk
    rw [k] at this; cases this
def UV (to ti te:TE) (tget:V→V→Hp→VK→Prop) (tip:TIp) (tset:dk):TS:=fun D σ H=>to σ H fun o H1=>ti σ H1 fun i H2=>tget o i H2 fun x H3=>te σ H3 fun y H4=>tip x y H4 fun z H5=>tset o i z H5 fun H6=>D.nx σ H6
def Rm (X:Cx) (t:V→V→Hp→VK→Prop):Prop:=
 ∀ (pins:List (Addr × Obj)) (s:Shared) (σ:St) (H:Hp) (o i:V) (ov iv:Value) (Q:VK),Inv X pins σ H s→RelV o ov→RelV i iv→t o i H Q→
  wpAny (model X.prog X.w) X.A (getItem ov iv) (EP X pins σ Q) X.xe s
theorem cb {o i e:Expr} {to ti te:TE} {tget:V→V→Hp→VK→Prop} {tip:TIp} {tset:dk} {op:Operator} {tpos:Pos} (ho:PE X o to) (hi:PE X i ti) (hg:Rm X tget) (he:PE X e te) (hp:PIp X op tip) (hs:UG X tset)
  (ha:∀ ov iv new,augStore i ov iv new=(do holding [new,ov,iv] (setItem ov iv new); release [new,ov,iv] []; pure .next):=by intros; rfl):PS X (.AugAssign (.Subscript o i tpos) op e pos) (UV to ti te tget tip tset):=by
 intro pins s σ H D I h
 refine wpAny_AugAssign_SubscriptAny (thn (ho pins s σ H _ I h) fun ov s1 ⟨x1,H1,I1,r1,q1⟩=>?_) ha
 refine thn (hi pins s1 σ H1 _ I1 q1) fun iv s2 ⟨x2,H2,I2,r2,q2⟩=>?_
 refine thn (hg pins s2 σ H2 x1 x2 ov iv _ I2 r1 r2 q2) fun old s3 ⟨x3,H3,I3,r3,q3⟩=>?_
 refine thn (he pins s3 σ H3 _ I3 q3) fun v s4 ⟨x4,H4,I4,r4,q4⟩=>?_
 refine thn (hp pins s4 σ H4 x3 x4 old v _ I4 r3 r4 q4) fun new s5 ⟨x5,H5,I5,r5,q5⟩=>?_
 exact thn (hs pins s5 σ H5 x1 x2 x5 ov iv new _ I5 r1 r2 r5 q5) fun _ s6 ⟨H6,I6,q6⟩=>⟨σ,H6,I6,q6⟩
def ipI (f:Int→Int→Int):TIp:=fun x y H Q=>∃ i j,x=.int i∧y=.int j∧Q (.int (f i j)) H
theorem pC:PIp X .Add (ipI fun i j=>i+j):=by
 intro pins s σ H x y v u Q I r1 r2 h
 obtain ⟨i,j,e1,e2,q⟩:=h
 subst e1; subst e2
 obtain ⟨t,rfl⟩:=r1
 obtain ⟨t',rfl⟩:=r2
 exact iadd_int ⟨.int _,H,I.tok _,⟨_,rfl⟩,q⟩
theorem fH:PIp X .Sub (ipI fun i j=>i - j):=by
 intro pins s σ H x y v u Q I r1 r2 h
 obtain ⟨i,j,e1,e2,q⟩:=h
 subst e1; subst e2
 obtain ⟨t,rfl⟩:=r1
 obtain ⟨t',rfl⟩:=r2
 exact isub_int ⟨.int _,H,I.tok _,⟨_,rfl⟩,q⟩
end
section
variable {X:Cx} {pos:Pos}
def YF (c:TT) (tb:TS):TS:=fun D σ H=>∃ W:Nat→St→Hp→Prop,(∃ m,W m σ H)∧∀ m σ H,W m σ H→
 c σ H fun b H1=>if b=true then ∃ N:St→Hp→Prop,(∀ σ' H',N σ' H'→∃ m',m'<m∧W m' σ' H')∧tb { D with nx:=N,ct:=N,bk:=D.nx } σ H1 else D.nx σ H1
theorem jU {c:Expr} {body:List Stmt} {tc:TT} {tb:TS} (hp:PassesOwn (model X.prog X.w) X.A X.env X.xe) (hc:PT X c tc) (hb:PSs X body tb):PS X (.While c body [] pos) (YF tc tb):=by
 intro pins s σ H D I h
 obtain ⟨W,⟨m0,w0⟩,turn⟩:=h
 refine wpAny_While (codeAny_whileLoop (fun n s'=>∃ σ' H',Inv X pins σ' H' s'∧W n σ' H') ?_ m0 ⟨σ,H,I,w0⟩)
 rintro n s1 ⟨σ1,H1,I1,w1⟩
 refine wpAny_passesOwn hp (thn (hc pins s1 σ1 H1 _ I1 (turn n σ1 H1 w1)) fun b s2 ⟨H2,I2,q2⟩=>?_)
 cases b with
 | true=>
  obtain ⟨N,hN,q2⟩:=q2
  rw [if_pos rfl]
  refine wpAny_passesOwn hp (thn (hb pins s2 σ1 H2 _ I2 q2) fun f s3 q3=>?_)
  cases f with
  | next=>
   obtain ⟨σ3,H3,I3,n3⟩:=q3
   obtain ⟨m',hm,w3⟩:=hN σ3 H3 n3
   exact ⟨m',hm,σ3,H3,I3,w3⟩
  | cont=>
   obtain ⟨σ3,H3,I3,n3⟩:=q3
   obtain ⟨m',hm,w3⟩:=hN σ3 H3 n3
   exact ⟨m',hm,σ3,H3,I3,w3⟩
  | brk=>exact q3
  | ret v=>exact q3
 | false=>
  rw [if_neg Bool.false_ne_true]
  exact wpAny_execs_nil ⟨σ1,H2,I2,q2⟩
end
structure It where
 go:Nat→Hp→Prop
 yld:Nat→Hp→V→Hp→Prop
 stop:Nat→Hp→Prop
def vK (X:Cx) (pins:List (Addr × Obj)) (H:Hp) (b:Addr):Prop:=
 H b=none∧b≠X.env.locals∧b∉X.fs∧(b∈X.ex∨X.s₀.heap.objs.size≤b)∧(∀ x c,X.env.cells.lookup x=some c→c≠b)∧∀ p∈X.pn++pins,p.1≠b
theorem Inv.fpOk {X:Cx} {pins:List (Addr × Obj)} {σ:St} {H H':Hp} {s:Shared} {b:Addr} (I:Inv X pins σ H s) (hb:s.heap.objs.size≤b) (hn:H' b=none):vK X pins H' b:=by
 refine ⟨hn,Nat.ne_of_gt (Nat.lt_of_lt_of_le I.lt hb),I.nofs hb,.inr (Nat.le_trans I.sz hb),fun x c e z=>?_,fun p hp z=>?_⟩
 ·obtain ⟨v,q⟩:=I.cell x c e
  exact absurd (Nat.lt_of_lt_of_le q.lt (by rw [z]; exact hb)) (Nat.lt_irrefl _)
 ·exact absurd (Nat.lt_of_lt_of_le (Heap.lt_size (I.pin p hp).1) (by rw [z]; exact hb)) (Nat.lt_irrefl _)
structure nu (P:Program) (w:World) (K:PySem.W.Frag) (tg:Expr) (J:It) (fp:List Addr) (it:Addr) (tn:Nat→Heap→Prop):Prop where
 mem:it∈fp
 obj:∀ i h,tn i h→∀ b∈fp,∃ o,h.get? b=some o∧∀ v,o.data≠.cell v
 keep:∀ i h h',tn i h→(∀ b∈fp,∀ o,h.get? b=some o→h'.get? b=some o)→tn i h'
 item:∀ (X:Cx),X.prog=P→X.w=w→X.K=K→X.calm=true→∀ (i:Nat) (pins:List (Addr × Obj)) (s:Shared) (σ:St) (H:Hp) (E:Value→Shared→Prop),Inv X pins σ H s→(∀ b∈fp,vK X pins H b)→tn i s.heap→J.go i H→
  wpAny (model P w) X.A (pyNext (.ref it)) (fun r s1=>∃ u,r=some u∧
   wpAny (model P w) X.A (letOwnedTupleGo tg (.ref it) u) (fun _ s2=>∃ x H',Inv X pins σ H' s2∧RelV x u∧J.yld i H x H'∧tn (i+1) s2.heap∧∀ b∈fp,H' b=none) E s1) E s
 done:∀ (X:Cx),X.prog=P→X.w=w→X.K=K→X.calm=true→∀ (i:Nat) (pins:List (Addr × Obj)) (s:Shared) (σ:St) (H:Hp) (E:Value→Shared→Prop),Inv X pins σ H s→(∀ b∈fp,vK X pins H b)→tn i s.heap→J.stop i H→
  wpAny (model P w) X.A (pyNext (.ref it)) (fun r s1=>r=none∧Inv X pins σ H s1) E s
 self:∀ (A:Around) (i:Nat) (s:Shared) (Q:Value→Shared→Prop) (E:Value→Shared→Prop),tn i s.heap→Q (.ref it) s→wpAny (model P w) A (pyIter (.ref it)) Q E s
abbrev TI:=St→Hp→(It→Hp→Prop)→Prop
def PIE (X:Cx) (pins:List (Addr × Obj)) (σ:St) (tg:Expr) (R:It→Hp→Prop) (itv:Value) (s2:Shared):Prop:=
 ∃ (it:Addr) (fp:List Addr) (tn:Nat→Heap→Prop) (J:It) (H':Hp),itv=.ref it∧Inv X pins σ H' s2∧nu X.prog X.w X.K tg J fp it tn∧tn 0 s2.heap∧(∀ b∈fp,vK X pins H' b)∧R J H'
def PI (X:Cx) (tg iter:Expr) (wi:TI):Prop:=
 ∀ (pins:List (Addr × Obj)) (s:Shared) (σ:St) (H:Hp) (R:It→Hp→Prop),Inv X pins σ H s→wi σ H R→
  wpAny (model X.prog X.w) X.A (eval iter X.env) (fun v s1=>wpAny (model X.prog X.w) X.A (pyIter v) (PIE X pins σ tg R) X.xe s1) X.xe s
theorem lH {M:Model} {A:Around} {E:Value→Shared→Prop} {s:Shared} {tg:Expr} {it:Addr} {u:Value} {o:Obj} {n:String} {vs:Array Value} {Q:Unit→Shared→Prop} (ho:s.heap.get? it=some o) (hc:o.cls=.type n) (hd:o.data=.fields vs)
  (hn:["enumerate","zip","dict_itemiterator","dict_reverseitemiterator","odict_iterator","itertools.zip_longest","itertools.pairwise"].contains n=false) (hQ:Q () s):wpAny M A (letOwnedTupleGo tg (.ref it) u) Q E s:=by
 unfold letOwnedTupleGo
 cases tg <;> first
  | exact wpAny_pure hQ
  | (cases u <;> first
    | exact wpAny_pure hQ
    | (refine wpAny_bind (wpAny_load ho ?_)
       rw [hc,hd]
       show wpAny M A (if (["enumerate","zip","dict_itemiterator","dict_reverseitemiterator","odict_iterator","itertools.zip_longest","itertools.pairwise"].contains n && vs[0]? == some (rawInt _))=true then _ else _) Q E s
       rw [if_neg (by intro h; rw [hn,Bool.false_and] at h; cases h)]
       exact wpAny_pure hQ))
def Itl (K:PySem.W.Frag) (a:Addr):It:=
 ⟨fun i H=>∃ xs x,SqL K H a xs∧xs[i]? = some x,fun i H x H'=>H'=H∧∀ xs,SqL K H a xs→xs[i]? = some x,fun i H=>∃ xs,SqL K H a xs∧xs.length≤i⟩
def Itr (lo:Int) (n:Nat):It:=⟨fun i _=>i<n,fun i H x H'=>H'=H∧x=.int (lo+i),fun i _=>n≤i⟩
theorem ki {P:Program} {w:World} {K:PySem.W.Frag} {tg:Expr} (a it:Addr):nu P w K tg (Itl K a) [it] it (fun i h=>h.IsListIter it a i) where
 mem:=by simp
 obj:=fun i h st b hb=>by
  have e:b=it:=by simpa using hb
  subst e
  obtain ⟨o,e,c,d⟩:=st
  exact ⟨o,e,fun v z=>by rw [d] at z; cases z⟩
 keep:=fun i h h' st k=>st.at fun o e=>k it (by simp) o e
 item:=by
  intro X hP hw hK hc i pins s σ H E I hf st hg
  subst hP hw hK
  obtain ⟨xs,x,hq,hx⟩:=hg
  obtain ⟨its,rv,p,hz⟩:=I.list hq
  obtain ⟨u,hu,ru⟩:=rv.get hx
  obtain ⟨f0,f1,f2,f3,f4,f5⟩:=hf it (by simp)
  refine wpAny_pyNext_list_item st p.isList (x:=u) (by simpa using hu) fun h' st' sb=>?_
  have I1:Inv X pins σ H { s with heap:=h' }:=I.turned (t':=s.toks) (fun b o hb e=>(sb.2 b hb).trans e) f0 f1 f3 f4 f5
  obtain ⟨o,e,c,d⟩:=id st'
  exact ⟨u,rfl,lH (s:={ s with heap:=h' }) e c d (by decide) ⟨x,H,I1,ru,⟨rfl,fun ys hy=>by rw [I.list_inj hy hq]; exact hx⟩,st',fun b hb=>(hf b hb).1⟩⟩
 done:=by
  intro X hP hw hK hc i pins s σ H E I hf st hg
  subst hP hw hK
  obtain ⟨xs,hq,hx⟩:=hg
  obtain ⟨its,rv,p,hz⟩:=I.list hq
  obtain ⟨f0,f1,f2,f3,f4,f5⟩:=hf it (by simp)
  have hl:=rv.length
  exact wpAny_pyNext_list_end (I.ok.hd hc) st p.isList (by simp; omega) fun h' eb=>⟨rfl,I.turned (t':=s.toks) (fun b o hb e=>eb b o hb e) f0 f1 f3 f4 f5⟩
 self:=fun _ _ _ _ _ st h=>wpAny_pyIter_listiter st h
theorem nG {P:Program} {w:World} {K:PySem.W.Frag} {tg:Expr} (it:Addr) (lo:Int) (n:Nat):nu P w K tg (Itr lo n) [it] it (fun i h=>IsRangeIter h it (lo+(i:Nat)*1) ((n:Int) - (i:Nat)) 1) where
 mem:=by simp
 obj:=fun i h st b hb=>by
  have e:b=it:=by simpa using hb
  subst e
  exact ⟨_,st,fun v z=>by
   have z':Data.fields _=Data.cell v:=z
   cases z'⟩
 keep:=fun i h h' st k=>k it (by simp) _ st
 item:=by
  intro X hP hw hK hc i pins s σ H E I hf st hg
  subst hP hw hK
  obtain ⟨f0,f1,f2,f3,f4,f5⟩:=hf it (by simp)
  have W:=Walks.range (prog:=X.prog) (w:=X.w) (I.ok.hd hc) it lo 1 n
  refine W.item i s _ _ hg st fun v h' tk hv st' kk=>?_
  obtain ⟨t,rfl⟩:=hv
  have I1:Inv X pins σ H { s with heap:=h',toks:=tk }:=I.turned (fun b o hb e=>kk b o (by simpa using hb) e) f0 f1 f3 f4 f5
  refine ⟨_,rfl,lH (s:={ s with heap:=h',toks:=tk }) (n:="range_iterator") st' rfl rfl (by decide) ⟨.int (lo+i),H,I1,⟨t,?_⟩,⟨rfl,rfl⟩,st',fun b hb=>(hf b hb).1⟩⟩
  rw [Int.mul_one]
 done:=by
  intro X hP hw hK hc i pins s σ H E I hf st hg
  subst hP hw hK
  obtain ⟨f0,f1,f2,f3,f4,f5⟩:=hf it (by simp)
  exact wpAny_pyNext_range_end (I.ok.hd hc) st (by have:n≤i:=hg; omega) fun h' eb=>⟨rfl,I.turned (t':=s.toks) (fun b o hb e=>eb b o hb e) f0 f1 f3 f4 f5⟩
 self:=fun _ _ _ _ _ st h=>wpAny_pyIter_rangeiter st h
end L2
namespace L2
open PySem PySem.Spec PyProof.Rows
section
variable {X:Cx} {tg:Expr}
def Sn (K:PySem.W.Frag) (tl:TE):TI:=fun σ H R=>tl σ H fun x H1=>∃ a,x=.ref a∧(∃ xs,SqL K H1 a xs)∧R (Itl K a) H1
theorem qW {l:Expr} {tl:TE} (hl:PE X l tl):PI X tg l (Sn X.K tl):=by
 intro pins s σ H R I h
 refine thn (hl pins s σ H _ I h) fun v s1 ⟨x,H1,I1,r1,q1⟩=>?_
 obtain ⟨a,e,⟨xs,hq⟩,q⟩:=q1
 subst e
 cases r1
 obtain ⟨its,rv,p,hz⟩:=I1.list hq
 refine wpAny_pyIter_list p.isList ?_
 refine ⟨s1.heap.objs.size,[s1.heap.objs.size],_,_,H1,rfl,I1.kept (t':=s1.toks) fun b o e=>Heap.get?_push_of_some _ e,ki a _,⟨_,Heap.get?_push_size _ rfl,rfl,rfl⟩,fun b hb=>?_,q⟩
 have e:b=s1.heap.objs.size:=by simpa using hb
 subst e
 exact I1.fpOk (Nat.le_refl _) (I1.hok.fresh (Nat.le_refl _))
theorem oz {pins:List (Addr × Obj)} {σ:St} {H:Hp} {s:Shared} {R:It→Hp→Prop} {E:Value→Shared→Prop} {lo hi:Int} {t u v:Tok} {tk:Nat} (I:Inv X pins σ H s) (h1:-(2 ^ 62)≤lo) (h2:lo<2 ^ 62) (h3:-(2 ^ 62)≤hi) (h4:hi<2 ^ 62)
  (q:R (Itr lo (hi - lo).toNat) H):wpAny (model X.prog X.w) X.A (pyIter (.ref s.heap.objs.size)) (PIE X pins σ tg R) E { s with heap:=s.heap.push { cls:=.type "range",data:=.fields #[.int lo t,.int hi u,.int 1 v] },toks:=tk }:=by
 refine wpAny_pyIter_range (IsRange.new ..) (small_one h1 h2 h3 h4) ?_
 have I1:Inv X pins σ H { s with heap:=s.heap.push { cls:=.type "range",data:=.fields #[.int lo t,.int hi u,.int 1 v] },toks:=tk }:=I.kept fun b o e=>Heap.get?_push_of_some _ e
 refine ⟨(s.heap.push { cls:=.type "range",data:=.fields #[.int lo t,.int hi u,.int 1 v] }).objs.size,[(s.heap.push { cls:=.type "range",data:=.fields #[.int lo t,.int hi u,.int 1 v] }).objs.size],_,_,H,rfl,
  I1.kept (t':=tk) fun b o e=>Heap.get?_push_of_some _ e,nG _ lo (hi - lo).toNat,?_,fun b hb=>?_,q⟩
 ·have e1:lo+((0:Nat):Int)*1=lo:=by simp
  have e2:(((hi - lo).toNat:Nat):Int) - ((0:Nat):Int)=Builtin.Range.rangeSize lo hi 1:=by rw [rangeSize_one]; split <;> omega
  show IsRangeIter _ _ (lo+((0:Nat):Int)*1) ((((hi - lo).toNat:Nat):Int) - ((0:Nat):Int)) 1
  rw [e1,e2]
  exact Heap.get?_push_size _ rfl
 ·have e:b=(s.heap.push { cls:=.type "range",data:=.fields #[.int lo t,.int hi u,.int 1 v] }).objs.size:=by simpa using hb
  subst e
  exact I1.fpOk (Nat.le_refl _) (I1.hok.fresh (Nat.le_refl _))
def Sm (ta:TA):TI:=fun σ H R=>ta σ H fun vs H1=>∃ j:Int,vs=[.int j]∧-(2 ^ 62)≤j∧j<2 ^ 62∧R (Itr 0 j.toNat) H1
def Sk (ta:TA):TI:=fun σ H R=>ta σ H fun vs H1=>∃ i j:Int,vs=[.int i,.int j]∧(-(2 ^ 62)≤i∧i<2 ^ 62∧-(2 ^ 62)≤j∧j<2 ^ 62)∧R (Itr i (j - i).toNat) H1
theorem qh {a:Expr} {ta:TA} {p pos:Pos} (hg:Gl X "range") (hm:X.mg "range"=none) (ha:PA X [a] ta) (hs:starEach [a] X.env=[(false,eval a X.env)]:=by rfl):PI X tg (.Call (.Name "range" p) [a] [] pos) (Sm ta):=by
 intro pins s σ H R I h
 refine Call_ (xG I hg hm boot_range (PyProof.Rows.callWith_type1 (thn (ha pos pins s σ H _ I h) fun us s1 ⟨vs,H1,I1,r1,q1⟩=>?_) hs rfl))
 obtain ⟨j,e,q1,q2,q⟩:=q1
 subst e
 cases r1 with
 | cons r rr=>
  cases rr
  obtain ⟨t,rfl⟩:=r
  exact call_range_1 (oz I1 (by omega) (by omega) q1 q2 (by simpa using q))
theorem kC {a b:Expr} {ta:TA} {p pos:Pos} (hg:Gl X "range") (hm:X.mg "range"=none) (ha:PA X [a,b] ta) (hs:starEach [a,b] X.env=[(false,eval a X.env),(false,eval b X.env)]:=by rfl) (hs2:starEach [b] X.env=[(false,eval b X.env)]:=by rfl):
  PI X tg (.Call (.Name "range" p) [a,b] [] pos) (Sk ta):=by
 intro pins s σ H R I h
 refine Call_ (xG I hg hm boot_range (PyProof.Rows.callWith_type1 (thn (ha pos pins s σ H _ I h) fun us s1 ⟨vs,H1,I1,r1,q1⟩=>?_) (by rw [hs,hs2]) (by rw [hs2]; rfl)))
 obtain ⟨i,j,e,⟨q1,q2,q3,q4⟩,q⟩:=q1
 subst e
 cases r1 with
 | cons r rr=>
  cases rr with
  | cons r' rr=>
   cases rr
   obtain ⟨t,rfl⟩:=r
   obtain ⟨t',rfl⟩:=r'
   exact call_range_2 (oz I1 q1 q2 q3 q4 q)
def Rv (wi:TI) (g:TG) (tb:TS):TS:=fun D σ H=>wi σ H fun J H1=>∃ W:Nat→Nat→St→Hp→Prop,(∃ m,W 0 m σ H1)∧∀ i m σ H,W i m σ H→
 (J.stop i H∧D.nx σ H)∨(J.go i H∧∃ N:St→Hp→Prop,(∀ σ' H',N σ' H'→∃ m',m'<m∧W (i+1) m' σ' H')∧∀ x H',J.yld i H x H'→g x σ H' fun σ2 H2=>tb { D with nx:=N,ct:=N,bk:=D.nx } σ2 H2)
def xF (fp:List Addr) (h:Heap):List (Addr × Obj):=fp.filterMap fun b=>(h.get? b).map fun o=>(b,o)
theorem vA {fp:List Addr} {h:Heap} {b:Addr} {o:Obj} (hb:b∈fp) (e:h.get? b=some o):(b,o)∈xF fp h:=List.mem_filterMap.mpr ⟨b,hb,by rw [e]; rfl⟩
theorem kH {fp:List Addr} {h:Heap} {p:Addr × Obj} (hp:p∈xF fp h):p.1∈fp∧h.get? p.1=some p.2:=by
 obtain ⟨b,hb,e⟩:=List.mem_filterMap.mp hp
 cases q:h.get? b with
 | none=>rw [q] at e; cases e
 | some o=>
  rw [q] at e
  have e':(b,o)=p:=Option.some.inj e
  subst e'
  exact ⟨hb,q⟩
theorem Inv.pinned {pins:List (Addr × Obj)} {σ:St} {H:Hp} {s:Shared} {fp:List Addr} (I:Inv X pins σ H s) (hf:∀ b∈fp,vK X pins H b) (ho:∀ b∈fp,∃ o,s.heap.get? b=some o∧∀ v,o.data≠.cell v):Inv X (pins++xF fp s.heap) σ H s:=
 I.pins_of fun p hp=>(List.mem_append.mp hp).elim (fun z=>I.pin p (List.mem_append_right _ z)) fun z=>by
  obtain ⟨hb,e⟩:=kH z
  obtain ⟨f0,f1,f2,_⟩:=hf p.1 hb
  obtain ⟨o,e',d⟩:=ho p.1 hb
  rw [e] at e'; cases e'
  exact ⟨e,f0,f1,f2,d⟩
theorem Inv.unpinned {pins pl:List (Addr × Obj)} {σ:St} {H:Hp} {s:Shared} (I:Inv X (pins++pl) σ H s):Inv X pins σ H s:=I.pins_of fun p hp=>I.pin p (List.mem_append_right _ (List.mem_append_left _ hp))
theorem uG {iter:Expr} {body:List Stmt} {wi:TI} {g:TG} {tb:TS} {pos:Pos} (hp:PassesOwn (model X.prog X.w) X.A X.env X.xe) (hc:X.calm=true) (hi:PI X tg iter wi) (hg:PG X tg g) (hb:PSs X body tb)
  (hs:∀ x,foldedSetIterable iter X.env x=pure x:=by intro _; rfl):PS X (.For tg iter body [] pos) (Rv wi g tb):=by
 intro pins s σ H D I h
 refine wpAny_For (thn (hi pins s σ H _ I h) fun v s1 h1=>thn h1 fun itv s2 h2=>?_) hs
 obtain ⟨it,fp,tn,J,H2,e,I2,T,st2,f2,W,⟨m0,w0⟩,turn⟩:=h2
 subst e
 have stat:∀ {H':Hp},(∀ b∈fp,H' b=none)→∀ b∈fp,vK X pins H' b:=fun hn b hb=>⟨hn b hb,(f2 b hb).2⟩
 refine codeAny_forLoop_any (fun n s'=>∃ i σ' H',Inv X pins σ' H' s'∧tn i s'.heap∧(∀ b∈fp,H' b=none)∧W i n σ' H') ?_ m0 ⟨0,σ,H2,I2,st2,fun b hb=>(f2 b hb).1,w0⟩
 rintro n s3 ⟨i,σ3,H3,I3,st3,fr3,w3⟩
 rcases turn i n σ3 H3 w3 with ⟨stop,qn⟩ | ⟨go,N,hN,step⟩
 ·refine wpAny_passesOwn hp (thn (T.done X rfl rfl rfl hc i pins s3 σ3 H3 X.xe I3 (stat fr3) st3 stop) fun r s4 ⟨hr,I4⟩=>?_)
  subst hr
  exact wpAny_execs_nil ⟨σ3,H3,I4,qn⟩
 ·refine wpAny_passesOwn hp (thn (T.item X rfl rfl rfl hc i pins s3 σ3 H3 X.xe I3 (stat fr3) st3 go) fun r s4 ⟨u,hr,h4⟩=>?_)
  subst hr
  refine wpAny_passesOwn hp (thn h4 fun _ s5 ⟨x,H5,I5,r5,y5,st5,fr5⟩=>?_)
  have I5':=I5.pinned (stat fr5) (T.obj _ _ st5)
  refine wpAny_passesOwn hp (thn (hg _ s5 σ3 H5 x u _ I5' r5 (step x H5 y5)) fun _ s6 ⟨σ6,H6,I6,q6⟩=>?_)
  refine wpAny_passesOwn hp (thn (hb _ s6 σ6 H6 _ I6 q6) fun f s7 q7=>?_)
  have again:∀ {σ7:St} {H7:Hp},Inv X (pins++xF fp s5.heap) σ7 H7 s7→N σ7 H7→∃ m,m<n∧∃ i σ' H',Inv X pins σ' H' s7∧tn i s7.heap∧(∀ b∈fp,H' b=none)∧W i m σ' H':=fun {σ7 H7} I7 n7=>by
   obtain ⟨m',hm,w7⟩:=hN σ7 H7 n7
   refine ⟨m',hm,i+1,σ7,H7,I7.unpinned,T.keep _ _ _ st5 fun b hb o e=>(I7.pin (b,o) (List.mem_append_right _ (List.mem_append_right _ (vA hb e)))).1,fun b hb=>?_,w7⟩
   obtain ⟨o,e,d⟩:=T.obj _ _ st5 b hb
   exact (I7.pin (b,o) (List.mem_append_right _ (List.mem_append_right _ (vA hb e)))).2.1
  cases f with
  | next=>obtain ⟨σ7,H7,I7,n7⟩:=q7; exact again I7 n7
  | cont=>obtain ⟨σ7,H7,I7,n7⟩:=q7; exact again I7 n7
  | brk=>obtain ⟨σ7,H7,I7,q7⟩:=q7; exact ⟨σ7,H7,I7.unpinned,q7⟩
  | ret v=>obtain ⟨x7,σ7,H7,I7,r7,q7⟩:=q7; exact ⟨x7,σ7,H7,I7.unpinned,r7,q7⟩
end
theorem o3 {K:PySem.W.Frag} {a:Addr} {xs:List V} {g:TG} {tb:TS} {D:Ends} {σ:St} {H:Hp} (Pv:Nat→St→Hp→Prop) (h0:Pv 0 σ H) (hl:∀ i σ H,i≤xs.length→Pv i σ H→SqL K H a xs)
  (hs:∀ i x σ H,xs[i]? = some x→Pv i σ H→g x σ H fun σ2 H2=>tb { D with nx:=Pv (i+1),ct:=Pv (i+1),bk:=D.nx } σ2 H2) (hd:∀ σ H,Pv xs.length σ H→D.nx σ H):
  ∃ W:Nat→Nat→St→Hp→Prop,(∃ m,W 0 m σ H)∧∀ i m σ H,W i m σ H→
   ((Itl K a).stop i H∧D.nx σ H)∨((Itl K a).go i H∧∃ N:St→Hp→Prop,(∀ σ' H',N σ' H'→∃ m',m'<m∧W (i+1) m' σ' H')∧∀ x H',(Itl K a).yld i H x H'→g x σ H' fun σ2 H2=>tb { D with nx:=N,ct:=N,bk:=D.nx } σ2 H2):=by
 refine ⟨fun i m σ H=>m=xs.length - i∧i≤xs.length∧Pv i σ H,⟨xs.length,by simp,Nat.zero_le _,h0⟩,?_⟩
 rintro i m σ H ⟨rfl,hi,p⟩
 have q:=hl i σ H hi p
 by_cases hlt:i<xs.length
 ·refine .inr ⟨⟨xs,xs[i],q,by simp [hlt]⟩,Pv (i+1),fun σ' H' p'=>⟨xs.length - (i+1),by omega,rfl,hlt,p'⟩,fun x H' y=>?_⟩
  obtain ⟨e,y⟩:=y
  subst e
  exact hs i x σ _ (y xs q) p
 ·have e:i=xs.length:=by omega
  subst e
  exact .inl ⟨⟨xs,q,Nat.le_refl _⟩,hd σ H p⟩
theorem qo {lo:Int} {n:Nat} {g:TG} {tb:TS} {D:Ends} {σ:St} {H:Hp} (Pv:Nat→St→Hp→Prop) (h0:Pv 0 σ H)
  (hs:∀ i σ H,i<n→Pv i σ H→g (.int (lo+i)) σ H fun σ2 H2=>tb { D with nx:=Pv (i+1),ct:=Pv (i+1),bk:=D.nx } σ2 H2) (hd:∀ σ H,Pv n σ H→D.nx σ H):
  ∃ W:Nat→Nat→St→Hp→Prop,(∃ m,W 0 m σ H)∧∀ i m σ H,W i m σ H→
   ((Itr lo n).stop i H∧D.nx σ H)∨((Itr lo n).go i H∧∃ N:St→Hp→Prop,(∀ σ' H',N σ' H'→∃ m',m'<m∧W (i+1) m' σ' H')∧∀ x H',(Itr lo n).yld i H x H'→g x σ H' fun σ2 H2=>tb { D with nx:=N,ct:=N,bk:=D.nx } σ2 H2):=by
 refine ⟨fun i m σ H=>m=n - i∧i≤n∧Pv i σ H,⟨n,by simp,Nat.zero_le _,h0⟩,?_⟩
 rintro i m σ H ⟨rfl,hi,p⟩
 by_cases hlt:i<n
 ·refine .inr ⟨hlt,Pv (i+1),fun σ' H' p'=>⟨n - (i+1),by omega,rfl,hlt,p'⟩,fun x H' y=>?_⟩
  obtain ⟨e,y⟩:=y
  subst e y
  exact hs i σ _ hlt p
 ·have e:i=n:=by omega
  subst e
  exact .inl ⟨Nat.le_refl _,hd σ H p⟩
end L2
namespace L2
open PySem PySem.Spec PyProof.Rows
abbrev R2:=V→V→Hp→VK→Prop
def OpR (X:Cx) (f:Value→Value→Sem Value) (r:R2):Prop:=
 ∀ (pins:List (Addr × Obj)) (s:Shared) (σ:St) (H:Hp) (x y:V) (v u:Value) (Q:VK),Inv X pins σ H s→RelV x v→RelV y u→r x y H Q→
  wpAny (model X.prog X.w) X.A (f v u) (EP X pins σ Q) X.xe s
def UnR (X:Cx) (f:Value→Sem Value) (r:V→Hp→VK→Prop):Prop:=
 ∀ (pins:List (Addr × Obj)) (s:Shared) (σ:St) (H:Hp) (x:V) (v:Value) (Q:VK),Inv X pins σ H s→RelV x v→r x H Q→
  wpAny (model X.prog X.w) X.A (f v) (EP X pins σ Q) X.xe s
def CallR (X:Cx) (f:Value) (r:List V→Hp→VK→Prop):Prop:=
 ∀ (pins:List (Addr × Obj)) (s:Shared) (σ:St) (H:Hp) (xs:List V) (us:List Value) (Q:VK),Inv X pins σ H s→Vals xs us→r xs H Q→
  wpAny (model X.prog X.w) X.A (call f us) (EP X pins σ Q) X.xe s
def Ql (X:Cx) (r:V→Hp→(Bool→Hp→Prop)→Prop):Prop:=
 ∀ (pins:List (Addr × Obj)) (s:Shared) (σ:St) (H:Hp) (x:V) (v:Value) (Q:Bool→Hp→Prop),Inv X pins σ H s→RelV x v→r x H Q→
  wpAny (model X.prog X.w) X.A (truthy v) (TP X pins σ Q) X.xe s
def tOp (r:R2) (ta tb:TE):TE:=fun σ H Q=>ta σ H fun x H1=>tb σ H1 fun y H2=>r x y H2 Q
def tUn (r:V→Hp→VK→Prop) (ta:TE):TE:=fun σ H Q=>ta σ H fun x H1=>r x H1 Q
def rI (C:Int→Int→Prop) (g:Int→Int→V):R2:=fun x y H Q=>∃ i j,x=.int i∧y=.int j∧C i j∧Q (g i j) H
def rI0 (g:Int→Int→V):R2:=fun x y H Q=>∃ i j,x=.int i∧y=.int j∧Q (g i j) H
def rU (g:Int→V):V→Hp→VK→Prop:=fun x H Q=>∃ i,x=.int i∧Q (g i) H
section
variable {X:Cx} {a b c:Expr} {ta tb tc:TE} {pos:Pos}
theorem UD (ha:PE X a ta) (hb:PE X b tb) {pins:List (Addr × Obj)} {s:Shared} {σ:St} {H:Hp} {R:V→V→Hp→Prop} (I:Inv X pins σ H s)
  (h:ta σ H fun x H1=>tb σ H1 fun y H2=>R x y H2) {Q:Value→Shared→Prop} {f:Value→Value→Sem Value}
  (hf:∀ v u s2 x y H2,Inv X pins σ H2 s2→RelV x v→RelV y u→R x y H2→wpAny (model X.prog X.w) X.A (f v u) Q X.xe s2):
  wpAny (model X.prog X.w) X.A (eval a X.env) (fun v s₁=>wpAny (model X.prog X.w) X.A (eval b X.env) (fun u s₂=>wpAny (model X.prog X.w) X.A (f v u) Q X.xe s₂) X.xe s₁) X.xe s:=by
 refine thn (ha pins s σ H _ I h) fun v s1 ⟨x,H1,I1,r1,q1⟩=>?_
 refine thn (hb pins s1 σ H1 _ I1 q1) fun u s2 ⟨y,H2,I2,r2,q2⟩=>?_
 exact hf v u s2 x y H2 I2 r1 r2 q2
theorem Z7 {op:Operator} {r:R2} (ho:OpR X (binaryOp op) r) (ha:PE X a ta) (hb:PE X b tb):PE X (.BinOp a op b pos) (tOp r ta tb):=by
 intro pins s σ H Q I h
 exact wpAny_BinOp (UD ha hb I h fun v u s2 x y H2 I2 rx ry q=>ho pins s2 σ H2 x y v u Q I2 rx ry q)
theorem Te {op:UnaryOp} {r:V→Hp→VK→Prop} (ho:UnR X (unaryOp op) r) (ha:PE X a ta):PE X (.UnaryOp op a pos) (tUn r ta):=by
 intro pins s σ H Q I h
 exact UnaryOp_ (thn (ha pins s σ H _ I h) fun v s1 ⟨x,H1,I1,r1,q1⟩=>ho pins s1 σ H1 x v Q I1 r1 q1)
theorem opI {f:Value→Value→Sem Value} {C:Int→Int→Prop} {g:Int→Int→Int}
  (rule:∀ (i j:Int) (t u:Tok) (s:Shared) (Q:Value→Shared→Prop) (E:Value→Shared→Prop),C i j→Q (.int (g i j) s.toks) { s with toks:=s.toks+1 }→wpAny (model X.prog X.w) X.A (f (.int i t) (.int j u)) Q E s):
  OpR X f (rI C fun i j=>.int (g i j)):=by
 intro pins s σ H x y v u Q I rx ry h
 obtain ⟨i,j,rfl,rfl,hc,q⟩:=h
 obtain ⟨t,rfl⟩:=rx
 obtain ⟨t',rfl⟩:=ry
 exact rule i j t t' s _ _ hc ⟨.int (g i j),H,I.tok _,⟨_,rfl⟩,q⟩
theorem Tn {f:Value→Value→Sem Value} {g:Int→Int→Int}
  (rule:∀ (i j:Int) (t u:Tok) (s:Shared) (Q:Value→Shared→Prop) (E:Value→Shared→Prop),Q (.int (g i j) s.toks) { s with toks:=s.toks+1 }→wpAny (model X.prog X.w) X.A (f (.int i t) (.int j u)) Q E s):
  OpR X f (rI0 fun i j=>.int (g i j)):=by
 intro pins s σ H x y v u Q I rx ry h
 obtain ⟨i,j,rfl,rfl,q⟩:=h
 obtain ⟨t,rfl⟩:=rx
 obtain ⟨t',rfl⟩:=ry
 exact rule i j t t' s _ _ ⟨.int (g i j),H,I.tok _,⟨_,rfl⟩,q⟩
theorem cu {f:Value→Value→Sem Value} {g:Int→Int→Bool}
  (rule:∀ (i j:Int) (t u:Tok) (s:Shared) (Q:Value→Shared→Prop) (E:Value→Shared→Prop),Q (.bool (g i j)) s→wpAny (model X.prog X.w) X.A (f (.int i t) (.int j u)) Q E s):
  OpR X f (rI0 fun i j=>.bl (g i j)):=by
 intro pins s σ H x y v u Q I rx ry h
 obtain ⟨i,j,rfl,rfl,q⟩:=h
 obtain ⟨t,rfl⟩:=rx
 obtain ⟨t',rfl⟩:=ry
 exact rule i j t t' s _ _ ⟨.bl (g i j),H,I,rfl,q⟩
def kh (i j:Int):Prop:=j≠0∧j.natAbs<1073741824
def Qo (i j:Int):Prop:=0≤j∧j≤1000000∧i.natAbs<2 ^ 64
def CMul (i j:Int):Prop:=(-(2 ^ 64)<i∧i<2 ^ 64)∨(-(2 ^ 64)<j∧j<2 ^ 64)
theorem CMul.ok {i j:Int} (h:CMul i j):IntMulOk i j:=by
 rcases h with ⟨h1,h2⟩ | ⟨h1,h2⟩
 ·exact .of_left (intBits_le_64 h1 h2)
 ·exact .of_right (intBits_le_64 h1 h2)
theorem Xi:OpR X (binaryOp .Add) (rI0 fun i j=>.int (i+j)):=Tn fun _ _ _ _ _ _ _ q=>add_int q
theorem Xf:OpR X (binaryOp .Sub) (rI0 fun i j=>.int (i - j)):=Tn fun _ _ _ _ _ _ _ q=>sub_int q
theorem ii:OpR X (binaryOp .FloorDiv) (rI kh fun i j=>.int (i.fdiv j)):=opI fun _ _ _ _ _ _ _ hc q=>floordiv_int hc.1 q (.inl (PyProof.noPylong_small hc.2))
theorem cr:OpR X (binaryOp .Mod) (rI (fun _ j=>j≠0) fun i j=>.int (i.fmod j)):=opI fun _ _ _ _ _ _ _ hc q=>mod_int' hc q
theorem unI {f:Value→Sem Value} {g:Int→Int}
  (rule:∀ (i:Int) (t:Tok) (s:Shared) (Q:Value→Shared→Prop) (E:Value→Shared→Prop),Q (.int (g i) s.toks) { s with toks:=s.toks+1 }→wpAny (model X.prog X.w) X.A (f (.int i t)) Q E s):
  UnR X f (rU fun i=>.int (g i)):=by
 intro pins s σ H x v Q I rx h
 obtain ⟨i,rfl,q⟩:=h
 obtain ⟨t,rfl⟩:=rx
 exact rule i t s _ _ ⟨.int (g i),H,I.tok _,⟨_,rfl⟩,q⟩
theorem YB:UnR X (unaryOp .USub) (rU fun i=>.int (-i)):=unI fun _ _ _ _ _ q=>neg_int q
end
def RB:V→V→Bool
 | .non,.non=>true | .non,.int _=>true | .int _,.non=>true | .non,.bl _=>true | .bl _,.non=>true | .non,.str _=>true | .str _,.non=>true
 | .int _,.int _=>true | .bl _,.bl _=>true | .str _,.str _=>true | .byt _,.byt _=>true
 | .int _,.str _=>true | .str _,.int _=>true | .bl _,.str _=>true | .str _,.bl _=>true
 | _,_=>false
def rEq:R2:=fun x y H Q=>RB x y=true∧Q (.bl (decide (x=y))) H
theorem ZN {i j:Int}:decide (V.int i=V.int j)=(i == j):=by
 rw [Bool.eq_iff_iff]
 simp
theorem Uk {i j:Bool}:decide (V.bl i=V.bl j)=(i == j):=by
 rw [Bool.eq_iff_iff]
 simp
theorem ZM {i j:Str}:decide (V.str i=V.str j)=(i == j):=by
 rw [Bool.eq_iff_iff]
 simp
theorem ZO {i j:Array UInt8}:decide (V.byt i=V.byt j)=(i.toList == j.toList):=by
 rw [Bool.eq_iff_iff]
 cases i
 cases j
 simp
section
variable {X:Cx} {a b c:Expr} {ta tb tc:TE} {pos:Pos}
theorem yt {pins:List (Addr × Obj)} {σ:St} {H:Hp} {s:Shared} {Q:VK} {k k':Bool} (I:Inv X pins σ H s) (q:Q (.bl k) H) (e:k=k'):EP X pins σ Q (.bool k') s:=by
 subst e
 exact ⟨.bl k,H,I,rfl,q⟩
theorem Tm:OpR X (compareOp .Eq) rEq:=by
 intro pins s σ H x y v u Q I rx ry h
 obtain ⟨hs,q⟩:=h
 cases x with
 | non=>
  cases rx
  cases y with
  | non=>cases ry; exact PySem.EqNone.eq_none_none (yt I q (by simp))
  | bl j=>cases ry; exact PySem.EqNone.eq_none_bool (yt I q (by simp))
  | int j=>obtain ⟨t',rfl⟩:=ry; exact PySem.EqNone.eq_none_int (yt I q (by simp))
  | str j=>obtain ⟨t',rfl⟩:=ry; exact PySem.EqNone.eq_none_str (yt I q (by simp))
  | _=>exact absurd (show false=true from hs) Bool.false_ne_true
 | bl i=>
  cases rx
  cases y with
  | non=>cases ry; exact PySem.EqNone.eq_bool_none (yt I q (by simp))
  | bl j=>cases ry; exact eq_bool (yt I q Uk)
  | str j=>obtain ⟨t',rfl⟩:=ry; exact PySem.EqMixed.eq_bool_str (yt I q (by simp))
  | _=>exact absurd (show false=true from hs) Bool.false_ne_true
 | int i=>
  obtain ⟨t,rfl⟩:=rx
  cases y with
  | non=>cases ry; exact PySem.EqNone.eq_int_none (yt I q (by simp))
  | int j=>obtain ⟨t',rfl⟩:=ry; exact eq_int (yt I q ZN)
  | str j=>obtain ⟨t',rfl⟩:=ry; exact PySem.EqMixed.eq_int_str (yt I q (by simp))
  | _=>exact absurd (show false=true from hs) Bool.false_ne_true
 | str i=>
  obtain ⟨t,rfl⟩:=rx
  cases y with
  | non=>cases ry; exact PySem.EqNone.eq_str_none (yt I q (by simp))
  | bl j=>cases ry; exact PySem.EqMixed.eq_str_bool (yt I q (by simp))
  | int j=>obtain ⟨t',rfl⟩:=ry; exact PySem.EqMixed.eq_str_int (yt I q (by simp))
  | str j=>obtain ⟨t',rfl⟩:=ry; exact eq_str (yt I q ZM)
  | _=>exact absurd (show false=true from hs) Bool.false_ne_true
 | byt i=>
  obtain ⟨t,rfl⟩:=rx
  cases y with
  | byt j=>obtain ⟨t',rfl⟩:=ry; exact PySem.W.eq_bytes (yt I q ZO)
  | _=>exact absurd (show false=true from hs) Bool.false_ne_true
 | _=>cases y <;> exact absurd (show false=true from hs) Bool.false_ne_true
theorem Ti:OpR X (compareOp .Lt) (rI0 fun i j=>.bl (decide (i<j))):=cu fun _ _ _ _ _ _ _ q=>lt_int q
theorem Tj:OpR X (compareOp .LtE) (rI0 fun i j=>.bl (decide (i≤j))):=cu fun _ _ _ _ _ _ _ q=>le_int q
theorem Tk:OpR X (compareOp .Gt) (rI0 fun i j=>.bl (decide (j<i))):=cu fun _ _ _ _ _ _ _ q=>gt_int q
theorem Tl:OpR X (compareOp .GtE) (rI0 fun i j=>.bl (decide (j≤i))):=cu fun _ _ _ _ _ _ _ q=>ge_int q
theorem OpR.or {f:Value→Value→Sem Value} {r r':R2} (h:OpR X f r) (h':OpR X f r'):OpR X f (fun x y H Q=>r x y H Q∨r' x y H Q):=by
 intro pins s σ H x y v u Q I rx ry q
 rcases q with q | q
 ·exact h pins s σ H x y v u Q I rx ry q
 ·exact h' pins s σ H x y v u Q I rx ry q
theorem zm (b:Expr) {op:CmpOp} (h:op≠.In:=by decide) (h2:op≠.NotIn:=by decide):behindInMarks op b=false:=by
 have e1:(op == CmpOp.In)=false:=by cases op <;> first | rfl | exact absurd rfl h
 have e2:(op == CmpOp.NotIn)=false:=by cases op <;> first | rfl | exact absurd rfl h2
 cases b <;> simp [behindInMarks,e1,e2]
theorem cm {op:CmpOp} {r:R2} (ho:OpR X (compareOp op) r) (ha:PE X a ta) (hb:PE X b tb) (hm:behindInMarks op b=false):PE X (.Compare a [op] [b] pos) (tOp r ta tb):=by
 intro pins s σ H Q I h
 exact wpAny_Compare1 (UD ha hb I h fun v u s2 x y H2 I2 rx ry q=>ho pins s2 σ H2 x y v u Q I2 rx ry q) hm
def jA (t:TE):TT:=fun σ H Q=>t σ H fun x H'=>∃ k,x=.bl k∧Q k H'
theorem d8 {op:CmpOp} {r:R2} (ho:OpR X (compareOp op) r) (ha:PE X a ta) (hb:PE X b tb) (hm:behindInMarks op b=false):PT X (.Compare a [op] [b] pos) (jA (tOp r ta tb)):=by
 intro pins s σ H Q I h
 refine wpAny_isTrue_Compare1 (thn (ha pins s σ H _ I h) fun v s1 ⟨x,H1,I1,r1,q1⟩=>thn (hb pins s1 σ H1 _ I1 q1) fun u s2 ⟨y,H2,I2,r2,q2⟩=>
  thn (ho pins s2 σ H2 x y v u _ I2 r1 r2 q2) fun c s3 ⟨z,H3,I3,r3,k,e,q3⟩=>?_) hm
 subst e
 cases r3
 exact wpAny_truthy_bool ⟨H3,I3,q3⟩
def jD (r r':R2) (ta tb tc:TE):TE:=fun σ H Q=>ta σ H fun x H1=>tb σ H1 fun y H2=>r x y H2 fun z H3=>∃ k,z=.bl k∧
 (if k=true then tc σ H3 fun w' H4=>r' y w' H4 Q else Q (.bl false) H3)
theorem jT {op op':CmpOp} {r r':R2} (ho:OpR X (compareOp op) r) (ho':OpR X (compareOp op') r') (ha:PE X a ta) (hb:PE X b tb) (hc:PE X c tc)
  (hm:lastMarks [op,op'] [b,c]=false:=by with_unfolding_all rfl):PT X (.Compare a [op,op'] [b,c] pos) (jA (jD r r' ta tb tc)):=by
 intro pins s σ H Q I h
 refine isTrue_chain (thn (ha pins s σ H _ I h) fun v s1 ⟨x,H1,I1,r1,q1⟩=>test_link (thn (hb pins s1 σ H1 _ I1 q1) fun u s2 ⟨y,H2,I2,r2,q2⟩=>
  thn (ho pins s2 σ H2 x y v u _ I2 r1 r2 q2) fun d s3 ⟨z,H3,I3,r3,k,e,q3⟩=>?_)) hm
 subst e
 cases r3
 refine wpAny_truthy_bool ?_
 cases k with
 | false=>
  obtain ⟨k',e',q'⟩:=q3
  cases e'
  exact ite_ff ⟨H3,I3,q'⟩
 | true=>
  refine ite_tt (test_last (thn (hc pins s3 σ H3 _ I3 q3) fun w' s4 ⟨z',H4,I4,r4,q4⟩=>thn (ho' pins s4 σ H4 y z' u w' _ I4 r2 r4 q4) fun d' s5 ⟨z2,H5,I5,r5,k2,e2,q5⟩=>?_))
  subst e2
  cases r5
  exact wpAny_truthy_bool ⟨H5,I5,q5⟩
def Rg (K:PySem.W.Frag) (x:V) (H:Hp) (k:Bool):Prop:=
 match x with
 | .non=>k=false
 | .bl b=>k=b
 | .int i=>k=(i != 0)
 | .str y=>y.length≤sizeLine∧k=((y.length:Int) != 0)
 | .byt y=>y.size≤sizeLine∧k=((y.size:Int) != 0)
 | .ref p=>(∃ xs,SqL K H p xs∧k=!xs.isEmpty)∨(∃ xs,SqT K H p xs∧k=!xs.isEmpty)∨∃ kvs,H p=some (.dK kvs)∧k=!kvs.isEmpty
 | _=>False
theorem mv {κ:Type} {kvs:List (κ × V)} {vs:List (κ × Value)} (r:KV kvs vs):(!vs.isEmpty)=!kvs.isEmpty:=by
 cases r <;> rfl
theorem s9 {xs:List V} {its:List Value} (r:Vals xs its):(!its.toArray.isEmpty)=!xs.isEmpty:=by
 cases r <;> simp
theorem vC:(sizeLine:Nat)<2 ^ 63:=by rw [sizeLine_eq]; decide
theorem YC:Ql X (fun x H Q=>∃ k,Rg X.K x H k∧Q k H):=by
 intro pins s σ H x v Q I rx h
 obtain ⟨k,e,q⟩:=h
 have hl:=vC
 have hs:sizeLine=16777216:=sizeLine_eq
 cases x with
 | non=>
  cases rx
  have e':k=false:=e
  subst e'
  exact truthy_none ⟨H,I,q⟩
 | bl b=>
  cases rx
  have e':k=b:=e
  subst e'
  exact wpAny_truthy_bool ⟨H,I,q⟩
 | int i=>
  obtain ⟨t,rfl⟩:=rx
  have e':k=(i != 0):=e
  subst e'
  exact PySem.P.truthy_int ⟨H,I,q⟩
 | str y=>
  obtain ⟨t,rfl⟩:=rx
  obtain ⟨hy,e'⟩:y.length≤sizeLine∧k=((y.length:Int) != 0):=e
  subst e'
  exact PySem.P.truthy_str (by omega) ⟨H,I.tok _,q⟩
 | byt y=>
  obtain ⟨t,rfl⟩:=rx
  obtain ⟨hy,e'⟩:y.size≤sizeLine∧k=((y.size:Int) != 0):=e
  subst e'
  exact PySem.W.truthy_bytes (by omega) ⟨H,I.tok _,q⟩
 | ref p=>
  cases rx
  have e':(∃ xs,SqL X.K H p xs∧k=!xs.isEmpty)∨(∃ xs,SqT X.K H p xs∧k=!xs.isEmpty)∨∃ kvs,H p=some (.dK kvs)∧k=!kvs.isEmpty:=e
  rcases e' with ⟨xs,hx,e'⟩ | ⟨xs,hx,e'⟩ | ⟨kvs,hx,e'⟩
  ·subst e'
   obtain ⟨its,r,pl,hz⟩:=I.list hx
   have hlen:=r.length
   exact wpAny_truthy_list pl.isList (by simp only [List.size_toArray]; omega) ⟨H,I.tok _,by rw [s9 r]; exact q⟩
  ·subst e'
   obtain ⟨its,r,pl,hz⟩:=I.tuple hx
   have hlen:=r.length
   exact truthy_tuple pl (by simp only [List.size_toArray]; omega) ⟨H,I.tok _,by rw [s9 r]; exact q⟩
  ·subst e'
   obtain ⟨hz,hS,vs,r,m⟩:kvs.length≤sizeLine∧(p == sysModules)=false∧∃ vs,KV kvs vs∧s.heap.DictOf (ph X.prog X.w) p vs:=I.hok p _ hx
   have hlen:kvs.length=vs.length:=Paired.length r
   exact wpAny_truthy_dict hS m (by omega) ⟨H,I.tok _,by rw [mv r]; exact q⟩
 | _=>exact (show False from e).elim
theorem oA (ha:PE X a ta) (he:∀ yK,isTrue a X.env yK=(do let v ← yK; standAt a.pos; holding [v] (truthy v))):
  PT X a (fun σ H Q=>ta σ H fun x H'=>∃ k,Rg X.K x H' k∧Q k H'):=by
 intro pins s σ H Q I h
 exact isTrue_plain (thn (ha pins s σ H _ I h) fun v s1 ⟨x,H1,I1,r1,q1⟩=>YC pins s1 σ H1 x v Q I1 r1 q1) (he _)
theorem Z1 {x:V} {us:List Value} (r:Vals [x] us):∃ u,us=[u]∧RelV x u:=by
 cases r with
 | cons r1 r2=>cases r2; exact ⟨_,rfl,r1⟩
theorem Z0 {x y:V} {us:List Value} (r:Vals [x,y] us):∃ u w',us=[u,w']∧RelV x u∧RelV y w':=by
 cases r with
 | cons r1 r2=>
  cases r2 with
  | cons r3 r4=>cases r4; exact ⟨_,_,rfl,r1,r3⟩
theorem jm (hc:X.calm=true):CallR X (.builtin "max") (fun xs H Q=>∃ i j,xs=[.int i,.int j]∧Q (.int (if j>i then j else i)) H):=by
 intro pins s σ H xs us Q I r h
 obtain ⟨i,j,rfl,q⟩:=h
 obtain ⟨u,w',rfl,⟨t,rfl⟩,⟨t',rfl⟩⟩:=Z0 r
 refine max_two_ints (I.ok.hd hc) fun h' tk k=>⟨_,H,I.kept k,?_,q⟩
 by_cases hj:j>i
 ·rw [if_pos hj,if_pos hj]; exact ⟨_,rfl⟩
 ·rw [if_neg hj,if_neg hj]; exact ⟨_,rfl⟩
theorem jl (hc:X.calm=true):CallR X (.builtin "min") (fun xs H Q=>∃ i j,xs=[.int i,.int j]∧Q (.int (if j<i then j else i)) H):=by
 intro pins s σ H xs us Q I r h
 obtain ⟨i,j,rfl,q⟩:=h
 obtain ⟨u,w',rfl,⟨t,rfl⟩,⟨t',rfl⟩⟩:=Z0 r
 refine min_two_ints (I.ok.hd hc) fun h' tk k=>⟨_,H,I.kept k,?_,q⟩
 by_cases hj:j<i
 ·rw [if_pos hj,if_pos hj]; exact ⟨_,rfl⟩
 ·rw [if_neg hj,if_neg hj]; exact ⟨_,rfl⟩
end
end L2
namespace L2
open PySem PySem.Spec PyProof.Rows
structure ObjM (h:Heap) (x dx C:Addr) (mA:Str→Option Value):Prop where
 obj:h.get? x=some (PySem.W.instObj C dx)
 ns:h.Ns1 dx mA
 ne:dx≠x
theorem kY {h:Heap} {dx:Addr} {mA:Str→Option Value} (n:h.Ns1 dx mA):∃ od,h.get? dx=some od∧∀ name,PySem.W.lookIn name od=some (mA name):=by
 obtain ⟨o,es,ep,ho,hd,hk,_,hm⟩:=n
 refine ⟨o,ho,fun name=>?_⟩
 have e:=hm name
 unfold nsFind findBy at e
 rw [← Array.find?_toList] at e
 unfold PySem.W.lookIn
 rw [hd]
 dsimp only
 split
 ·rename_i y q
  rw [q] at e
  exact congrArg some e
 ·rename_i q
  rw [q] at e
  have a:es.toList.any (·.refKey)=false:=by
   rw [List.any_eq_false]
   intro y hy
   obtain ⟨z,t,hkey⟩:=hk y (Array.mem_toList_iff.mp hy)
   simp [DictEntry.refKey,hkey]
  have a':¬ es.toList.any (·.refKey)=true:=by rw [a]; exact Bool.false_ne_true
  rw [if_neg a']
  exact congrArg some e
theorem ObjM.look {h:Heap} {x dx C:Addr} {mA:Str→Option Value} (I:ObjM h x dx C mA):∃ od,PySem.W.InstAt h x (PySem.W.instObj C dx) C (some od)∧∀ name,PySem.W.lookIn name od=some (mA name):=
 let ⟨od,ho,hl⟩:=kY I.ns
 ⟨od,⟨I.obj,rfl,rfl,ho⟩,hl⟩
section
variable {prog:Program} {w:World} {A:Around} {E:Value→Shared→Prop} {s:Shared} {K:PySem.W.Frag} {x dx C f:Addr} {mA:Str→Option Value} {name:Str} {v:Value}
theorem Zv {expr:Bool} {Q:Value→Shared→Prop} (X:K.In s.heap) (I:ObjM s.heap x dx C mA) (hg:PySem.W.plainGet K C name=true) (hh:PySem.W.hasDictIn K C=true)
  (ha:PySem.W.findIn K (.ref C) name=some none) (hv:mA name=some v) (hv':PySem.W.handedIn v=true) (h:Q v { s with toks:=s.toks+1 }):
  wpAny (model prog w) A (getAttr (.ref x) name expr) Q E s:=by
 obtain ⟨od,J,hl⟩:=I.look
 exact PySem.W.get_value X J (PySem.W.plainGet_of hg).1 (PySem.W.findObj_own hh ha rfl (by rw [hl,hv])) hv' h
theorem fK {pl:Sem Bool} {Q:Value × List Value→Shared→Prop} (X:K.In s.heap) (I:ObjM s.heap x dx C mA) (hg:PySem.W.plainGet K C name=true)
  (hf:PySem.W.findIn K (.ref C) name=some (some (.ref f))) (ht:PySem.W.isFn K (.ref f)=true) (hv:mA name=none) (h:Q (.ref f,[.ref x]) s):
  wpAny (model prog w) A (getMethod (.ref x) name pl) Q E s:=by
 obtain ⟨od,J,hl⟩:=I.look
 exact PySem.W.method_fn X J (PySem.W.plainGet_of hg).1 (PySem.W.plainGet_of hg).2 hf (beq_iff_eq.mp ht) (by show (PySem.W.lookIn name od).map (·.isSome)=some false; rw [hl,hv]; rfl) h
theorem dR {ns:List Str} {Q:Unit→Shared→Prop} (X:K.In s.heap) (I:ObjM s.heap x dx C mA)
  (hs:PySem.W.findIn K (.ref C) "__setattr__"=some (some (.builtin "object.__setattr__"))) (hp:PySem.W.plainOver K C=true) (ht:PySem.W.takerIn K C name=some none) (hh:PySem.W.hasDictIn K C=true)
  (hw:PySem.Within mA ns) (hsz:ns.length≤sizeLine)
  (h:∀ h',ObjM h' x dx C (fun y=>if y=name then some v else mA y)→Heap.SameBut dx s.heap h'→Q () { s with heap:=h',toks:=s.toks+2 }):
  wpAny (model prog w) A (setAttr (.ref x) name v) Q E s:=by
 obtain ⟨od,J,hl⟩:=I.look
 refine PySem.W.set_plain X J hs (PySem.W.osa_open (s:={ s with toks:=s.toks+1 }) (r:=none) X J hp ht fun b=>?_)
 obtain ⟨cd,hc,hd'⟩:=PySem.W.any_some hh
 have hx:s.heap.get? x=some ⟨.ref C,some dx,.plain,#[]⟩:=I.obj
 refine wpAny_bind (wpAny_pure (wpAny_bind (wpAny_bind (wpAny_loadPart hx (wpAny_bind (PySem.W.Looks.here (s:={ s with toks:=s.toks+1 }) (PySem.W.looks_clsIn X hc) ?_))))))
 rw [hd']
 refine wpAny_pure (a:=some dx) (wpAny_bind (wpAny_pure (wpAny_bind ?_)))
 refine wpAny_nsSet1 (s:={ s with toks:=s.toks+1 }) I.ns fun h' hn2 hs2=>?_
 obtain ⟨oD,esD,epD,hoD,hdD,hcD⟩:=hn2.count (PySem.Within.cons name v hw)
 refine wpAny_bind (wpAny_lookBehind hoD (by rw [hdD]; exact pastItsLine_dict (Nat.le_trans hcD (by rw [List.length_cons]; omega))) ?_)
 exact wpAny_pure (h _ ⟨(hs2.2 _ (Ne.symm I.ne)).trans I.obj,hn2,I.ne⟩ hs2)
theorem fw {R:Result→Shared→Prop} {vs:List Value} {kw:List (Str × Value)} (X:K.In s.heap) (hm:PySem.W.makesIn K C=true)
  (hi:PySem.W.findIn K (.ref C) "__init__"=some (some (.ref f))) (hf:PySem.W.typeIn K (.ref f)=some (.type "function"))
  (h:codeAny (model prog w) (A.under (.builtin "type.__call__" ⟨.ref C::vs,kw⟩)) (.call (.ref f) ⟨.ref (s.heap.objs.size+1)::vs,kw⟩) (PySem.W.InitBack (s.heap.objs.size+1) R)
   { s with heap:=(s.heap.push PySem.W.emptyDict).push (PySem.W.instObj C s.heap.objs.size) }):
  codeAny (model prog w) A (.call (.ref C) ⟨vs,kw⟩) R s:=by
 obtain ⟨hh,g,d,t,os⟩:=s
 exact PySem.W.make_core (PySem.W.makes_of X hm) (PySem.W.looks_findIn X hi) (fun self=>PySem.W.bind_fn X self hf) (.inl rfl) h
end
def vj (f:Str) (v:V):List (Str × V)→List (Str × V)
 | []=>[(f,v)]
 | (g,x)::r=>if g=f then (g,v)::r else (g,x)::vj f v r
theorem u9 (f g:Str) (v:V):∀ fs:List (Str × V),(vj f v fs).lookup g=if g=f then some v else fs.lookup g
 | []=>by
  show List.lookup g [(f,v)]=_
  by_cases h:g=f
  ·have hb:(g == f)=true:=beq_iff_eq.mpr h
   simp only [List.lookup,hb,if_pos h]
  ·have hb:(g == f)=false:=beq_eq_false_iff_ne.mpr h
   simp only [List.lookup,hb,if_neg h]
 | (k,x)::r=>by
  have ih:=u9 f g v r
  rw [show vj f v ((k,x)::r)=(if k=f then (k,v)::r else (k,x)::vj f v r) from rfl]
  by_cases hk:k=f
  ·rw [if_pos hk]
   by_cases h:g=k
   ·have hb:(g == k)=true:=beq_iff_eq.mpr h
    simp only [List.lookup,hb,if_pos (h.trans hk)]
   ·have hb:(g == k)=false:=beq_eq_false_iff_ne.mpr h
    simp only [List.lookup,hb,if_neg (fun e:g=f=>h (e.trans hk.symm))]
  ·rw [if_neg hk]
   by_cases h:g=k
   ·have hb:(g == k)=true:=beq_iff_eq.mpr h
    simp only [List.lookup,hb,if_neg (fun e:g=f=>hk (h.symm.trans e))]
   ·have hb:(g == k)=false:=beq_eq_false_iff_ne.mpr h
    simp only [List.lookup,hb]
    exact ih
theorem uP (f:Str) (v:V):∀ fs:List (Str × V),f∈(vj f v fs).map (·.1)∧∀ g,g∈fs.map (·.1)→g∈(vj f v fs).map (·.1)
 | []=>⟨by simp [vj],fun g h=>by simp at h⟩
 | (k,x)::r=>by
  obtain ⟨i1,i2⟩:=uP f v r
  rw [show vj f v ((k,x)::r)=(if k=f then (k,v)::r else (k,x)::vj f v r) from rfl]
  by_cases hk:k=f
  ·rw [if_pos hk]
   subst hk
   exact ⟨by simp,fun g h=>by simpa using h⟩
  ·rw [if_neg hk]
   refine ⟨?_,fun g h=>?_⟩
   ·rw [List.map_cons]
    exact List.mem_cons_of_mem _ i1
   ·rw [List.map_cons] at h ⊢
    rcases List.mem_cons.mp h with e | e
    ·exact List.mem_cons.mpr (.inl e)
    ·exact List.mem_cons_of_mem _ (i2 g e)
theorem u_ (f:Str) (v:V):∀ fs:List (Str × V),(vj f v fs).length≤fs.length+1
 | []=>by simp [vj]
 | (k,x)::r=>by
  have ih:=u_ f v r
  rw [show vj f v ((k,x)::r)=(if k=f then (k,v)::r else (k,x)::vj f v r) from rfl]
  by_cases hk:k=f
  ·rw [if_pos hk,List.length_cons,List.length_cons]; omega
  ·rw [if_neg hk,List.length_cons,List.length_cons]; omega
theorem RelO.some_of {v:V} {o:Option Value} (r:RelO (some v) o):∃ u,o=some u∧RelV v u:=by
 cases o with
 | none=>exact (show False from r).elim
 | some u=>exact ⟨u,rfl,r⟩
theorem RelO.none_of {o:Option Value} (r:RelO none o):o=none:=by
 cases o with
 | none=>rfl
 | some u=>exact (show False from r).elim
theorem jf {v:V} {u:Value} (r:RelV v u):PySem.W.handedIn u=true:=by
 cases v with
 | non=>cases (show u=Value.none from r); rfl
 | bl b=>cases (show u=Value.bool b from r); rfl
 | int i=>obtain ⟨t,e⟩:=(show ∃ t,u=Value.int i t from r); cases e; rfl
 | str x=>obtain ⟨t,e⟩:=(show ∃ t,u=Value.str x t from r); cases e; rfl
 | byt b=>obtain ⟨t,e⟩:=(show ∃ t,u=Value.bytes b t from r); cases e; rfl
 | flt b=>obtain ⟨t,e⟩:=(show ∃ t,u=Value.float b t from r); cases e; rfl
 | ref a=>cases (show u=Value.ref a from r); rfl
 | ty n=>cases (show u=Value.type n from r); rfl
section
variable {P:Program} {w:World} {H H':Hp} {h h':Heap} {a C dx:Addr} {fs fs':List (Str × V)}
theorem tX (hok:HOk P w H h) (e:H a=some (.ins C dx fs)):∃ mA,ObjM h a dx C mA∧(∀ f,RelO (fs.lookup f) (mA f))∧PySem.Within mA (fs.map (·.1))∧fs.length≤1000∧H dx=some (.own a):=by
 obtain ⟨d,z,ne,ob,mA,n,r,q⟩:=(show ObjOk P w H h a (.ins C dx fs) from hok a _ e)
 exact ⟨mA,⟨ob,n,ne⟩,r,q,z,d⟩
end
structure Cls (K:PySem.W.Frag) (C:Addr):Prop where
 pg:PySem.W.plainGet K C Str.empty=true
 hd:PySem.W.hasDictIn K C=true
 po:PySem.W.plainOver K C=true
 sa:PySem.W.findIn K (.ref C) "__setattr__"=some (some (.builtin "object.__setattr__"))
theorem Cls.get {K:PySem.W.Frag} {C:Addr} (c:Cls K C) (f:Str):PySem.W.plainGet K C f=true:=c.pg
def NoAttr (K:PySem.W.Frag) (C:Addr) (f:Str):Prop:=PySem.W.findIn K (.ref C) f=some none
theorem NoAttr.taker {K:PySem.W.Frag} {C:Addr} {f:Str} (n:NoAttr K C f):PySem.W.takerIn K C f=some none:=by
 unfold PySem.W.takerIn
 rw [show PySem.W.findIn K (.ref C) f=some none from n]
 rfl
structure ZX (K:PySem.W.Frag) (C:Addr) (m:Str) (f:Addr):Prop where
 at_:PySem.W.findIn K (.ref C) m=some (some (.ref f))
 fn:PySem.W.isFn K (.ref f)=true
 kp:PySem.W.keepIn K (.ref f)=true
section
variable {X:Cx} {pins:List (Addr × Obj)} {σ:St} {H:Hp} {s:Shared} {a C dx:Addr} {fs:List (Str × V)} {f:Str} {v:V} {A:Around} {E:Value→Shared→Prop}
theorem mD {b:Bool} {Q:Value→Shared→Prop} (I:Inv X pins σ H s) (e:H a=some (.ins C dx fs)) (c:Cls X.K C) (n:NoAttr X.K C f) (l:fs.lookup f=some v)
  (h:∀ u s',Inv X pins σ H s'→RelV v u→Q u s'):wpAny (model X.prog X.w) A (getAttr (.ref a) f b) Q E s:=by
 obtain ⟨mA,O,r,_,_,_⟩:=tX I.hok e
 obtain ⟨u,hu,ru⟩:=RelO.some_of (v:=v) (o:=mA f) (by rw [← l]; exact r f)
 exact Zv I.kIn O (c.get f) c.hd n hu (jf ru) (h u _ (I.tok _) ru)
theorem s_ {m:Str} {g:Addr} {pl:Sem Bool} {Q:Value × List Value→Shared→Prop} (I:Inv X pins σ H s) (e:H a=some (.ins C dx fs)) (c:Cls X.K C) (k:ZX X.K C m g) (l:fs.lookup m=none)
  (h:Q (.ref g,[.ref a]) s):wpAny (model X.prog X.w) A (getMethod (.ref a) m pl) Q E s:=by
 obtain ⟨mA,O,r,_,_,_⟩:=tX I.hok e
 have hn:mA m=none:=RelO.none_of (by rw [← l]; exact r m)
 exact fK I.kIn O (c.get m) k.at_ k.fn hn h
theorem nL {y:V} {u:Value} {Q:Unit→Shared→Prop} (I:Inv X pins σ H s) (e:H a=some (.ins C dx fs)) (c:Cls X.K C) (n:NoAttr X.K C f) (hl:fs.length<1000) (ry:RelV y u)
  (h:∀ s',Inv X pins σ (upd H a (.ins C dx (vj f y fs))) s'→Q () s'):wpAny (model X.prog X.w) A (setAttr (.ref a) f u) Q E s:=by
 obtain ⟨mA,O,r,wi,_,ho⟩:=tX I.hok e
 have hz:(fs.map (·.1)).length≤sizeLine:=by rw [List.length_map,sizeLine_eq]; omega
 refine dR I.kIn O c.sa c.po n.taker c.hd wi hz fun h' O' sb=>h _ ?_
 have hd:∃ o,h'.get? dx=some o:=let ⟨o,_,_,e',_⟩:=O'.ns; ⟨o,e'⟩
 refine I.write (x:=a) (e:=dx) (by rw [e]; exact True.intro) (.inr ho) (fun b q hb z=>(sb.2 b hb).trans z) hd ?_
 refine ⟨by rw [zw O.ne]; exact ho,?_,O.ne,O'.obj,_,O'.ns,fun g=>?_,fun g hg=>?_⟩
 ·have:=u_ f y fs; omega
 ·show RelO ((vj f y fs).lookup g) (if g=f then some u else mA g)
  rw [u9]
  by_cases q:g=f
  ·rw [if_pos q,if_pos q]; exact ry
  ·rw [if_neg q,if_neg q]; exact r g
 ·by_cases q:g=f
  ·rw [q]; exact (uP f y fs).1
  ·refine (uP f y fs).2 g (wi g fun z=>hg ?_)
   show (if g=f then some u else mA g)=none
   rw [if_neg q]; exact z
theorem Inv.made (I:Inv X pins σ H s):Inv X pins σ (upd (upd H s.heap.objs.size (.own (s.heap.objs.size+1))) (s.heap.objs.size+1) (.ins C s.heap.objs.size []))
  { s with heap:=(s.heap.push PySem.W.emptyDict).push (PySem.W.instObj C s.heap.objs.size) }:=by
 have e1:(s.heap.push PySem.W.emptyDict).get? s.heap.objs.size=some PySem.W.emptyDict:=Heap.get?_push_size s.heap rfl
 have e2:((s.heap.push PySem.W.emptyDict).push (PySem.W.instObj C s.heap.objs.size)).get? (s.heap.objs.size+1)=some (PySem.W.instObj C s.heap.objs.size):=by
  have:=Heap.get?_push_size (s.heap.push PySem.W.emptyDict) (o:=PySem.W.instObj C s.heap.objs.size) rfl
  rwa [Heap.size_push] at this
 have e3:(s.heap.push PySem.W.emptyDict).Ns s.heap.objs.size (fun _=>none):=⟨PySem.W.emptyDict,#[],_,e1,rfl,(fun e he=>absurd he (by simp)),fun _=>rfl⟩
 have I1:=I.laid (a:=s.heap.objs.size) (o:=.own (s.heap.objs.size+1)) (h':=s.heap.push PySem.W.emptyDict) (t':=s.toks) (fun b u q=>Heap.get?_push_of_some _ q) (Nat.le_refl _) ⟨_,e1⟩
 refine I1.laid (a:=s.heap.objs.size+1) (o:=.ins C s.heap.objs.size []) (t':=s.toks) (fun b u q=>Heap.get?_push_of_some _ q) (Nat.le_of_eq (Heap.size_push _ _)) ?_
 have ne:s.heap.objs.size≠s.heap.objs.size+1:=Nat.ne_of_lt (Nat.lt_succ_self _)
 refine ⟨by rw [zw ne,zt],Nat.zero_le _,ne,e2,fun _=>none,(Heap.Ns1.of_empty e3).at fun o q=>Heap.get?_push_of_some _ q,fun _=>True.intro,fun y hy=>absurd rfl hy⟩
theorem ZV {prog:Program} {w:World} {env:Env} {e:Expr} {f:Str} {pos:Pos} {s:Shared} {Q:Value→Shared→Prop} (hb:attributeBase e f env (eval e env)=eval e env)
  (h:wpAny (model prog w) A (eval e env) (fun o s₁=>wpAny (model prog w) A (getAttr o f true) Q E s₁) E s):wpAny (model prog w) A (eval (.Attribute e f pos) env) Q E s:=
 Attribute_any_ h (by rw [arm_eval_Attribute,hb])
end
def Rw (K:PySem.W.Frag) (ta:TE) (f:Str):TE:=fun σ H Q=>ta σ H fun x H1=>∃ a C dx fs v,x=.ref a∧H1 a=some (.ins C dx fs)∧Cls K C∧NoAttr K C f∧fs.lookup f=some v∧Q v H1
def UY (K:PySem.W.Frag) (ta tv:TE) (f:Str):TS:=fun D σ H=>tv σ H fun y H1=>ta σ H1 fun x H2=>∃ a C dx fs,x=.ref a∧H2 a=some (.ins C dx fs)∧Cls K C∧NoAttr K C f∧fs.length<1000∧
 D.nx σ (upd H2 a (.ins C dx (vj f y fs)))
section
variable {X:Cx} {o e value:Expr} {f:Str} {pos pos' tpos:Pos} {ta tv:TE}
theorem Y_ (he:PE X e ta) (hb:attributeBase e f X.env (eval e X.env)=eval e X.env):PE X (.Attribute e f pos) (Rw X.K ta f):=by
 intro pins s σ H Q I h
 refine ZV hb (thn (he pins s σ H _ I h) fun u s1 ⟨x,H1,I1,rx,a,C,dx,fs,v,ex,ea,c,n,l,q⟩=>?_)
 subst ex
 obtain rfl:u=Value.ref a:=rx
 exact mD I1 ea c n l fun u' s2 I2 ru=>⟨v,H1,I2,ru,q⟩
theorem uH (ha:PE X o ta) (hv:PE X value tv) (hs:swapsWith value (some (.Attribute o f pos')) pos.line X.env=pure false):PS X (.Assign [.Attribute o f pos'] value pos) (UY X.K ta tv f):=by
 intro pins s σ H D I h
 refine plainObj_wpAny_Assign_Attribute (thn (hv pins s σ H _ I h) fun u s1 ⟨y,H1,I1,ry,q⟩=>thn (ha pins s1 σ H1 _ I1 q) fun ov s2 ⟨x,H2,I2,rx,a,C,dx,fs,ex,ea,c,n,l,q2⟩=>?_) hs
 subst ex
 obtain rfl:ov=Value.ref a:=rx
 exact nL I2 ea c n l ry fun s3 I3=>⟨σ,_,I3,q2⟩
end
section
variable {X:Cx} {pins:List (Addr × Obj)} {σ:St} {H:Hp} {s:Shared} {A:Around} {E:Value→Shared→Prop} {Q:Value→Shared→Prop} {c:Value} {b:Bool}
inductive vH (K:PySem.W.Frag) (H:Hp):V→Value→Prop where
 | non:vH K H .non (.type "NoneType")
 | bl (x:Bool):vH K H (.bl x) (.type "bool")
 | int (i:Int):vH K H (.int i) (.type "int")
 | str (x:Str):vH K H (.str x) (.type "str")
 | flt (x:UInt64):vH K H (.flt x) (.type "float")
 | lst {a:Addr} {xs:List V} (e:H a=some (.lst xs)):vH K H (.ref a) (.type "list")
 | frz {a:Addr} {o:Obj} {xs:List V} (e:H a=some (.frz o (.lst xs))):vH K H (.ref a) (.type "list")
 | tup {a:Addr} {xs:List V} (e:H a=some (.tup xs)):vH K H (.ref a) (.type "tuple")
 | dK {a:Addr} {kvs:List (Key × V)} (e:H a=some (.dK kvs)):vH K H (.ref a) (.type "dict")
 | dT {a:Addr} {kvs:List (List Key × V)} (e:H a=some (.dT kvs)):vH K H (.ref a) (.type "dict")
 | ins {a C dx:Addr} {fs:List (Str × V)} (e:H a=some (.ins C dx fs)) (cl:Cls K C) (ha:PySem.W.findIn K (.ref C) "__class__"=some (some (.builtin "object.__class__")))
   (hn:PySem.W.specialIn K (.builtin "object.__class__") "__get__"=some (some (.builtin "getset_descriptor.__get__"))) (htk:PySem.W.takesIn K (.builtin "object.__class__")=some true)
   (hm:PySem.W.mroIn K C (.type "object")=some true):vH K H (.ref a) (.ref C)
theorem qm {x:V} {u t:Value} (I:Inv X pins σ H s) (rx:RelV x u) (ty:vH X.K H x t) (e:PySem.W.kitOne X.K t c=some b) (h:∀ tk,Q (.bool b) { s with toks:=tk }):
  wpAny (model X.prog X.w) A (call (.builtin "isinstance") [u,c]) Q E s:=by
 cases ty with
 | non=>cases (show u=Value.none from rx); exact PySem.W.kia_one PySem.W.kitx_none I.kIn True.intro e (fun z=>nomatch z) h
 | bl y=>cases (show u=Value.bool y from rx); exact PySem.W.kia_one PySem.W.kitx_bool I.kIn True.intro e (fun z=>nomatch z) h
 | int i=>obtain ⟨t,q⟩:=(show ∃ t,u=Value.int i t from rx); cases q; exact PySem.W.kia_one PySem.W.kitx_int I.kIn True.intro e (fun z=>nomatch z) h
 | str y=>obtain ⟨t,q⟩:=(show ∃ t,u=Value.str y t from rx); cases q; exact PySem.W.kia_one PySem.W.kitx_str I.kIn True.intro e (fun z=>nomatch z) h
 | flt y=>obtain ⟨t,q⟩:=(show ∃ t,u=Value.float y t from rx); cases q; exact PySem.W.kia_one PySem.W.kitx_float I.kIn True.intro e (fun z=>nomatch z) h
 | @lst a xs ea=>
  cases (show u=Value.ref a from rx)
  obtain ⟨_,_,n,_,h1⟩:=(show ObjOk X.prog X.w H s.heap a (.lst xs) from I.hok a _ ea)
  exact PySem.W.kia_one PySem.W.kitx_list I.kIn ⟨_,h1,rfl⟩ e (fun z=>nomatch z) h
 | @frz a ob xs ea=>
  cases (show u=Value.ref a from rx)
  obtain ⟨_,_,_,n,_,h1⟩:=(show ObjOk X.prog X.w H s.heap a (.frz ob (.lst xs)) from I.hok a _ ea)
  exact PySem.W.kia_one PySem.W.kitx_list I.kIn ⟨_,h1,rfl⟩ e (fun z=>nomatch z) h
 | @tup a xs ea=>
  cases (show u=Value.ref a from rx)
  obtain ⟨_,_,_,p⟩:=(show ObjOk X.prog X.w H s.heap a (.tup xs) from I.hok a _ ea)
  obtain ⟨o,h1,h2,_⟩:=p
  exact PySem.W.kia_one PySem.W.kitx_tuple I.kIn ⟨o,h1,h2⟩ e (fun z=>nomatch z) h
 | @dK a kvs ea=>
  cases (show u=Value.ref a from rx)
  obtain ⟨_,_,vs,_,p⟩:=(show ObjOk X.prog X.w H s.heap a (.dK kvs) from I.hok a _ ea)
  obtain ⟨o,es,ep,h1,h2,_⟩:=p
  exact PySem.W.kia_one PySem.W.kitx_dict I.kIn ⟨o,h1,h2.1⟩ e (fun z=>nomatch z) h
 | @dT a kvs ea=>
  cases (show u=Value.ref a from rx)
  obtain ⟨_,_,xs,_,o,es,ep,h1,h2,_⟩:=(show ObjOk X.prog X.w H s.heap a (.dT kvs) from I.hok a _ ea)
  exact PySem.W.kia_one PySem.W.kitx_dict I.kIn ⟨o,h1,h2.1⟩ e (fun z=>nomatch z) h
 | @ins a C dx fs ea cl ha hn htk hm=>
  cases (show u=Value.ref a from rx)
  obtain ⟨mA,O,_⟩:=tX I.hok ea
  obtain ⟨od,J,_⟩:=O.look
  exact PySem.W.kia_one (PySem.W.kitx_own (cl.get _) cl.hd ha hn htk hm) I.kIn J e (fun z=>nomatch z) h
end
end L2
namespace L2
open PySem PySem.Spec PyProof.Rows
structure Room (k:Nat) (A:Around):Prop where
 hd:A.handled=none
 dp:A.depth+3*k+5<recursionLimit
 un:A.units+16*k+200<cLine
theorem Room.mono {j k:Nat} {A:Around} (r:Room k A) (h:j≤k):Room j A:=⟨r.hd,by have:=r.dp; omega,by have:=r.un; omega⟩
theorem Room.deeper {k:Nat} {A:Around} (r:Room (k+1) A) (env:Env):Room k (A.deeper env):=
 ⟨r.hd,by have:=r.dp; show A.depth+1+3*k+5<_; omega,by have:=r.un; show A.units+3+16*k+200<_; omega⟩
theorem Room.in1 {k:Nat} {A:Around} (r:Room (k+1) A):Room k A.in1:=
 ⟨r.hd,by have:=r.dp; show A.depth+3*k+5<_; omega,by have:=r.un; show A.units+1+16*k+200<_; omega⟩
theorem mr {A:Around} {C:Addr} {us:List Value} {kw:List (Str × Value)}:(A.under (.builtin "type.__call__" ⟨.ref C::us,kw⟩)).depth=A.depth+1:=by
 first | rfl | simp [Around.under,Code.weight,Code.isCreation,Code.isGuard,Code.isCaller,Code.frames,Code.isFrame,guardIds]
theorem mq {A:Around} {C:Addr} {us:List Value} {kw:List (Str × Value)}:(A.under (.builtin "type.__call__" ⟨.ref C::us,kw⟩)).units=A.units+1:=by
 first | rfl | simp [Around.under,Code.cUnits,Code.frames,Code.isFrame]
theorem Room.make {k:Nat} {A:Around} (r:Room (k+1) A) (C:Addr) (us:List Value) (kw:List (Str × Value)):Room k (A.under (.builtin "type.__call__" ⟨.ref C::us,kw⟩)):=
 ⟨r.hd,by have:=r.dp; rw [mr]; omega,by have:=r.un; rw [mq]; omega⟩
theorem Room.depth {k:Nat} {A:Around} (r:Room k A):A.depth<recursionLimit:=by have:=r.dp; omega
theorem Room.units {k:Nat} {A:Around} (r:Room k A):A.units+64<cLine:=by have:=r.un; omega
def UN:TA:=fun _ H Q=>Q [] H
def UT (ta:TE) (tr:TA):TA:=fun σ H Q=>ta σ H fun x H1=>tr σ H1 fun xs H2=>Q (x::xs) H2
section
variable {X:Cx} {e:Expr} {es:List Expr} {te:TE} {t:TA} {pos:Pos}
theorem z4:PA X [] UN:=fun _ _ _ _ H Q I h=>Calls.spliced_nil ⟨[],H,I,.nil,h⟩
theorem zC (ha:PE X e te) (hr:PA X es t) (hs:starEach (e::es) X.env=(false,eval e X.env)::starEach es X.env:=by rfl):PA X (e::es) (UT te t):=by
 intro pos pins s σ H Q I h
 rw [hs]
 show wpAny _ _ (spliced ((false,eval e X.env)::backTo pos (starEach es X.env))) _ _ s
 refine Calls.spliced_cons (thn (ha pins s σ H _ I h) fun u s1 ⟨x,H1,I1,r1,q1⟩=>?_)
 exact thn (hr pos pins s1 σ H1 _ I1 q1) fun us s2 ⟨xs,H2,I2,r2,q2⟩=>⟨x::xs,H2,I2,.cons r1 r2,q2⟩
def Ro (t:TA):TE:=fun σ H Q=>t σ H fun xs H1=>xs.length≤sizeLine∧∀ p,H1 p=none→Q (.ref p) (upd H1 p (.tup xs))
def Rt (t:TA):TE:=fun σ H Q=>t σ H fun xs H1=>xs.length≤sizeLine∧∀ p,H1 p=none→Q (.ref p) (upd H1 p (.lst xs))
theorem qX {x1} (h:PA X es t):PE X (.Tuple es x1 pos) (Ro t):=by
 intro pins s σ H Q I hq
 refine wpAny_Tuple_spliced (thn (h pos pins s σ H _ I hq) fun us s1 ⟨xs,H1,I1,r,z,q⟩=>⟨by rw [← r.length]; exact z,?_⟩)
 have hf:H1 s1.heap.objs.size=none:=I1.hok.fresh (Nat.le_refl _)
 refine ⟨.ref s1.heap.objs.size,upd H1 s1.heap.objs.size (.tup xs),I1.laid (t':=s1.toks) (fun b u e=>Heap.get?_push_of_some _ e) (Nat.le_refl _) ?_,rfl,q _ hf⟩
 exact ⟨z,us,r,⟨_,Heap.get?_push_size _ rfl,rfl,_,rfl⟩⟩
theorem j5 (h:PA X es t):PE X (.List es pos) (Rt t):=by
 intro pins s σ H Q I hq
 refine wpAny_List_spliced (thn (h pos pins s σ H _ I hq) fun us s1 ⟨xs,H1,I1,r,z,q⟩=>⟨by rw [← r.length]; exact z,?_⟩)
 have hf:H1 s1.heap.objs.size=none:=I1.hok.fresh (Nat.le_refl _)
 refine ⟨.ref s1.heap.objs.size,upd H1 s1.heap.objs.size (.lst xs),I1.laid (t':=s1.toks) (fun b u e=>Heap.get?_push_of_some _ e) (Nat.le_refl _) ?_,rfl,q _ hf⟩
 exact ⟨z,us,0,r,Heap.get?_push_size _ rfl⟩
end
abbrev Sp:=List V→Hp→VK→XK→Prop
abbrev CXT:=List Env→Hp→Shared→XK→Value→Shared→Prop
structure Env0 (P:Program) (w:World) (K:PySem.W.Frag) (mg:Str→Option Value) (base:Heap) (A:Around) (outer:List Env) (s:Shared) (H:Hp):Prop where
 frames:A.frames=some outer
 mod:Mod K mg base
 bs:∀ b o,base.get? b=some o→s.heap.get? b=some o∧H b=none
 bsz:base.objs.size≤s.heap.objs.size
 funs:s.heap.FunFrames base outer
 frf:∀ b∈frs outer,H b=none
 hok:HOk P w H s.heap
 bare:AllBare s.gens
def CE (outer:List Env) (P:Program) (w:World) (H:Hp) (s:Shared) (Q:VK) (u:Value) (s':Shared):Prop:=
 ∃ v H',s'.os=s.os∧AllBare s'.gens∧Un (frs outer) [] H H' s.heap s'.heap∧HOk P w H' s'.heap∧RelV v u∧Q v H'
def CR (CX:CXT) (outer:List Env) (P:Program) (w:World) (H:Hp) (s:Shared) (Q:VK) (E:XK) (r:Result) (s':Shared):Prop:=
 match r with
 | .ok (.ret u)=>CE outer P w H s Q u s'
 | .ok _=>False
 | .error e=>CX outer H s E e s'
structure FnOk (P:Program) (w:World) (K:PySem.W.Frag) (mg:Str→Option Value) (base:Heap) (CX:CXT) (k:Nat) (f:Addr) (fd:FuncData) (ps:List Str) (sp:Sp):Prop where
 len:∀ vs H Q E,sp vs H Q E→vs.length=ps.length
 run:∀ (A:Around) (outer:List Env) (s:Shared) (H:Hp) (args:Args) (us:List Value) (vs:List V) (Q:VK) (E:XK),Room k A→Env0 P w K mg base A outer s H→BindsTo s fd args (ps.zip us)→Vals vs us→sp vs H Q E→
  codeAny (model P w) A (.call (.ref f) args) (CR CX outer P w H s Q E) s
theorem FnOk.mono {P:Program} {w:World} {K:PySem.W.Frag} {mg:Str→Option Value} {base:Heap} {CX:CXT} {j k:Nat} {f:Addr} {fd:FuncData} {ps:List Str} {sp:Sp} (F:FnOk P w K mg base CX j f fd ps sp) (h:j≤k):
  FnOk P w K mg base CX k f fd ps sp:=⟨F.len,fun A outer s H args us vs Q E hr=>F.run A outer s H args us vs Q E (hr.mono h)⟩
theorem FnOk.imp {P:Program} {w:World} {K:PySem.W.Frag} {mg:Str→Option Value} {base:Heap} {CX:CXT} {k:Nat} {f:Addr} {fd:FuncData} {ps:List Str} {sp sp':Sp} (F:FnOk P w K mg base CX k f fd ps sp)
  (h:∀ vs H Q E,sp' vs H Q E→sp vs H Q E):FnOk P w K mg base CX k f fd ps sp':=
 ⟨fun vs H Q E q=>F.len vs H Q E (h _ _ _ _ q),fun A outer s H args us vs Q E hr he hb hv hs=>F.run A outer s H args us vs Q E hr he hb hv (h _ _ _ _ hs)⟩
theorem Env0.make {P:Program} {w:World} {K:PySem.W.Frag} {mg:Str→Option Value} {base:Heap} {A:Around} {outer:List Env} {s:Shared} {H:Hp} (e:Env0 P w K mg base A outer s H) (C:Addr) (us:List Value) (kw:List (Str × Value)):
  Env0 P w K mg base (A.under (.builtin "type.__call__" ⟨.ref C::us,kw⟩)) outer s H:=⟨by first | exact e.frames | (simpa [Around.under,Code.envs,Code.isFrame,pushEnvs] using e.frames),e.mod,e.bs,e.bsz,e.funs,e.frf,e.hok,e.bare⟩
theorem Env0.in1 {P:Program} {w:World} {K:PySem.W.Frag} {mg:Str→Option Value} {base:Heap} {A:Around} {outer:List Env} {s:Shared} {H:Hp} (e:Env0 P w K mg base A outer s H):
  Env0 P w K mg base A.in1 outer s H:=⟨e.frames,e.mod,e.bs,e.bsz,e.funs,e.frf,e.hok,e.bare⟩
section
variable {X:Cx} {pins:List (Addr × Obj)} {σ:St} {H:Hp} {s s':Shared}
theorem Inv.env0 (I:Inv X pins σ H s):Env0 X.prog X.w X.K X.mg X.base X.A X.stack s H:=
 ⟨I.ok.frames,I.ok.mod,I.bs,Nat.le_trans I.ok.bsz I.sz,I.stack,I.stkFree,I.hok,I.bare⟩
theorem Inv.after {Q:VK} {u:Value} (I:Inv X pins σ H s) (h:CE X.stack X.prog X.w H s Q u s'):EP X pins σ Q u s':=by
 obtain ⟨v,H',os,bare,un,hok,r,q⟩:=h
 obtain ⟨hh,g,d,t,os'⟩:=s'
 obtain rfl:os'=s.os:=os
 exact ⟨v,H',I.call (h':=hh) (g':=g) (d':=d) (t':=t) (ch:=[]) un hok bare (fun b z=>absurd z (by simp)),r,q⟩
end
def UU (sp:Sp) (dvs:List V) (E:XK) (t:TA):TE:=fun σ H Q=>t σ H fun vs H1=>sp (vs++dvs) H1 Q E
def UP (C:Addr) (sp:Sp) (dvs:List V) (E:XK) (t:TA):TE:=fun σ H Q=>t σ H fun vs H1=>∀ x dx,H1 x=none→H1 dx=none→dx≠x→
 sp (.ref x::(vs++dvs)) (upd (upd H1 dx (.own x)) x (.ins C dx [])) (fun v H2=>v=.non∧Q (.ref x) H2) E
def Binds (K:PySem.W.Frag) (fd:FuncData) (ps:List Str) (ds:List Value):Prop:=
 ∀ (s:Shared) (us:List Value),K.In s.heap→(us++ds).length=ps.length→BindsTo s fd ⟨us,[]⟩ (ps.zip (us++ds))
theorem Binds.all {K:PySem.W.Frag} {fd:FuncData} {ps:List Str} (h:∀ us:List Value,us.length=ps.length→bindArgs fd ⟨us,[]⟩=pure (ps.zip us)):Binds K fd ps []:=fun s us _ hl=>by
 rw [List.append_nil] at hl ⊢
 exact .of_eq (h us hl)
def u5 (CX:CXT) (X:Cx) (E:XK):Prop:=∀ (pins:List (Addr × Obj)) (σ:St) (H:Hp) (s:Shared) (e:Value) (s':Shared),Inv X pins σ H s→CX X.stack H s E e s'→X.xe e s'
section
variable {X:Cx} {CX:CXT} {k:Nat} {f C:Addr} {fd:FuncData} {ps:List Str} {sp:Sp} {dvs:List V} {ds:List Value} {E:XK} {x m:Str} {p pos apos:Pos} {e o:Expr} {es:List Expr} {ta:TE} {t:TA}
theorem nW {pins:List (Addr × Obj)} {σ:St} {H:Hp} {s:Shared} {Q:VK} {us:List Value} {vs:List V} (F:FnOk X.prog X.w X.K X.mg X.base CX k f fd ps sp) (hr:Room k X.A) (hb:Binds X.K fd ps ds) (hd:Vals dvs ds) (hx:u5 CX X E)
  (I:Inv X pins σ H s) (r:Vals vs us) (h:sp (vs++dvs) H Q E):wpAny (model X.prog X.w) X.A (call (.ref f) us) (EP X pins σ Q) X.xe s:=by
 have r2:Vals (vs++dvs) (us++ds):=r.append hd
 have hl:(us++ds).length=ps.length:=by rw [← r2.length]; exact F.len _ _ _ _ h
 refine wpAny_call (codeAny_mono (F.run X.A X.stack s H ⟨us,[]⟩ (us++ds) (vs++dvs) Q E hr I.env0 (hb s us I.kIn hl) r2 h) fun r s' hq=>?_)
 cases r with
 | error e=>exact hx pins σ H s e s' I hq
 | ok fl=>
  cases fl with
  | ret u=>exact I.after hq
  | next=>exact False.elim hq
  | brk=>exact False.elim hq
  | cont=>exact False.elim hq
theorem x6 (F:FnOk X.prog X.w X.K X.mg X.base CX k f fd ps sp) (hr:Room k X.A) (hg:Gl X x) (hm:X.mg x=some (.ref f)) (hk:PySem.W.keepIn X.K (.ref f)=true) (hb:Binds X.K fd ps ds) (hd:Vals dvs ds) (hx:u5 CX X E)
  (ha:PA X (e::es) t) (hdb:(x == ("__debug__":Str))=false:=by decide) (he:starEach (e::es) X.env=(false,eval e X.env)::starEach es X.env:=by rfl) (hpl:(backTo pos (starEach es X.env)).any (·.1)=false:=by rfl):
  PE X (.Call (.Name x p) (e::es) [] pos) (UU sp dvs E t):=by
 intro pins s σ H Q I h
 refine wpAny_Call_Name_kw (wg I hg hm ?_ hdb)
 refine PySem.W.callWith_K (h₀:=X.base) I.ok.mod.kin hk (thn (ha pos pins s σ H _ I h) fun us s1 ⟨vs,H1,I1,r,q⟩=>⟨I1.kIn,?_⟩) he hpl
 exact nW F hr hb hd hx I1 r q
structure Mk (K:PySem.W.Frag) (C f:Addr):Prop where
 makes:PySem.W.makesIn K C=true
 init:PySem.W.findIn K (.ref C) "__init__"=some (some (.ref f))
 fn:PySem.W.isFn K (.ref f)=true
 kp:PySem.W.keepIn K (.ref C)=true
theorem jM {pins:List (Addr × Obj)} {σ:St} {H:Hp} {s:Shared} {Q:VK} {us:List Value} {vs:List V} (M:Mk X.K C f) (F:FnOk X.prog X.w X.K X.mg X.base CX k f fd ps sp) (hr:Room (k+1) X.A) (hb:Binds X.K fd ps ds) (hd:Vals dvs ds)
  (hx:u5 CX X E) (I:Inv X pins σ H s) (r:Vals vs us)
  (h:∀ x dx,H x=none→H dx=none→dx≠x→sp (.ref x::(vs++dvs)) (upd (upd H dx (.own x)) x (.ins C dx [])) (fun v H2=>v=.non∧Q (.ref x) H2) E):
  wpAny (model X.prog X.w) X.A (call (.ref C) us) (EP X pins σ Q) X.xe s:=by
 have hq:=h (s.heap.objs.size+1) s.heap.objs.size (I.hok.fresh (Nat.le_succ _)) (I.hok.fresh (Nat.le_refl _)) (Nat.ne_of_lt (Nat.lt_succ_self _))
 have I2:=Inv.made (C:=C) I
 have r2:Vals (V.ref (s.heap.objs.size+1)::(vs++dvs)) (Value.ref (s.heap.objs.size+1)::(us++ds)):=.cons rfl (r.append hd)
 have hl:(Value.ref (s.heap.objs.size+1)::us++ds).length=ps.length:=by
  have e:=r2.length
  rw [F.len _ _ _ _ hq] at e
  exact e.symm
 refine wpAny_call (fw (f:=f) I.kIn M.makes M.init (beq_iff_eq.mp M.fn) (codeAny_mono (F.run _ X.stack _ _ ⟨Value.ref (s.heap.objs.size+1)::us,[]⟩ (Value.ref (s.heap.objs.size+1)::(us++ds)) _ _ E (hr.make C us [])
  (I2.env0.make C us []) (hb _ (Value.ref (s.heap.objs.size+1)::us) I2.kIn hl) r2 hq) fun r s' hq'=>?_))
 cases r with
 | error e=>exact hx pins σ _ _ e s' I2 hq'
 | ok fl=>
  cases fl with
  | ret u=>
   obtain ⟨v,H',I3,rv,ev,q3⟩:=I2.after hq'
   subst ev
   exact ⟨rv,⟨V.ref (s.heap.objs.size+1),H',I3,rfl,q3⟩⟩
  | next=>exact False.elim hq'
  | brk=>exact False.elim hq'
  | cont=>exact False.elim hq'
theorem cj (M:Mk X.K C f) (F:FnOk X.prog X.w X.K X.mg X.base CX k f fd ps sp) (hr:Room (k+1) X.A) (hg:Gl X x) (hm:X.mg x=some (.ref C)) (hb:Binds X.K fd ps ds) (hd:Vals dvs ds) (hx:u5 CX X E)
  (ha:PA X (e::es) t) (hdb:(x == ("__debug__":Str))=false:=by decide) (he:starEach (e::es) X.env=(false,eval e X.env)::starEach es X.env:=by rfl) (hpl:(backTo pos (starEach es X.env)).any (·.1)=false:=by rfl):
  PE X (.Call (.Name x p) (e::es) [] pos) (UP C sp dvs E t):=by
 intro pins s σ H Q I h
 refine wpAny_Call_Name_kw (wg I hg hm ?_ hdb)
 refine PySem.W.callWith_K (h₀:=X.base) I.ok.mod.kin M.kp (thn (ha pos pins s σ H _ I h) fun us s1 ⟨vs,H1,I1,r,q⟩=>⟨I1.kIn,?_⟩) he hpl
 exact jM M F hr hb hd hx I1 r q
end
section
variable {X:Cx} {CX:CXT} {k:Nat} {f C:Addr} {fd:FuncData} {ps ks:List Str} {sp:Sp} {E:XK} {x m:Str} {p pos apos kpos:Pos} {e o:Expr} {es:List Expr} {kws:List Keyword} {te ta:TE} {t tk:TA} {nm:Option Str}
variable {g:List Value→List Value→List Value} {gV:List V→List V→List V}
end
structure zh (N P:List Str) (sc:Scope):Prop where
 kind:sc.kind=.function
 co:sc.isCoroutine=false
 gen:sc.isGenerator=false
 nd:N.Nodup
 pre:N.take P.length=P
 par:∀ x∈P,sc.names.lookup x=some .local∨sc.names.lookup x=some .cell
 nofree:∀ y∈sc.names,y.2≠.free
theorem qz {kindOf:Str→Option NameKind} {x:Str}:∀ {binds:List (Str × Value)} {m:Str→Option Value},(∀ v,(x,v)∉binds)→bindL kindOf binds m x=m x
 | [],_,_=>rfl
 | (n,v)::r,m,h=>by
  unfold bindL
  rw [qz fun w hw=>h w (List.mem_cons_of_mem _ hw)]
  split
  ·have:x≠n:=by rintro rfl; exact h v List.mem_cons_self
   simp [this]
  ·rfl
theorem qB {kindOf:Str→Option NameKind} {x:Str}:∀ {binds:List (Str × Value)} {m:Str→Option Value},(∀ v,(x,v)∉binds)→bindC kindOf binds m x=m x
 | [],_,_=>rfl
 | (n,v)::r,m,h=>by
  unfold bindC
  rw [qB fun w hw=>h w (List.mem_cons_of_mem _ hw)]
  split
  ·rfl
  ·have:x≠n:=by rintro rfl; exact h v List.mem_cons_self
   simp [this]
theorem qA {kindOf:Str→Option NameKind} {x:Str} {v:Value}:∀ {P:List Str} {vs:List Value} {i:Nat} {m:Str→Option Value},P.Nodup→P[i]? = some x→vs[i]? = some v→kindOf x=some .local→
  bindL kindOf (P.zip vs) m x=some v
 | [],_,_,_,_,h,_,_=>by simp at h
 | _::_,[],_,_,_,_,h,_=>by simp at h
 | p::P,w::vs,0,m,nd,h1,h2,hk=>by
  simp at h1 h2; subst h1; subst h2
  show bindL kindOf ((p,w)::P.zip vs) m p=_
  unfold bindL
  rw [qz fun v hv=>(List.nodup_cons.mp nd).1 (List.of_mem_zip hv).1,if_pos hk]
  simp
 | p::P,w::vs,i+1,m,nd,h1,h2,hk=>by
  show bindL kindOf ((p,w)::P.zip vs) m x=_
  unfold bindL
  exact qA (i:=i) (List.nodup_cons.mp nd).2 (by simpa using h1) (by simpa using h2) hk
theorem qC {kindOf:Str→Option NameKind} {x:Str} {v:Value}:∀ {P:List Str} {vs:List Value} {i:Nat} {m:Str→Option Value},P.Nodup→P[i]? = some x→vs[i]? = some v→kindOf x≠some .local→
  bindC kindOf (P.zip vs) m x=some v
 | [],_,_,_,_,h,_,_=>by simp at h
 | _::_,[],_,_,_,_,h,_=>by simp at h
 | p::P,w::vs,0,m,nd,h1,h2,hk=>by
  simp at h1 h2; subst h1; subst h2
  show bindC kindOf ((p,w)::P.zip vs) m p=_
  unfold bindC
  rw [qB fun v hv=>(List.nodup_cons.mp nd).1 (List.of_mem_zip hv).1,if_neg hk]
  simp
 | p::P,w::vs,i+1,m,nd,h1,h2,hk=>by
  show bindC kindOf ((p,w)::P.zip vs) m x=_
  unfold bindC
  exact qC (i:=i) (List.nodup_cons.mp nd).2 (by simpa using h1) (by simpa using h2) hk
def start (N:List Str) (vs:List V):St:=vs.map some++List.replicate (N.length - vs.length) none
def yu (CX:CXT) (P:Program) (w:World) (K:PySem.W.Frag) (mg:Str→Option Value) (base:Heap) (N:List Str) (qual:Str) (scope:Scope) (f:Addr) (cd:Value) (A:Around) (outer:List Env) (s:Shared) (H:Hp) (E:XK):Cx where
 prog:=P
 w:=w
 K:=K
 mg:=mg
 base:=base
 A:=A.deeper (envOfC qual scope s.heap.objs.size f cd)
 N:=N
 s₀:=s
 H₀:=H
 env:=envOfC qual scope s.heap.objs.size f cd
 outer:=outer
 stack:=envOfC qual scope s.heap.objs.size f cd::outer
 ex:=[]
 calm:=true
 fn:=fun _=>true
 pn:=[]
 xe:=fun e s'=>wpAny (model P w) (A.deeper (envOfC qual scope s.heap.objs.size f cd)) (leaving (envOfC qual scope s.heap.objs.size f cd) e) (fun _ s''=>CX outer H s E e s'') (fun e' s''=>CX outer H s E e' s'') s'
theorem rj {sc:Scope} {n:Nat} {x:Str} (h:sc.names.lookup x=some .cell):∃ c,(cellsFrom n sc.names []).lookup x=some c:=by
 have q:=PySem.W.cellsFrom_some sc.names n [] (.inl h)
 exact Option.isSome_iff_exists.mp q
theorem ja {CX:CXT} {P:Program} {w:World} {K:PySem.W.Frag} {mg:Str→Option Value} {base:Heap} {N ps:List Str} {qual:Str} {scope:Scope} {f:Addr} {cd:Value} {A:Around} {outer:List Env} {s s1:Shared} {H:Hp} {E:XK} {us:List Value} {vs:List V}
  (S:zh N ps scope) (hd:A.handled=none) (e0:Env0 P w K mg base A outer s H) (hl:vs.length=ps.length) (r:Vals vs us)
  (x:InCallC s s.heap.objs.size (bindL (envOfC qual scope s.heap.objs.size f cd).kindOf (ps.zip us) fun _=>none) (cellsFrom (s.heap.objs.size+1) scope.names []) (bindC (envOfC qual scope s.heap.objs.size f cd).kindOf (ps.zip us) fun _=>none) s1):
  Inv (yu CX P w K mg base N qual scope f cd A outer s H E) [] (start N vs) H s1:=by
 have hpl:ps.length≤N.length:=by have:=congrArg List.length S.pre; rw [List.length_take] at this; omega
 obtain ⟨h1,tk,rfl,hk⟩:=x.done
 have noA:∀ b:Addr,b∉(yu CX P w K mg base N qual scope f cd A outer s H E).ex:=fun b z=>absurd (show b∈([]:List Addr) from z) (by simp)
 refine ⟨⟨e0.mod,S.kind,rfl,rfl,Nat.le_refl _,fun y z c h1 h2=>?_,fun y hy=>?_,fun y c _ h=>?_,fun _=>hd,Around.frames_deeper e0.frames,.inr ⟨rfl,rfl⟩,fun b z=>absurd z (noA b),e0.bs,e0.bsz,fun b _ _=>noA b,fun b z=>absurd z (noA b),e0.funs,e0.frf⟩,
  rfl,e0.bare,Un.kept hk,⟨_,x.toInCall.ns,fun i y v h1 h2 h3=>?_⟩,fun y c h=>⟨_,x.cell y c h⟩,e0.hok.fresh (Nat.le_refl _),fun y c h=>?_,fun p hp=>absurd (show p∈([]:List (Addr × Obj)) from hp) (by simp),e0.hok.kept hk,?_⟩
 ·exact name_of_addr x.apart (PySem.mem_of_lookup h1) (PySem.mem_of_lookup h2)
 ·have hy:scope.names.lookup y=some .cell∨scope.names.lookup y=some .free:=hy
  rcases hy with hy | hy
  ·exact rj hy
  ·exact absurd rfl (S.nofree _ (PySem.mem_of_lookup hy))
 ·exact Nat.le_of_lt (x.above y c (PySem.mem_of_lookup h))
 ·have hi:i<vs.length:=by
   unfold start at h2
   by_cases hi:i<vs.length
   ·exact hi
   ·rw [List.getElem?_append_right (by simpa using hi)] at h2
    rw [List.getElem?_replicate] at h2
    split at h2 <;> cases h2
  have ha:vs[i]? = some v:=by
   unfold start at h2
   rw [List.getElem?_append_left (by simpa using hi),List.getElem?_map] at h2
   cases e:vs[i]? with
   | none=>rw [e] at h2; cases h2
   | some a=>rw [e] at h2; cases h2; rfl
  obtain ⟨u,hu,rv⟩:=r.get ha
  have hp:ps[i]? = some y:=by
   rw [← S.pre,List.getElem?_take_of_lt (by omega)]; exact h1
  have ndP:ps.Nodup:=by rw [← S.pre]; exact S.nd.sublist (List.take_sublist _ _)
  refine ⟨u,rv,?_⟩
  rcases S.par y (List.mem_of_getElem? hp) with k | k
  ·exact .inl ⟨k,qA ndP hp hu k⟩
  ·obtain ⟨c,e⟩:=rj (n:=s.heap.objs.size+1) k
   refine .inr ⟨.inl k,c,e,?_⟩
   have q:=x.cell y c e
   rw [qC ndP hp hu (by show scope.names.lookup y≠_; rw [k]; decide)] at q
   exact q
 ·exact e0.hok.fresh (Nat.le_of_lt (x.above y c (PySem.mem_of_lookup h)))
 ·unfold start
  show _=N.length
  rw [List.length_append,List.length_map,List.length_replicate]
  omega
theorem Yi {CX:CXT} {P:Program} {w:World} {K:PySem.W.Frag} {mg:Str→Option Value} {base:Heap} {k:Nat} {f:Addr} {name qual:Str} {params:Arguments} {body:List Stmt} {scope:Scope} {dV kV doc pm cdv ct oc:Value} {an od:Option Addr}
  {osl:Array (Option Value)} {N ps:List Str} {sp:Sp} (lk:K.lookup f=some ⟨oc,od,.func (PySem.W.fnOf name qual params body scope dV kV doc pm an cdv ct),osl⟩) (hcd:PySem.W.codeIn K cdv qual=true) (S:zh N ps scope)
  (len:∀ vs H Q E,sp vs H Q E→vs.length=ps.length)
  (hbody:∀ (A:Around) (outer:List Env) (s:Shared) (H:Hp) (vs:List V) (Q:VK) (E:XK),Room k (A.deeper (envOfC qual scope s.heap.objs.size f cdv))→sp vs H Q E→
   ∃ t,PSs (yu CX P w K mg base N qual scope f cdv A outer s H E) body t∧t { nx:=fun _ H'=>Q .non H',rt:=Q } (start N vs) H):
  FnOk P w K mg base CX (k+1) f (PySem.W.fnOf name qual params body scope dV kV doc pm an cdv ct) ps sp:=by
 refine ⟨len,fun A outer s H args us vs Q E hr e0 hb r hsp=>?_⟩
 have hl:=len _ _ _ _ hsp
 have KX:K.In s.heap:=e0.mod.kin.keeps fun b o e=>(e0.bs b o e).1
 have lim:s.heap.NoLimit:=e0.mod.nolimit.keeps fun b o e=>(e0.bs b o e).1
 have hkind:∀ y∈ps.zip us,scope.names.lookup y.1=some .local∨(scope.names.lookup y.1=some .cell∧((cellsFrom (s.heap.objs.size+1) scope.names []).lookup y.1).isSome=true):=fun ⟨n,v⟩ hy=>by
  rcases S.par n (List.of_mem_zip hy).1 with q | q
  ·exact .inl q
  ·exact .inr ⟨q,PySem.W.cellsFrom_some _ _ _ (.inl q)⟩
 refine codeAny_call_function hr.depth (KX _ _ lk) rfl S.co S.gen rfl (PySem.W.codeRec_of KX hcd) (hb _ _ _ _ ?_)
 refine wpAny_newFunctionEnv_cells S.kind hkind fun env he s1 x=>?_
 subst he
 refine ⟨lim.keeps x.toInCall.keep,codeAny_func ?_⟩
 obtain ⟨t,ht,hq⟩:=hbody A outer s H vs Q E (hr.deeper _) hsp
 have I:Inv (yu CX P w K mg base N qual scope f cdv A outer s H E) [] (start N vs) H s1:=ja S hr.hd e0 hl r x
 refine wpAny_mono (ht [] s1 (start N vs) H _ I hq) (fun fl s' hs=>?_) fun e s' hs=>hs
 have fin:∀ {σ':St} {H':Hp} {v:V} {u:Value},Inv (yu CX P w K mg base N qual scope f cdv A outer s H E) [] σ' H' s'→RelV v u→Q v H'→CE outer P w H s Q u s':=
  fun {σ' H' v u} J rv q=>⟨v,H',J.os,J.bare,J.base,J.hok,rv,q⟩
 cases fl with
 | ret u=>
  obtain ⟨v,σ',H',J,rv,q⟩:=hs
  exact fin J rv q
 | next=>
  obtain ⟨σ',H',J,q⟩:=hs
  exact fin (v:=V.non) (u:=Value.none) J rfl q
 | brk=>
  obtain ⟨_,_,_,q⟩:=hs
  exact False.elim q
 | cont=>
  obtain ⟨_,_,_,q⟩:=hs
  exact False.elim q
end L2
namespace L2
open PySem PySem.Spec PyProof.Rows
section
variable {X:Cx} {x:Str} {p pos:Pos} {e:Expr} {es:List Expr} {t:TA} {id T:String} {r:List V→Hp→VK→Prop}
def tCB (r:List V→Hp→VK→Prop) (t:TA):TE:=fun σ H Q=>t σ H fun vs H1=>r vs H1 Q
theorem yH (hc:CallR X (.builtin id) r) (hg:Gl X x) (hm:X.mg x=none) (hv:bootBuiltins x=some (.builtin id)) (ha:PA X (e::es) t) (hn:x≠"__name__":=by decide) (hdb:(x == ("__debug__":Str))=false:=by decide)
  (he:starEach (e::es) X.env=(false,eval e X.env)::starEach es X.env:=by rfl) (hpl:(backTo pos (starEach es X.env)).any (·.1)=false:=by rfl):PE X (.Call (.Name x p) (e::es) [] pos) (tCB r t):=by
 intro pins s σ H Q I h
 refine wpAny_Call_Name_kw (xG I hg hm hv ?_ hn hdb)
 exact PyProof.Rows.callWith_builtin1 (thn (ha pos pins s σ H _ I h) fun us s1 ⟨vs,H1,I1,r1,q1⟩=>hc pins s1 σ H1 vs us Q I1 r1 q1) he hpl
theorem qi (hc:CallR X (.type T) r) (hg:Gl X x) (hm:X.mg x=none) (hv:bootBuiltins x=some (.type T)) (ha:PA X (e::es) t) (hn:x≠"__name__":=by decide) (hdb:(x == ("__debug__":Str))=false:=by decide)
  (he:starEach (e::es) X.env=(false,eval e X.env)::starEach es X.env:=by rfl) (hpl:(backTo pos (starEach es X.env)).any (·.1)=false:=by rfl):PE X (.Call (.Name x p) (e::es) [] pos) (tCB r t):=by
 intro pins s σ H Q I h
 refine wpAny_Call_Name_kw (xG I hg hm hv ?_ hn hdb)
 exact PyProof.Rows.callWith_type1 (thn (ha pos pins s σ H _ I h) fun us s1 ⟨vs,H1,I1,r1,q1⟩=>hc pins s1 σ H1 vs us Q I1 r1 q1) he hpl
end
end L2
namespace HT
open PySem PyProof.Rows
section
open PySem.SeqAt
open PySem.AutoSeq1 (wpAny_loadPart')
open PySem.MeetsSeq PySem.MeetsSeq2 PySem.MeetsSeq3
end
section
variable {prog:Program} {w:World} {A:Around} {E:Value→Shared→Prop} {s:Shared}
def sIx (n d:Nat):Option Int→Nat
 | none=>d
 | some v=>if v<0 then (v+(n:Int)).toNat else min v.toNat n
theorem sIx_none (n d:Nat):sIx n d none=d:=rfl
theorem sIx_nat (n d k:Nat):sIx n d (some (k:Int))=min k n:=by
 show (if (k:Int)<0 then ((k:Int)+(n:Int)).toNat else min (k:Int).toNat n)=min k n
 rw [if_neg (by omega),Int.toNat_natCast]
end
end HT
namespace L2
open PySem PySem.Spec PyProof.Rows
abbrev TO:=St→Hp→(Option Int→Hp→Prop)→Prop
def PO (X:Cx) (e:Option Expr) (t:TO):Prop:=
 ∀ (pins:List (Addr × Obj)) (s:Shared) (σ:St) (H:Hp) (Q:Option Int→Hp→Prop),Inv X pins σ H s→t σ H Q→
  wpAny (model X.prog X.w) X.A (evalPart e X.env) (fun u s'=>∃ o H',Inv X pins σ H' s'∧IsPart u o∧Q o H') X.xe s
def dN:TO:=fun _ H Q=>Q none H
def UL (t:TE):TO:=fun σ H Q=>t σ H fun x H1=>∃ i,x=.int i∧Q (some i) H1
section
variable {X:Cx} {e:Expr} {te:TE} {lo hi:Option Expr} {tl th:TO} {pos p2:Pos}
theorem cf:PO X none dN:=by
 intro pins s σ H Q I h
 rw [evalPart_none]
 exact wpAny_pure ⟨none,H,I,.none,h⟩
theorem ce (h:PE X e te):PO X (some e) (UL te):=by
 intro pins s σ H Q I hw
 rw [evalPart_some]
 refine thn (h pins s σ H _ I hw) fun u s1 ⟨x,H1,I1,r1,q1⟩=>?_
 obtain ⟨i,rfl,q⟩:=q1
 obtain ⟨t,rfl⟩:=r1
 exact ⟨some i,H1,I1,.int i t,q⟩
def SlR (X:Cx) (r:V→Option Int→Option Int→Hp→VK→Prop):Prop:=
 ∀ (pins:List (Addr × Obj)) (s:Shared) (σ:St) (H:Hp) (x:V) (v vl vu:Value) (lo hi:Option Int) (sl:Addr) (Q:VK),Inv X pins σ H s→RelV x v→s.heap.IsSliceOf sl vl vu .none→IsPart vl lo→IsPart vu hi→r x lo hi H Q→
  ∃ T id,typeLookup (.type T) "__getitem__"=pure (some (.builtin id))∧s.TypeIs v T∧wpAny (model X.prog X.w) X.A (getItem v (.ref sl)) (EP X pins σ Q) X.xe s
theorem SlR.or {r r':V→Option Int→Option Int→Hp→VK→Prop} (h:SlR X r) (h':SlR X r'):SlR X (fun x lo hi H Q=>r x lo hi H Q∨r' x lo hi H Q):=by
 intro pins s σ H x v vl vu lo hi sl Q I rx hs pl pu q
 rcases q with q | q
 ·exact h pins s σ H x v vl vu lo hi sl Q I rx hs pl pu q
 ·exact h' pins s σ H x v vl vu lo hi sl Q I rx hs pl pu q
def tSl (r:V→Option Int→Option Int→Hp→VK→Prop) (te:TE) (tl th:TO):TE:=fun σ H Q=>te σ H fun x H1=>tl σ H1 fun l H2=>th σ H2 fun u H3=>r x l u H3 Q
theorem j0 {r:V→Option Int→Option Int→Hp→VK→Prop} (hr:SlR X r) (he:PE X e te) (hl:PO X lo tl) (hu:PO X hi th):PE X (.Subscript e (.Slice lo hi none p2) pos) (tSl r te tl th):=by
 intro pins s σ H Q I h
 refine Subscript_ (thn (he pins s σ H _ I h) fun v s1 ⟨x,H1,I1,r1,q1⟩=>?_)
 refine wpAny_Slice (thn (hl pins s1 σ H1 _ I1 q1) fun vl s2 ⟨l,H2,I2,pl,q2⟩=>thn (hu pins s2 σ H2 _ I2 q2) fun vu s3 ⟨u,H3,I3,pu,q3⟩=>?_)
 rw [evalPart_none]
 refine wpAny_pure ?_
 have I4:Inv X pins σ H3 { s3 with heap:=s3.heap.push { cls:=.type "slice",data:=.fields #[vl,vu,.none] } }:=I3.kept (t':=s3.toks) fun b ob q=>Heap.get?_push_of_some _ q
 obtain ⟨T,id,hT,ht,hg⟩:=hr pins { s3 with heap:=s3.heap.push { cls:=.type "slice",data:=.fields #[vl,vu,.none] } } σ H3 x v vl vu l u s3.heap.objs.size Q I4 r1 (Heap.IsSliceOf.new ..) pl pu q3
 show wpAny (model X.prog X.w) X.A (subscriptTail e (.Slice lo hi none p2) v (.ref s3.heap.objs.size)) (EP X pins σ Q) X.xe { s3 with heap:=s3.heap.push { cls:=.type "slice",data:=.fields #[vl,vu,.none] } }
 exact tail_any (ops:=[.ref s3.heap.objs.size,v]) ht hT hg (by with_unfolding_all rfl)
def mP (xs:List V) (lo hi:Option Int):List V:=(xs.drop (HT.sIx xs.length 0 lo)).take (HT.sIx xs.length xs.length hi - HT.sIx xs.length 0 lo)
theorem nj (xs:List V) (lo hi:Option Int):(mP xs lo hi).length≤xs.length:=by
 unfold mP
 rw [List.length_take,List.length_drop]
 omega
end
end L2
namespace L2
open PySem PySem.Spec PyProof.Rows
def ixN (n:Nat) (i:Int):Option Nat:=if 0≤i then (if i<n then some i.toNat else none) else if -(n:Int)≤i then some (i+n).toNat else none
def atI {α:Type} (xs:List α) (i:Int):Option α:=(ixN xs.length i).bind fun j=>xs[j]?
theorem lD {n:Nat} {i:Int} {j:Nat} (h:ixN n i=some j):seqIndex? i n=some j∧j<n∧-(n:Int)≤i∧i<n:=by
 unfold ixN at h
 by_cases h0:0≤i
 ·rw [if_pos h0] at h
  by_cases h1:i<n
  ·rw [if_pos h1] at h
   have e:i.toNat=j:=Option.some.inj h
   exact ⟨by rw [seqIndex_of h0 h1,e],by omega,by omega,h1⟩
  ·rw [if_neg h1] at h; cases h
 ·rw [if_neg h0] at h
  by_cases h1:-(n:Int)≤i
  ·rw [if_pos h1] at h
   have e:(i+n).toNat=j:=Option.some.inj h
   exact ⟨by rw [seqIndex_neg (by omega) h1,e],by omega,h1,by omega⟩
  ·rw [if_neg h1] at h; cases h
theorem pP {α:Type} {xs:List α} {i:Int} {v:α} (h:atI xs i=some v):∃ j,seqIndex? i xs.length=some j∧xs[j]? = some v∧j<xs.length∧-(xs.length:Int)≤i∧i<xs.length:=by
 unfold atI at h
 cases e:ixN xs.length i with
 | none=>rw [e] at h; cases h
 | some j=>
  rw [e] at h
  obtain ⟨h1,h2,h3,h4⟩:=lD e
  exact ⟨j,h1,h,h2,h3,h4⟩
theorem wu {α:Type} {xs:List α} {j:Nat} {v:α} (h:xs[j]? = some v):atI xs (j:Int)=some v:=by
 have hj:j<xs.length:=(List.getElem?_eq_some_iff.mp h).1
 have e:ixN xs.length (j:Int)=some j:=by
  unfold ixN
  rw [if_pos (by omega),if_pos (by omega)]; simp
 unfold atI; rw [e]; exact h
theorem wZ {α:Type} (xs:List α) (v:α):atI (xs++[v]) (-1)=some v:=by
 have hl:(xs++[v]).length=xs.length+1:=by simp
 have e:ixN (xs++[v]).length (-1)=some xs.length:=by
  unfold ixN
  rw [hl,if_neg (by decide),if_pos (by omega)]
  congr 1
  omega
 unfold atI
 rw [e]
 show (xs++[v])[xs.length]? = some v
 simp
def se (b:Expr):Prop:=∀ o i,subscripted b false o i=operate [o,i] (getItem o i)
def IxR (X:Cx) (r:R2):Prop:=
 ∀ (value slice:Expr) (pins:List (Addr × Obj)) (s:Shared) (σ:St) (H:Hp) (x y:V) (v u:Value) (Q:VK),Inv X pins σ H s→RelV x v→RelV y u→r x y H Q→
  subscripted slice false v u=operate [v,u] (getItem v u)→wpAny (model X.prog X.w) X.A (subscriptTail value slice v u) (EP X pins σ Q) X.xe s
def MtR (X:Cx) (id:String) (r:V→List V→Hp→VK→Prop):Prop:=
 ∀ (pins:List (Addr × Obj)) (s:Shared) (σ:St) (H:Hp) (x:V) (xs:List V) (v:Value) (us:List Value) (Q:VK),Inv X pins σ H s→RelV x v→Vals xs us→r x xs H Q→
  wpAny (model X.prog X.w) X.A (call (.builtin id) (v::us)) (EP X pins σ Q) X.xe s
section
variable {X:Cx} {a b:Expr} {ta tb:TE} {pos:Pos}
theorem IxR.or {r r':R2} (h:IxR X r) (h':IxR X r'):IxR X (fun x y H Q=>r x y H Q∨r' x y H Q):=by
 intro value slice pins s σ H x y v u Q I rx ry q hs
 rcases q with q | q
 ·exact h value slice pins s σ H x y v u Q I rx ry q hs
 ·exact h' value slice pins s σ H x y v u Q I rx ry q hs
theorem MtR.or {id:String} {r r':V→List V→Hp→VK→Prop} (h:MtR X id r) (h':MtR X id r'):MtR X id (fun x xs H Q=>r x xs H Q∨r' x xs H Q):=by
 intro pins s σ H x xs v us Q I rx rs q
 rcases q with q | q
 ·exact h pins s σ H x xs v us Q I rx rs q
 ·exact h' pins s σ H x xs v us Q I rx rs q
theorem j6 {r:R2} (hr:IxR X r) (ha:PE X a ta) (hb:PE X b tb) (hs:se b):PE X (.Subscript a b pos) (tOp r ta tb):=by
 intro pins s σ H Q I h
 exact Subscript_ (UD ha hb I h fun v u s2 x y H2 I2 rx ry q=>hr a b pins s2 σ H2 x y v u Q I2 rx ry q (hs _ _))
def Tb (K:PySem.W.Frag):R2:=fun x y H Q=>∃ p xs i v,x=.ref p∧y=.int i∧SqL K H p xs∧atI xs i=some v∧Q v H
def U_ (K:PySem.W.Frag):R2:=fun x y H Q=>∃ p xs i v,x=.ref p∧y=.int i∧SqT K H p xs∧atI xs i=some v∧Q v H
def Ta:R2:=fun x y H Q=>∃ z i c,x=.str z∧y=.int i∧z.length≤sizeLine∧atI z.cps.toList i=some c∧Q (.str ⟨#[c]⟩) H
theorem ix_list:IxR X (Tb X.K):=by
 intro value slice pins s σ H x y v u Q I rx ry h hs
 obtain ⟨p,xs,i,z,rfl,rfl,hq,he,q⟩:=h
 cases rx
 obtain ⟨t,rfl⟩:=ry
 obtain ⟨its,r,pl,hz⟩:=I.list hq
 obtain ⟨j,h1,h2,h3,h4,h5⟩:=pP he
 obtain ⟨w,ew,rw'⟩:=r.get h2
 have hl:=r.length
 have hn:=vC
 have fin:EP X pins σ Q w s:=⟨z,H,I,rw',q⟩
 by_cases h0:0≤i
 ·have hj:i.toNat=j:=by
   rw [seqIndex_of h0 h5] at h1
   exact Option.some.inj h1
  exact item_listR pl.isList h0 (by omega) (by rw [hj]; simpa using ew) fin hs
 ·have hj:(i+(its.toArray.size:Int)).toNat=j:=by
   rw [seqIndex_neg (by omega) h4] at h1
   rw [List.size_toArray,← hl]
   exact Option.some.inj h1
  exact subscriptTail_builtinR (x:=w) pl.isList.typeIs slot_list_getitem.lookup
   (wpAny_getItem_list_neg (Q:=fun r s'=>r=w∧EP X pins σ Q r s') pl.isList (by omega) (by rw [List.size_toArray] <;> omega) (by omega) (by rw [hj]; simpa using ew) ⟨rfl,fin⟩) hs
theorem ix_tup:IxR X (U_ X.K):=by
 intro value slice pins s σ H x y v u Q I rx ry h hs
 obtain ⟨p,xs,i,z,rfl,rfl,hq,he,q⟩:=h
 cases rx
 obtain ⟨t,rfl⟩:=ry
 obtain ⟨its,r,pl,hz⟩:=I.tuple hq
 obtain ⟨j,h1,h2,h3,h4,h5⟩:=pP he
 obtain ⟨w,ew,rw'⟩:=r.get h2
 have hl:=r.length
 have hn:=vC
 have fin:EP X pins σ Q w s:=⟨z,H,I,rw',q⟩
 exact subscriptTail_builtinR (x:=w) pl.typeIs slot_tuple_getitem.lookup
  (getItem_tuple (j:=j) (Q:=fun r s'=>r=w∧EP X pins σ Q r s') pl (by omega) (by omega) (by rw [List.size_toArray,← hl]; exact h1) (by simpa using ew) ⟨rfl,fin⟩) hs
theorem V8:IxR X Ta:=by
 intro value slice pins s σ H x y v u Q I rx ry h hs
 obtain ⟨z,i,c,rfl,rfl,hz,he,q⟩:=h
 obtain ⟨t,rfl⟩:=rx
 obtain ⟨t',rfl⟩:=ry
 obtain ⟨j,h1,h2,h3,h4,h5⟩:=pP he
 have hl:z.cps.toList.length=z.length:=by simp [Str.length]
 rw [hl] at h1 h4 h5
 have hn:=vC
 exact tail_any (typeIs_str s z t) slot_str_getitem.lookup (getItem_str (c:=c) (by
  have e1:decide (i < -(2 ^ 63:Int))=false:=decide_eq_false (by omega)
  have e2:decide (i ≥ 2 ^ 63)=false:=decide_eq_false (by omega)
  rw [e1,e2,Bool.or_false]) (by rw [h1]; simpa using h2) ⟨.str ⟨#[c]⟩,H,I.tok _,⟨_,rfl⟩,q⟩) hs
def rIx (K:PySem.W.Frag):R2:=fun x y H Q=>Tb K x y H Q∨U_ K x y H Q∨Ta x y H Q
theorem fE:IxR X (rIx X.K):=ix_list.or (ix_tup.or V8)
theorem mm (its:List Value) (n j:Nat) (u:Value):Obj.mapSeq (·.setIfInBounds j u) { cls:=.type "list",data:=.seq its.toArray n }={ cls:=.type "list",data:=.seq (its.set j u).toArray n }:=by
 simp [Obj.mapSeq]
theorem Inv.lst {pins:List (Addr × Obj)} {σ:St} {H:Hp} {s:Shared} {p:Addr} {xs:List V} (I:Inv X pins σ H s) (h:H p=some (.lst xs)):
  ∃ (its:List Value) (n:Nat),Vals xs its∧s.heap.get? p=some { cls:=.type "list",data:=.seq its.toArray n }∧xs.length≤sizeLine:=by
 obtain ⟨z,its,n,r,e⟩:=I.hok p _ h
 exact ⟨its,n,r,e,z⟩
theorem Inv.lstUpd {pins:List (Addr × Obj)} {σ:St} {H:Hp} {s:Shared} {p:Addr} {xs ys:List V} {its its':List Value} {n n':Nat} {f:Obj→Obj} (I:Inv X pins σ H s) (h:H p=some (.lst xs))
  (ho:s.heap.get? p=some { cls:=.type "list",data:=.seq its.toArray n }) (hf:f { cls:=.type "list",data:=.seq its.toArray n }={ cls:=.type "list",data:=.seq its'.toArray n' }) (r:Vals ys its') (hz:ys.length≤sizeLine) (t:Nat):
  Inv X pins σ (upd H p (.lst ys)) { s with heap:=s.heap.update p f,toks:=t }:=by
 have e:(s.heap.update p f).get? p=some { cls:=.type "list",data:=.seq its'.toArray n' }:=by
  rw [Heap.get?_update_self f ho (by rw [hf] <;> rfl),hf]
 refine I.write (x:=p) (e:=p) (by rw [h]; trivial) (.inl rfl) (fun b u hb q=>(Heap.get?_update_other _ _ (Ne.symm hb)).trans q) ⟨_,e⟩ ?_
 exact ⟨hz,its',n',r,e⟩
def UZ:V→V→V→Hp→(Hp→Prop)→Prop:=fun o i v H Q=>∃ p xs k j,o=.ref p∧i=.int k∧H p=some (.lst xs)∧ixN xs.length k=some j∧Q (upd H p (.lst (xs.set j v)))
theorem og:UG X UZ:=by
 intro pins s σ H o i v ov iv u Q I ro ri rv h
 obtain ⟨p,xs,k,j,rfl,rfl,hp,hj,q⟩:=h
 cases ro
 obtain ⟨t,rfl⟩:=ri
 obtain ⟨its,n,r,ho,hz⟩:=I.lst hp
 obtain ⟨h1,h2,h3,h4⟩:=lD hj
 have hl:=r.length
 have hn:=vC
 have I':Inv X pins σ (upd H p (.lst (xs.set j v))) { s with heap:=s.heap.update p (Obj.mapSeq (·.setIfInBounds j u)) }:=
  I.lstUpd hp ho (mm its n j u) (r.set rv j) (by rw [List.length_set]; exact hz) s.toks
 by_cases h0:0≤k
 ·have hk:k.toNat=j:=by
   rw [seqIndex_of h0 h4] at h1
   exact Option.some.inj h1
  exact PySem.W.ki_setAt ho h0 (by omega) (by rw [List.size_toArray,← hl]; exact h4) (by rw [hk]; exact ⟨_,I',q⟩)
 ·have hk:(k+(its.toArray.size:Int)).toNat=j:=by
   rw [seqIndex_neg (by omega) h3] at h1
   rw [List.size_toArray,← hl]
   exact Option.some.inj h1
  exact PySem.W.ki_setBack ho (by omega) (by rw [List.size_toArray,← hl]; exact h3) (by omega) (by rw [hk]; exact ⟨_,I',q⟩)
theorem qL (lo hi:Option Int) (n:Nat):(sliceBounds lo hi none n).1=((HT.sIx n 0 lo:Nat):Int)∧(sliceBounds lo hi none n).2.1=((HT.sIx n n hi:Nat):Int)∧(sliceBounds lo hi none n).2.2=1:=by
 refine ⟨?_,?_,rfl⟩
 ·cases lo with
  | none=>simp [sliceBounds,HT.sIx]
  | some i=>
   simp only [sliceBounds,HT.sIx,Option.getD_none,show (1:Int)>0 by decide,if_true]
   by_cases h:i<0
   ·simp only [h,if_true] <;> omega
   ·simp only [h,if_false] <;> omega
 ·cases hi with
  | none=>simp [sliceBounds,HT.sIx]
  | some i=>
   simp only [sliceBounds,HT.sIx,Option.getD_none,show (1:Int)>0 by decide,if_true]
   by_cases h:i<0
   ·simp only [h,if_true] <;> omega
   ·simp only [h,if_false] <;> omega
theorem rB (its:List Value) (lo hi:Option Int):slicePick its.toArray lo hi none=((its.drop (HT.sIx its.length 0 lo)).take (HT.sIx its.length its.length hi - HT.sIx its.length 0 lo)).toArray:=by
 obtain ⟨h1,h2,h3⟩:=qL lo hi its.toArray.size
 unfold slicePick
 rw [h1,h2,h3]
 simp only [sliceRange_one,pick_run,List.size_toArray] <;> rfl
def RE (K:PySem.W.Frag):V→Option Int→Option Int→Hp→VK→Prop:=fun x lo hi H Q=>∃ a xs,x=.ref a∧SqL K H a xs∧∀ p,H p=none→Q (.ref p) (upd H p (.lst (mP xs lo hi)))
theorem dO:SlR X (RE X.K):=by
 intro pins s σ H x v vl vu lo hi sl Q I rx hs pl pu h
 obtain ⟨a,xs,rfl,hx,q⟩:=h
 cases rx
 obtain ⟨its,r,ht,hz⟩:=I.list hx
 have hlen:=r.length
 refine ⟨"list",_,slot_list_getitem.lookup,ht.isList.typeIs,?_⟩
 refine wpAny_getItem_list_slice ht.isList hs pl pu .none (by simp) ?_ (by rw [List.size_toArray] <;> omega)
 rw [rB,← hlen]
 refine ⟨.ref s.heap.objs.size,_,I.laid (t':=s.toks) (o:=.lst (mP xs lo hi)) (fun b ob q=>Heap.get?_push_of_some _ q) (Nat.le_refl _) ?_,rfl,q _ (I.hok.fresh (Nat.le_refl _))⟩
 exact ⟨Nat.le_trans (nj xs lo hi) hz,_,0,(r.drop (HT.sIx xs.length 0 lo)).take (HT.sIx xs.length xs.length hi - HT.sIx xs.length 0 lo),Heap.get?_push_size _ rfl⟩
def wQ:V→Bool
 | .non=>true
 | .bl _=>true
 | .int _=>true
 | .str _=>true
 | _=>false
def eqV:V→V→Bool
 | .non,.non=>true
 | .bl a,.bl b=>a == b
 | .bl a,.int b=>(if a then 1 else 0) == b
 | .int a,.bl b=>a == (if b then 1 else 0)
 | .int a,.int b=>a == b
 | .str a,.str b=>a == b
 | _,_=>false
theorem mI {A:Around} {s:Shared} {y x:V} {u v:Value} (ry:RelV y u) (rx:RelV x v) (fy:wQ y=true) (fx:wQ x=true):SeqAt.EqAt A s u v (eqV y x):=by
 cases y with
 | non=>
  cases ry
  cases x with
  | non=>cases rx; exact SeqAt.EqAt.same _
  | bl b=>cases rx; exact SeqAt.EqAt.none_bool b
  | int b=>obtain ⟨t,rfl⟩:=rx; exact SeqAt.EqAt.none_int b t
  | str b=>obtain ⟨t,rfl⟩:=rx; exact SeqAt.EqAt.none_str b t
  | _=>exact absurd (show false=true from fx) Bool.false_ne_true
 | bl a=>
  cases ry
  cases x with
  | non=>cases rx; exact SeqAt.EqAt.bool_none a
  | bl b=>cases rx; exact SeqAt.EqAt.bool_bool a b
  | int b=>obtain ⟨t,rfl⟩:=rx; exact SeqAt.EqAt.bool_int a b t
  | str b=>obtain ⟨t,rfl⟩:=rx; exact SeqAt.EqAt.bool_str a b t
  | _=>exact absurd (show false=true from fx) Bool.false_ne_true
 | int a=>
  obtain ⟨t',rfl⟩:=ry
  cases x with
  | non=>cases rx; exact SeqAt.EqAt.int_none a t'
  | bl b=>cases rx; exact SeqAt.EqAt.int_bool a t' b
  | int b=>obtain ⟨t,rfl⟩:=rx; exact SeqAt.EqAt.int_int a t' b t
  | str b=>obtain ⟨t,rfl⟩:=rx; exact SeqAt.EqAt.int_str a t' b t
  | _=>exact absurd (show false=true from fx) Bool.false_ne_true
 | str a=>
  obtain ⟨t',rfl⟩:=ry
  cases x with
  | non=>cases rx; exact SeqAt.EqAt.str_none a t'
  | bl b=>cases rx; exact SeqAt.EqAt.str_bool a t' b
  | int b=>obtain ⟨t,rfl⟩:=rx; exact SeqAt.EqAt.str_int a t' b t
  | str b=>obtain ⟨t,rfl⟩:=rx; exact SeqAt.EqAt.str_str a t' b t
  | _=>exact absurd (show false=true from fx) Bool.false_ne_true
 | _=>exact absurd (show false=true from fy) Bool.false_ne_true
def eqU (x:V) (u:Value):Bool:=match u with
 | .none=>eqV .non x
 | .bool b=>eqV (.bl b) x
 | .int i _=>eqV (.int i) x
 | .str z _=>eqV (.str z) x
 | _=>false
theorem fW {x y:V} {u:Value} (r:RelV y u) (f:wQ y=true):eqU x u=eqV y x:=by
 cases y with
 | non=>cases r; rfl
 | bl b=>cases r; rfl
 | int i=>obtain ⟨t,rfl⟩:=r; rfl
 | str z=>obtain ⟨t,rfl⟩:=r; rfl
 | _=>exact absurd (show false=true from f) Bool.false_ne_true
theorem pQ {x:V}:∀ {xs:List V} {us:List Value},Vals xs us→xs.all wQ=true→us.any (eqU x)=xs.any fun y=>eqV y x
 | _,_,.nil,_=>rfl
 | y::xs,u::us,.cons r t,f=>by
  rw [List.all_cons,Bool.and_eq_true] at f
  rw [List.any_cons,List.any_cons,fW r f.1,pQ t f.2]
theorem s8 {A:Around} {s:Shared} {x:V} {v:Value} (rx:RelV x v) (fx:wQ x=true):∀ {xs:List V} {us:List Value},Vals xs us→xs.all wQ=true→∀ u∈us,SeqAt.EqAt A s u v (eqU x u)
 | _,_,.nil,_=>fun u hu=>by cases hu
 | y::xs,u::us,.cons r t,f=>fun u' hu=>by
  rw [List.all_cons,Bool.and_eq_true] at f
  rcases List.mem_cons.mp hu with rfl | hu
  ·rw [fW r f.1]; exact mI r rx f.1 fx
  ·exact s8 rx fx t f.2 u' hu
def inV (x:V) (xs:List V):Bool:=xs.any fun y=>eqV y x
def rIn (K:PySem.W.Frag) (neg:Bool):R2:=fun x y H Q=>∃ p xs,y=.ref p∧(SqL K H p xs∨SqT K H p xs)∧wQ x=true∧xs.all wQ=true∧Q (.bl (if neg then !inV x xs else inV x xs)) H
theorem kF:OpR X (compareOp .In) (rIn X.K false):=by
 intro pins s σ H x y v u Q I rx ry h
 obtain ⟨p,xs,rfl,hq,fx,fs,q⟩:=h
 cases ry
 rcases hq with hq | hq
 ·obtain ⟨its,r,pl,hz⟩:=I.list hq
  refine SeqAt.in_listAt (eqU x) pl.isList (fun w hw=>s8 rx fx r fs w (by simpa using hw)) ⟨.bl _,H,I,rfl,?_⟩
  rw [show its.toArray.any (eqU x)=its.any (eqU x) by simp,pQ r fs]
  exact q
 ·obtain ⟨its,r,pl,hz⟩:=I.tuple hq
  refine SeqAt.in_tupleAt (eqU x) pl (fun w hw=>s8 rx fx r fs w (by simpa using hw)) ⟨.bl _,H,I,rfl,?_⟩
  rw [show its.toArray.any (eqU x)=its.any (eqU x) by simp,pQ r fs]
  exact q
theorem wo:CallR X (.builtin "len") (fun xs H Q=>∃ p ys,xs=[.ref p]∧(SqL X.K H p ys∨SqT X.K H p ys)∧Q (.int ys.length) H):=by
 intro pins s σ H xs us Q I r h
 obtain ⟨p,ys,rfl,hq,q⟩:=h
 obtain ⟨u,rfl,rx⟩:=Z1 r
 cases rx
 have hn:=vC
 rcases hq with hq | hq
 ·obtain ⟨its,r',pl,hz⟩:=I.list hq
  have hlen:=r'.length
  exact Calls.call_len_list pl.isList (by simp only [List.size_toArray] <;> omega) ⟨.int ys.length,H,I.tok _,⟨s.toks + 1,by rw [List.size_toArray,hlen]⟩,q⟩
 ·obtain ⟨its,r',pl,hz⟩:=I.tuple hq
  have hlen:=r'.length
  exact len_tuple pl (by simp only [List.size_toArray] <;> omega) ⟨.int ys.length,H,I.tok _,⟨s.toks + 1,by rw [List.size_toArray,hlen]⟩,q⟩
theorem CallR.or {f:Value} {r r':List V→Hp→VK→Prop} (h:CallR X f r) (h':CallR X f r'):CallR X f (fun xs H Q=>r xs H Q∨r' xs H Q):=by
 intro pins s σ H xs us Q I rs q
 rcases q with q | q
 ·exact h pins s σ H xs us Q I rs q
 ·exact h' pins s σ H xs us Q I rs q
theorem uf:CallR X (.type "list") (fun xs H Q=>∃ p ys,xs=[.ref p]∧(SqL X.K H p ys∨SqT X.K H p ys)∧∀ l,H l=none→Q (.ref l) (upd H l (.lst ys))):=by
 intro pins s σ H xs us Q I r h
 obtain ⟨p,ys,rfl,hq,q⟩:=h
 obtain ⟨u,rfl,rx⟩:=Z1 r
 cases rx
 have fin:∀ (its:List Value),Vals ys its→ys.length≤sizeLine→∀ (h':Heap) (c':Nat),(∀ b o',s.heap.get? b=some o'→h'.get? b=some o')→
   h'.get? s.heap.objs.size=some { cls:=.type "list",dict:=none,data:=.seq its.toArray c',slots:=#[] }→EP X pins σ Q (.ref s.heap.objs.size) { s with heap:=h' }:=fun its r' hz h' c' kp e=>
  ⟨.ref s.heap.objs.size,_,I.laid (t':=s.toks) kp (Nat.le_refl _) (show ObjOk X.prog X.w _ h' _ (.lst ys) from ⟨hz,its,c',r',e⟩),rfl,q _ (I.hok.fresh (Nat.le_refl _))⟩
 rcases hq with hq | hq
 ·obtain ⟨its,r',pl,hz⟩:=I.list hq
  have hlen:=r'.length
  obtain ⟨o,ho,hc,n,hd⟩:=pl.isList
  exact call_list_seq p (.inl rfl) ho hc hd (fun h' c' kp e=>fin its r' hz h' c' kp e) (by simp only [List.size_toArray] <;> omega)
 ·obtain ⟨its,r',pl,hz⟩:=I.tuple hq
  have hlen:=r'.length
  obtain ⟨o,ho,hc,n,hd⟩:=pl
  exact call_list_seq p (.inr rfl) ho hc hd (fun h' c' kp e=>fin its r' hz h' c' kp e) (by simp only [List.size_toArray] <;> omega)
def tyV (K:PySem.W.Frag) (T:String) (x:V) (H:Hp):Prop:=match x with
 | .str _=>T="str"
 | .int _=>T="int"
 | .ref p=>(T="list"∧∃ xs,SqL K H p xs)∨(T="tuple"∧∃ o,K.lookup p=some o∧o.cls=.type "tuple"∧o.dict=none)∨
   (T="dict"∧((∃ kvs,H p=some (.dK kvs))∨∃ kvs,H p=some (.dT kvs)))∨(T="set"∧∃ S n,H p=some (.set S n))
 | _=>False
theorem jw {pins:List (Addr × Obj)} {σ:St} {H:Hp} {s:Shared} {T:String} {x:V} {v:Value} (I:Inv X pins σ H s) (r:RelV x v) (ty:tyV X.K T x H):
  s.TypeIs v T∧∀ a,v=.ref a→∃ ob,s.heap.get? a=some ob∧ob.dict=none:=by
 cases x with
 | str z=>
  obtain ⟨t,rfl⟩:=r
  cases (show T="str" from ty)
  exact ⟨typeIs_str s z t,fun _ e=>nomatch e⟩
 | int i=>
  obtain ⟨t,rfl⟩:=r
  cases (show T="int" from ty)
  exact ⟨typeIs_int s i t,fun _ e=>nomatch e⟩
 | ref p=>
  cases r
  rcases ty with ⟨rfl,xs,hq⟩ | ⟨rfl,o,hk,hc,hd⟩ | ⟨rfl,hk⟩ | ⟨rfl,S,n,hk⟩
  ·obtain ⟨its,_,pl,_⟩:=I.list hq
   refine ⟨pl.isList.typeIs,fun a e=>?_⟩
   cases e
   obtain ⟨o,n,e,c,hd,_⟩:=pl
   exact ⟨o,e,hd⟩
  ·refine ⟨⟨o,I.kIn p o hk,hc⟩,fun a e=>?_⟩
   cases e
   exact ⟨o,I.kIn _ o hk,hd⟩
  ·have z:∃ o,s.heap.get? p=some o∧o.ExactDict:=by
    rcases hk with ⟨kvs,hk⟩ | ⟨kvs,hk⟩
    ·obtain ⟨_,_,_,_,o,_,_,e,ex,_⟩:=I.hok p _ hk
     exact ⟨o,e,ex⟩
    ·obtain ⟨_,_,_,_,o,_,_,e,ex,_⟩:=I.hok p _ hk
     exact ⟨o,e,ex⟩
   obtain ⟨o,e,ex⟩:=z
   refine ⟨⟨o,e,ex.1⟩,fun a e2=>?_⟩
   cases e2
   exact ⟨o,e,ex.2.1⟩
  ·obtain ⟨o,_,_,_,e,ex,_⟩:=I.hok p _ hk
   refine ⟨⟨o,e,ex.1⟩,fun a e2=>?_⟩
   cases e2
   exact ⟨o,e,ex.2.1⟩
 | _=>exact False.elim ty
def Rx (K:PySem.W.Frag) (T:String) (r:V→List V→Hp→VK→Prop) (to:TE):TE:=fun σ H Q=>to σ H fun x H1=>tyV K T x H1∧r x [] H1 Q
def tBM (K:PySem.W.Frag) (T:String) (r:V→List V→Hp→VK→Prop) (to:TE) (t:TA):TE:=fun σ H Q=>to σ H fun x H1=>tyV K T x H1∧t σ H1 fun xs H2=>r x xs H2 Q
variable {o e:Expr} {es:List Expr} {to:TE} {t:TA} {name:Str} {apos cpos:Pos} {T id:String} {r:V→List V→Hp→VK→Prop}
theorem Xa (pa:PlainAttrs T) (slot:Slot T name id) (hty:typeOf (.builtin id)=pure (.type "method_descriptor")) (hm:MtR X id r) (ho:PE X o to)
  (hbase:attributeBase o name X.env (eval o X.env)=eval o X.env:=by rfl) (hline:(apos.endLine == cpos.line)=true:=by rfl):PE X (.Call (.Attribute o name apos) [] [] cpos) (Rx X.K T r to):=by
 intro pins s σ H Q I h
 refine wpAny_Call_method0_late hbase hline (thn (ho pins s σ H _ I h) fun v s1 ⟨x,H1,I1,r1,ty,q1⟩=>?_)
 obtain ⟨h1,h2⟩:=jw I1 r1 ty
 exact ⟨T,id,pa,slot,hty,h1,h2,Calls.callWith_builtin rfl (PySem.evalArgs_none (hm pins s1 σ H1 x [] v [] Q I1 r1 .nil q1))⟩
theorem j9 (pa:PlainAttrs T) (slot:Slot T name id) (hty:typeOf (.builtin id)=pure (.type "method_descriptor")) (hm:MtR X id r) (ho:PE X o to) (ha:PA X (e::es) t)
  (hbase:attributeBase o name X.env (eval o X.env)=eval o X.env:=by rfl)
  (hfew:((backTo cpos (starEach (e::es) X.env)).all (fun x=>!x.1) && (backToKw cpos (keywordEach [] X.env)).all (fun x=>x.1.isSome)
   && decide ((e::es).length+([]:List Keyword).length+(if ([]:List Keyword).isEmpty then 0 else 1)<30))=true:=by rfl)
  (hline:(apos.endLine == cpos.line)=true:=by rfl) (hs:starEach (e::es) X.env=(false,eval e X.env)::starEach es X.env:=by rfl) (hplain:(backTo cpos (starEach es X.env)).any (·.1)=false:=by rfl):
  PE X (.Call (.Attribute o name apos) (e::es) [] cpos) (tBM X.K T r to t):=by
 intro pins s σ H Q I h
 refine wpAny_Call_method_late hbase hfew hline rfl (thn (ho pins s σ H _ I h) fun v s1 ⟨x,H1,I1,r1,ty,q1⟩=>?_)
 obtain ⟨h1,h2⟩:=jw I1 r1 ty
 refine ⟨T,id,pa,slot,hty,h1,h2,?_⟩
 have hA:=ha cpos pins s1 σ H1 _ I1 q1
 rw [hs] at hA ⊢
 refine Calls.callWith_builtin (by show (false || (backTo cpos (starEach es X.env)).any (·.1))=false; rw [hplain] <;> rfl) (Calls.evalArgs_plain ?_)
 exact thn hA fun us s2 ⟨vs,H2,I2,r2,q2⟩=>hm pins s2 σ H2 x vs v us Q I2 r1 r2 q2
end
end L2
namespace L2
open PySem PySem.Spec PyProof.Rows
def MtM (X:Cx) (id:String) (r:V→List V→Hp→VK→Prop):Prop:=
 ∀ (pins:List (Addr × Obj)) (s:Shared) (σ:St) (H:Hp) (x:V) (xs:List V) (v:Value) (us:List Value) (Q:VK),Inv X pins σ H s→RelV x v→Vals xs us→r x xs H Q→
  wpAny (model X.prog X.w) X.A (call (.builtin id) (v::us)) (EP X pins σ Q) X.xe s
theorem Vals.one:∀ {x:V} {us:List Value},Vals [x] us→∃ u,us=[u]∧RelV x u
 | _,_,.cons r .nil=>⟨_,rfl,r⟩
theorem Vals.two:∀ {x y:V} {us:List Value},Vals [x,y] us→∃ u v,us=[u,v]∧RelV x u∧RelV y v
 | _,_,_,.cons r (.cons q .nil)=>⟨_,_,rfl,r,q⟩
theorem Vals.zero:∀ {us:List Value},Vals [] us→us=[]
 | _,.nil=>rfl
theorem Vals.dropLast {xs:List V} {us:List Value} (h:Vals xs us):Vals xs.dropLast us.dropLast:=by
 induction h with
 | nil=>exact .nil
 | cons r t ih=>
  cases t with
  | nil=>exact .nil
  | cons q t'=>exact .cons r ih
theorem Vals.eraseIdx:∀ {xs:List V} {us:List Value} (i:Nat),Vals xs us→Vals (xs.eraseIdx i) (us.eraseIdx i)
 | _,_,_,.nil=>.nil
 | _,_,0,.cons _ t=>t
 | _,_,i+1,.cons r t=>.cons r (Vals.eraseIdx i t)
theorem Vals.reverse {xs:List V} {us:List Value} (h:Vals xs us):Vals xs.reverse us.reverse:=by
 induction h with
 | nil=>exact .nil
 | cons r t ih=>rw [List.reverse_cons,List.reverse_cons]; exact Vals.append ih (.cons r .nil)
theorem Vals.rep {xs:List V} {us:List Value} (h:Vals xs us):∀ k:Nat,Vals (List.replicate k xs).flatten (List.replicate k us).flatten
 | 0=>.nil
 | k+1=>by
  rw [List.replicate_succ,List.replicate_succ,List.flatten_cons,List.flatten_cons]
  exact Vals.append h (Vals.rep h k)
theorem mG {α:Type} (l:List α):l.eraseIdx (l.length - 1)=l.dropLast:=by
 induction l with
 | nil=>rfl
 | cons a r ih=>
  cases r with
  | nil=>rfl
  | cons b r=>
   have e:(a::b::r).length - 1=((b::r).length - 1)+1:=by
    have h1:(a::b::r).length=r.length+2:=rfl
    have h2:(b::r).length=r.length+1:=rfl
    omega
   rw [e,List.eraseIdx_cons_succ,ih]
   all_goals rfl
theorem qp (its:List Value):∀ (k:Nat) (acc:List Value),
  List.foldl (fun x1 x2=>x1++x2) acc.toArray (List.replicate k its.toArray)=(acc++(List.replicate k its).flatten).toArray
 | 0,acc=>by simp
 | k+1,acc=>by
  have e:acc.toArray++its.toArray=(acc++its).toArray:=by simp
  have e2:(acc++its)++(List.replicate k its).flatten=acc++(List.replicate (k+1) its).flatten:=by
   rw [List.replicate_succ,List.flatten_cons,List.append_assoc]
  rw [← e2,← qp its k (acc++its),← e,List.replicate_succ,List.foldl_cons]
section
variable {X:Cx} {pins:List (Addr × Obj)} {σ:St} {H:Hp} {s:Shared} {l b:Addr} {xs ys zs:List V}
theorem Inv.lset {its its':List Value} {n:Nat} {f:Array Value→Array Value} {t':Nat} (I:Inv X pins σ H s) (hH:H l=some (.lst xs))
  (e:s.heap.get? l=some { cls:=.type "list",data:=.seq its.toArray n }) (hf:f its.toArray=its'.toArray) (hv:Vals ys its') (hz:ys.length≤sizeLine):
  Inv X pins σ (upd H l (.lst ys)) { s with heap:=s.heap.update l (Obj.mapSeq f),toks:=t' }:=by
 have q:=PySem.IsL.update e f
 rw [hf] at q
 refine I.write (x:=l) (e:=l) (by rw [hH]; exact trivial) (.inl rfl) (fun b' u hb hu=>(Heap.get?_update_other s.heap (Obj.mapSeq f) (Ne.symm hb)).trans hu) ⟨_,q⟩ ?_
 exact ⟨hz,its',_,hv,q⟩
theorem Inv.lnew {its:List Value} {t':Nat} (I:Inv X pins σ H s) (hv:Vals ys its) (hz:ys.length≤sizeLine):
  Inv X pins σ (upd H s.heap.objs.size (.lst ys)) { s with heap:=s.heap.push { cls:=.type "list",data:=.seq its.toArray },toks:=t' }:=
 I.laid (fun _ _ q=>Heap.get?_push_of_some _ q) (Nat.le_refl _) ⟨hz,its,0,hv,Heap.get?_push_size _ rfl⟩
theorem Inv.fresh (I:Inv X pins σ H s):H s.heap.objs.size=none:=I.hok.fresh (Nat.le_refl _)
theorem Inv.lstM (I:Inv X pins σ H s) (hH:H l=some (.lst xs)):xs.length≤sizeLine∧∃ (its:List Value) (n:Nat),Vals xs its∧xs.length=its.length∧s.heap.get? l=some { cls:=.type "list",data:=.seq its.toArray n }:=by
 obtain ⟨z,its,n,r,e⟩:=I.hok l _ hH
 exact ⟨z,its,n,r,r.length,e⟩
theorem oQ {n:Nat} (h:n≤sizeLine):Builtin.List.listTooLong n=false:=by
 unfold Builtin.List.listTooLong
 exact decide_eq_false (by omega)
end
section
variable {X:Cx}
def d3:V→List V→Hp→VK→Prop:=fun x vs H Q=>∃ l xs y,x=.ref l∧vs=[y]∧H l=some (.lst xs)∧xs.length<sizeLine∧Q .non (upd H l (.lst (xs++[y])))
theorem uM:MtM X "list.append" d3:=by
 intro pins s σ H x vs v us Q I rx rv h
 obtain ⟨l,xs,y,rfl,rfl,hH,hz,q⟩:=h
 cases rx
 obtain ⟨u,rfl,ru⟩:=rv.one
 obtain ⟨z,its,n,r,hl,e⟩:=I.lstM hH
 refine call_meets F.slot_list_append ⟨_,e,rfl⟩ F.entry_list_append (F.args_list_append_2 _ _) (PySem.list_append l its.toArray n u (by rw [List.size_toArray]; omega)) ⟨e,?_⟩
 refine ⟨.non,_,I.lset (its':=its++[u]) hH e (by simp) (r.append (.cons ru .nil)) ?_,rfl,q⟩
 rw [List.length_append,List.length_singleton]
 omega
def dZ:V→List V→Hp→VK→Prop:=fun x vs H Q=>∃ l b xs zs,x=.ref l∧vs=[.ref b]∧H l=some (.lst xs)∧H b=some (.lst zs)∧xs.length+zs.length≤sizeLine∧Q .non (upd H l (.lst (xs++zs)))
theorem kX:MtM X "list.extend" dZ:=by
 intro pins s σ H x vs v us Q I rx rv h
 obtain ⟨l,b,xs,zs,rfl,rfl,hH,hB,hz,q⟩:=h
 cases rx
 obtain ⟨u,rfl,ru⟩:=rv.one
 cases ru
 obtain ⟨z,its,n,r,hl,e⟩:=I.lstM hH
 obtain ⟨z2,its2,n2,r2,hl2,e2⟩:=I.lstM hB
 have hsz:its.toArray.size+its2.toArray.size≤sizeLine:=by rw [List.size_toArray,List.size_toArray]; omega
 have hlong:¬ (!its.toArray.isEmpty && Builtin.List.listTooLong (its.toArray.size+its2.toArray.size))=true:=by
  rw [oQ hsz,Bool.and_false]
  exact Bool.false_ne_true
 refine call_meets F.slot_list_extend ⟨_,e,rfl⟩ F.entry_list_extend (F.args_list_extend_2 _ _)
  (AutoSeq1.list_extend_list_list_0 l its.toArray n b its2.toArray n2 hlong (by rw [List.size_toArray]; omega) (by omega)) ⟨e,e2,?_⟩
 refine ⟨.non,_,I.lset (its':=its++its2) hH e (by simp) (r.append r2) ?_,rfl,q⟩
 rw [List.length_append]
 omega
def RG:V→List V→Hp→VK→Prop:=fun x vs H Q=>∃ l xs y,x=.ref l∧vs=[]∧H l=some (.lst xs)∧xs[xs.length - 1]? = some y∧Q y (upd H l (.lst xs.dropLast))
theorem V1:MtM X "list.pop" RG:=by
 intro pins s σ H x vs v us Q I rx rv h
 obtain ⟨l,xs,y,rfl,rfl,hH,hy,q⟩:=h
 cases rx
 have hus:=rv.zero
 subst hus
 obtain ⟨z,its,n,r,hl,e⟩:=I.lstM hH
 obtain ⟨u,hu,ru⟩:=r.get hy
 have hy':its.toArray[its.toArray.size - 1]? = some u:=by
  show its.toArray[its.length - 1]? = some u
  rw [← Array.getElem?_toList,← hl]
  exact hu
 refine call_meets F.slot_list_pop ⟨_,e,rfl⟩ F.entry_list_pop (F.args_list_pop_1 _) (MeetsSeq.list_pop_last l its.toArray n u hy' (by rw [List.size_toArray]; omega)) ⟨e,?_⟩
 refine ⟨y,_,I.lset (its':=its.dropLast) hH e ?_ r.dropLast ?_,ru,q⟩
 ·show its.toArray.eraseIdxIfInBounds (its.toArray.size - 1)=its.dropLast.toArray
  rw [List.size_toArray,List.eraseIdxIfInBounds_toArray,mG]
 ·rw [List.length_dropLast]
  omega
def RH:R2:=fun x y H Q=>∃ l b xs zs,x=.ref l∧y=.ref b∧H l=some (.lst xs)∧H b=some (.lst zs)∧xs.length+zs.length≤sizeLine∧∀ p,H p=none→Q (.ref p) (upd H p (.lst (xs++zs)))
theorem Xh:OpR X (binaryOp .Add) RH:=by
 intro pins s σ H x y v u Q I rx ry h
 obtain ⟨l,b,xs,zs,rfl,rfl,hH,hB,hz,q⟩:=h
 cases rx
 cases ry
 obtain ⟨z,its,n,r,hl,e⟩:=I.lstM hH
 obtain ⟨z2,its2,n2,r2,hl2,e2⟩:=I.lstM hB
 refine PySem.P.add_list e e2 ?_ (by rw [List.size_toArray,List.size_toArray]; omega)
 have ea:its.toArray++its2.toArray=(its++its2).toArray:=by simp
 rw [ea]
 exact ⟨.ref _,_,I.lnew (t':=s.toks) (r.append r2) (by rw [List.length_append]; omega),rfl,q _ I.fresh⟩
def RF:R2:=fun x y H Q=>∃ l k xs,x=.ref l∧y=.int k∧H l=some (.lst xs)∧-(2 ^ 63)≤k∧k<2 ^ 63∧xs.length*k.toNat≤sizeLine∧
 ∀ p,H p=none→Q (.ref p) (upd H p (.lst (List.replicate k.toNat xs).flatten))
theorem Zr {α:Type} (xs:List α) (k:Nat):(List.replicate k xs).flatten.length=k*xs.length:=by
 induction k with
 | zero=>simp
 | succ k ih=>rw [List.replicate_succ,List.flatten_cons,List.length_append,ih,Nat.succ_mul,Nat.add_comm]
theorem Xg:OpR X (binaryOp .Mult) RF:=by
 intro pins s σ H x y v u Q I rx ry h
 obtain ⟨l,k,xs,rfl,rfl,hH,h1,h2,hz,q⟩:=h
 cases rx
 obtain ⟨t,rfl⟩:=ry
 obtain ⟨z,its,n,r,hl,e⟩:=I.lstM hH
 have hlen:its.toArray.size*k.toNat≤sizeLine:=by rw [List.size_toArray,← hl]; exact hz
 have hcap:¬ its.toArray.size*k.toNat>(2 ^ 63 - 1) / 8:=by
  have:(sizeLine:Nat)≤(2 ^ 63 - 1) / 8:=by decide
  omega
 have hfit:¬ (!Builtin.List.listFitsIndex k)=true:=by
  rw [fitsIndex_both h1 h2]
  exact Bool.false_ne_true
 have hlong:¬ Builtin.List.listTooLong (its.toArray.size*k.toNat)=true:=by
  rw [oQ hlen]
  exact Bool.false_ne_true
 have hnew:List.foldl (fun x1 x2=>x1++x2) #[] (List.replicate (if its.toArray.isEmpty=true then 0 else k.toNat) its.toArray)=(List.replicate k.toNat its).flatten.toArray:=by
  have f0:∀ m:Nat,List.foldl (fun x1 x2=>x1++x2) #[] (List.replicate m its.toArray)=(List.replicate m its).flatten.toArray:=fun m=>by
   have:=qp its m []
   rw [List.nil_append] at this
   exact this
  rw [f0]
  cases its with
  | nil=>simp
  | cons a r'=>rw [if_neg (by simp)]
 refine wpAny_binaryOp_repeat_ref (T:="list") (U:="int") (by decide) ⟨_,e,rfl⟩ (fun s'=>typeIs_int s' k t) noFill_list_mul F.fills_int_mul F.slot_int_rmul repeat_list F.slot_int_index.lookup
  (call_meets F.slot_int_rmul (typeIs_int s k t) F.entry_int_rmul (F.args_int_rmul_2 _ _) (int___rmul___int_list k t l its.toArray n)
   ⟨e,rfl,⟨_,e,rfl⟩,call_meets F.slot_list_mul ⟨_,e,rfl⟩ F.entry_list_mul (F.args_list_mul_2 _ _) (AutoListH.list___mul___list_int_3 l its.toArray n k t hfit hcap hlong) ⟨e,?_⟩⟩)
 rw [hnew]
 exact ⟨.ref _,_,I.lnew (t':=s.toks) (r.rep k.toNat) (by rw [Zr,Nat.mul_comm]; exact hz),rfl,q _ I.fresh⟩
end
section
variable {prog:Program} {w:World} {A:Around} {E:Value→Shared→Prop} {s:Shared}
set_option maxRecDepth 100000 in
end
section
variable {X:Cx}
end
end L2
namespace Att
open PySem PySem.W PySem.Calls PyProof.Rows
theorem tO {P:Params} {h:Heap}:∀ (ns:List Int) (vs:List Value),WellAll P h vs (ns.map WData.int)→IntsAre vs ns:=by
 intro ns
 induction ns with
 | nil=>
  intro vs w
  rw [List.map_nil] at w
  cases w
  exact .nil
 | cons n ns ih=>
  intro vs w
  rw [List.map_cons] at w
  cases w with
  | cons a b=>
   cases a
   exact .cons _ _ (ih _ b)
theorem kv {l:OpenLaw} {n:Nat} (hn:l.most=some n) {P:Params} {h:Heap} {args:List WData} {vals:List Value}
  (hpre:l.row.toRowW.claim.pre args=true) (hwl:WellAll P h vals args):
  ∃ a vs ns,vals=[Value.ref a]∧args=[WData.list (ns.map WData.int)]∧h.get? a=some { cls:=.type "list",data:=.seq vs.toArray }∧IntsAre vs ns∧ns.length≤n:=by
 have hsh:WShape.hasAll [] args [.list .int]=true:=(pre_splitW hpre).1
 have hc:l.pre.holds [] { args:=args }=true:=(pre_splitW hpre).2
 obtain ⟨d,r,rfl,h1,h2⟩:=hasAllW_cons hsh
 obtain rfl:=hasAllW_nil h2
 obtain ⟨xs,rfl,h3⟩:=hasW_list h1
 obtain ⟨ns,rfl⟩:=items_int h3
 have hlen:ns.length≤n:=by
  unfold OpenLaw.pre at hc
  have h4:(WTm.not (.lt (.lit (.int (n:Int))) (.len (.arg 0)))).holds [] { args:=[.list (ns.map .int)] }=true:=by
   have h4:=(holds_andW hc).1
   rw [hn] at h4
   exact h4
  have h5:=condW_of h4 (w_not (w_lt w_lit (w_len_list (w_arg rfl))))
  rw [List.length_map] at h5
  refine Nat.le_of_not_lt fun q=>?_
  have q':(n:Int)<((ns.length:Nat):Int):=by omega
  first
   | (rw [decide_eq_true q'] at h5; exact absurd h5 (by decide))
   | (simp at h5; omega)
 cases hwl with
 | cons w1 w2=>
  cases w2
  cases w1 with
  | list ho hall=>exact ⟨_,_,ns,rfl,rfl,ho,tO ns _ hall,hlen⟩
theorem kA (l:OpenLaw) (args:List WData):l.row.toRowW.claim.post args (.bool true) args=true:=
 postW_of (r:=l.row.toRowW) (X:=(true == true))
  (show WShape.has [] (.bool true) .bool=true by first | rfl | decide | simp [WShape.has,WShape.arms,WShape.armsAll])
  (show (WTm.eq .res (.lit (.bool true))).value [] { args:=args,res:=some (.bool true),after:=args }=some (.bool (true == true)) from w_eq_bool (w_res rfl) w_lit) rfl
theorem attach_call {l:OpenLaw} {n:Nat} {q:Program} {loose:List Str} {XP:(Str→Option Value)→Heap→Prop} {YP:World→Heap→Prop} {d:DefRec}
  (hn:l.most=some n) (hdf:d.params.defaults=[])
  (call:∀ (w:World) (s₀ s₁:Shared) (mg mb:Str→Option Value) (fa:Addr) (o:Obj) (pm cd doc:Value) (a:Addr) (vs:List Value) (ns:List Int),
   Ground q loose [] XP w s₀ mg mb s₁.heap→YP w s₁.heap→
   s₁.heap.get? fa=some o→o.data=.func (docDef d.name d.params d.body d.scope pm cd doc)→s₁.heap.CodeRec cd d.name→mg d.name=some (.ref fa)→
   s₁.heap.get? a=some { cls:=.type "list",data:=.seq vs.toArray }→IntsAre vs ns→ns.length≤n→s₁.gens=#[]→
   codeAny (model l.prog w) callerA (.call (.ref fa) ⟨[.ref a],[]⟩) (fun r s'=>r=.ok (.ret (.bool true))∧OldK s₁.heap s'.heap∧s'.os=s₁.os∧AllBare s'.gens) s₁):
  WalkO q loose XP YP l.row.toRowW d [] (fun f vs=>PySem.call f vs):=by
 intro w s₀ s₁ mg mb G Y fa o pm cd doc dV kV ho hd hcd hD hmg hg args vals as hpre hlay hrd hwl hlo
 obtain rfl:dV=.none:=Dflts.none hD hdf
 obtain rfl:kV=.none:=Dflts.noKw hD
 obtain ⟨a,vs,ns,rfl,rfl,hobj,hints,hlen⟩:=kv hn hpre hwl
 refine enter_call (codeAny_mono (call w s₀ s₁ mg mb fa o pm cd doc a vs ns G Y ho (fd_plain hd) hcd hmg hobj hints hlen hg) fun r s' hq=>?_)
 obtain ⟨rfl,h2,h3,h4⟩:=hq
 exact ⟨.inl ⟨.bool true,.bool true,[],rfl,fun _=>rfl,.bool true,kA l _,fun _=>⟨List.Pairwise.nil,fun _ hm=>(nomatch hm)⟩⟩,h2,h3,h4⟩
section
variable {prog:Program} {w:World} {A:Around} {E:Value→Shared→Prop} {s:Shared} {K:Frag}
def RS (h:Heap) (L d:Addr):List (Addr × Obj):=(List.range h.objs.size).filterMap fun a=>if a=L∨a=d then none else (h.get? a).map fun o=>(a,o)
end
end Att
namespace L2
open PySem PySem.Spec PyProof.Rows
theorem qd:∀ {vs:List Value} {ns:List Int},IntsAre vs ns→Vals (ns.map V.int) vs
 | _,_,.nil=>.nil
 | _,_,.cons n t h=>.cons ⟨t,rfl⟩ (qd h)
def UH (H:Hp):Prop:=∀ b,H b=none∨∃ o xs,H b=some (.frz o (.lst xs))
theorem fC {P:Program} {w:World} {K:PySem.W.Frag} {mg mb:Str→Option Value} {CX:CXT} {k:Nat} {fa a:Addr} {fd:FuncData} {x:Str} {sp:Sp} {s₁:Shared} {vs:List Value} {ns:List Int}
  (KX:K.In s₁.heap) (hns:s₁.heap.Ns mainGlobals mg) (hb:s₁.heap.Ns builtinsNs mb) (hbb:∀ x:Str,x≠"__name__"→mb x=bootBuiltins x) (hlim:s₁.heap.NoLimit) (hg:s₁.gens=#[])
  (ha:s₁.heap.get? a=some { cls:=.type "list",data:=.seq vs.toArray }) (hi:IntsAre vs ns) (hl:ns.length≤sizeLine) (hr:Room k callerA)
  (F:∀ base:Heap,K.In base→base.Ns mainGlobals mg→FnOk P w K mg base CX k fa fd [x] sp) (hbind:∀ (s:Shared) (u:Value),BindsTo s fd ⟨[u],[]⟩ [(x,u)])
  (hsp:∀ H:Hp,UH H→SqL K H a (ns.map V.int)→sp [.ref a] H (fun v _=>v=.bl true) fun _ _ _=>False)
  (hCX:∀ H e s',CX [] H s₁ (fun _ _ _=>False) e s'→False):
  codeAny (model P w) callerA (.call (.ref fa) ⟨[.ref a],[]⟩) (fun r s'=>r=.ok (.ret (.bool true))∧OldK s₁.heap s'.heap∧s'.os=s₁.os∧AllBare s'.gens) s₁:=by
 have rv:=qd hi
 have lenV:=hi.length
 have core:∀ H:Hp,UH H→SqL K H a (ns.map V.int)→HOk P w H s₁.heap→(∀ b,H b≠none→b=a)→(H a≠none→K.lookup a=none)→
   codeAny (model P w) callerA (.call (.ref fa) ⟨[.ref a],[]⟩) (fun r s'=>r=.ok (.ret (.bool true))∧OldK s₁.heap s'.heap∧s'.os=s₁.os∧AllBare s'.gens) s₁:=by
  intro H hO hS hok hA hK
  have base_of:∀ {b:Addr} {o:Obj},s₁.heap.get? b=some o→H b=none→(pD s₁.heap H).get? b=some o:=fun e n=>fI e n
  have noA:∀ {b:Addr} {o:Obj} {es:Array DictEntry} {ep:Nat},s₁.heap.get? b=some o→o.data=.dict es ep→H b=none:=fun {b o es ep} e d=>by
   cases q:H b with
   | none=>rfl
   | some u=>
    have e':b=a:=hA b (by rw [q]; simp)
    subst e'
    rw [ha] at e; cases e
    have d':Data.seq vs.toArray _=Data.dict es ep:=d
    cases d'
  have nsK:∀ {b:Addr} {m:Str→Option Value},s₁.heap.Ns b m→(pD s₁.heap H).Ns b m:=fun {b m} ⟨o,es,ep,e,d,r⟩=>⟨o,es,ep,base_of e (noA e d),d,r⟩
  have hKb:K.In (pD s₁.heap H):=fun b o e=>base_of (KX b o e) (by
   cases q:H b with
   | none=>rfl
   | some u=>
    have e':b=a:=hA b (by rw [q]; simp)
    subst e'
    rw [hK (by rw [q]; simp)] at e; cases e)
  have hM:Mod K mg (pD s₁.heap H):=⟨hKb,nsK hns,⟨mb,nsK hb,hbb⟩,let ⟨mc,h1,h2⟩:=hlim; ⟨mc,nsK h1,h2⟩⟩
  have e0:Env0 P w K mg (pD s₁.heap H) callerA [] s₁ H:=⟨rfl,hM,fun b o e=>cx e,Nat.le_of_eq (jd _ _),trivial,fun b hb=>absurd (show b∈([]:List Addr) from hb) (by simp),hok,.of_eq hg⟩
  refine codeAny_mono ((F _ hKb (nsK hns)).run callerA [] s₁ H ⟨[.ref a],[]⟩ [.ref a] [.ref a] _ _ hr e0 (hbind s₁ (.ref a)) (.cons rfl .nil) (hsp H hO hS)) fun r s' h=>?_
  cases r with
  | error e=>exact (hCX H e s' h).elim
  | ok fl=>
   cases fl with
   | next=>exact False.elim h
   | brk=>exact False.elim h
   | cont=>exact False.elim h
   | ret u=>
    obtain ⟨v,H',os,bare,un,hok',r',q⟩:=h
    have q':v=.bl true:=q
    subst q'
    obtain rfl:u=Value.bool true:=r'
    refine ⟨rfl,OldK.of_keep fun b o e=>?_,os,bare⟩
    cases q:H b with
    | none=>exact un.keep b o e q (by intro z; exact absurd (show b∈([]:List Addr) from z) (by simp)) (by simp)
    | some u=>
     rcases hO b with z | ⟨ob,xs,z⟩
     ·rw [q] at z; cases z
     ·have z2:=un.frzs b ob _ z
      obtain ⟨e1,_⟩:=hok b _ z
      obtain ⟨e2,_⟩:=hok' b _ z2
      rw [e] at e1; cases e1
      exact e2
 cases hk:K.lookup a with
 | some o=>
  have e:=KX a o hk
  rw [ha] at e
  cases e
  refine core (fun _=>none) (fun _=>.inl rfl) (.inr ⟨_,vs.toArray,_,hk,rfl,rfl,rfl,by rw [List.size_toArray,lenV]; exact hl,by simpa using rv⟩) (fun b u z=>by have z':(none:Option HO)=some u:=z; cases z') (fun b z=>absurd rfl z) fun z=>absurd rfl z
 | none=>
  refine core (fun b=>if b=a then some (.frz { cls:=.type "list",data:=.seq vs.toArray } (.lst (ns.map V.int))) else none) (fun b=>?_) (.inl (.inr ⟨{ cls:=.type "list",data:=.seq vs.toArray },if_pos rfl⟩)) (fun b u z=>?_) (fun b z=>?_) fun _=>hk
  ·by_cases hb:b=a
   ·exact .inr ⟨_,_,if_pos hb⟩
   ·exact .inl (if_neg hb)
  ·by_cases hb:b=a
   ·have z':=(if_pos hb).symm.trans z
    cases z'
    subst hb
    exact ⟨ha,by rw [List.length_map]; exact hl,vs,_,rv,ha⟩
   ·have z':=(if_neg hb).symm.trans z
    cases z'
  ·by_cases hb:b=a
   ·exact hb
   ·exact absurd (if_neg hb) z
end L2
namespace L2
open PySem PySem.Spec PyProof.Rows
abbrev KOf {K:PySem.W.Frag} {h:Heap} (_:K.In h):PySem.W.Frag:=K
theorem walk_of {l:PySem.W.OpenLaw} {n k:Nat} {q:Program} {loose:List Str} {XP:(Str→Option Value)→Heap→Prop} {YP:World→Heap→Prop} {d:DefRec} {K:Params→PySem.W.Frag} {CX:World→CXT} {sp:World→Sp} {x:Str}
  (hn:l.most=some n) (hn2:n≤sizeLine) (hdf:d.params.defaults=[]) (hr:Room k callerA)
  (hY:∀ (w:World) (h:Heap),YP w h→(K w.params).In h)
  (F:∀ (w:World) (mg:Str→Option Value) (fa:Addr) (h:Heap),(K w.params).In h→h.Ns mainGlobals mg→mg d.name=some (.ref fa)→
   ∃ fd:FuncData,(∀ (s:Shared) (u:Value),BindsTo s fd ⟨[u],[]⟩ [(x,u)])∧
    ∀ base:Heap,(K w.params).In base→base.Ns mainGlobals mg→FnOk l.prog w (K w.params) mg base (CX w) k fa fd [x] (sp w))
  (hsp:∀ (w:World) (H:Hp) (a:Addr) (ns:List Int),ns.length≤n→UH H→SqL (K w.params) H a (ns.map V.int)→sp w [.ref a] H (fun v _=>v=.bl true) fun _ _ _=>False)
  (hCX:∀ (w:World) (H:Hp) (s:Shared) (e:Value) (s':Shared),CX w [] H s (fun _ _ _=>False) e s'→False):
  PySem.W.WalkO q loose XP YP l.row.toRowW d [] (fun f vs=>PySem.call f vs):=by
 refine Att.attach_call hn hdf fun w s₀ s₁ mg mb fa o pm cd doc a vs ns G Y ho hd hcd hmg hobj hints hlen hg=>?_
 have KX:=hY w _ Y
 obtain ⟨fd,hb,hF⟩:=F w mg fa _ KX G.T.g hmg
 exact fC KX G.T.g G.T.b G.T.builtins G.T.nolimit hg hobj hints (Nat.le_trans hlen hn2) hr hF hb (fun H hO hS=>hsp w H a ns hlen hO hS) fun H e s'=>hCX w H s₁ e s'
end L2
namespace L2
open PySem PySem.Spec PyProof.Rows
def inClass (s:Stmt) (j:Nat):Stmt:=match s with
 | .ClassDef _ _ _ body _ _ _ _ _ _ _=>body.getD j (.Pass ⟨0,0,0,0⟩)
 | _=>.Pass ⟨0,0,0,0⟩
def defArgs (s:Stmt):Arguments:=match s with
 | .FunctionDef _ a _ _ _ _ _ _ _ _=>a
 | _=>{ posonlyargs:=[],args:=[],vararg:=none,kwonlyargs:=[],kw_defaults:=[],kwarg:=none,defaults:=[] }
def defBody (s:Stmt):List Stmt:=match s with
 | .FunctionDef _ _ b _ _ _ _ _ _ _=>b
 | _=>[]
def defScope (s:Stmt):Scope:=match s with
 | .FunctionDef _ _ _ _ _ _ sc _ _ _=>sc
 | _=>{ kind:=.function,names:=[],isGenerator:=false,isCoroutine:=false }
abbrev CX0:CXT:=fun _ _ _ _ _ _=>False
abbrev E0:XK:=fun _ _ _=>False
theorem sK {X:Cx}:u5 CX0 X E0:=fun _ _ _ _ _ _ _ h=>h.elim
structure Fun (K:PySem.W.Frag) (x qual:Str) (st:Stmt) (f:Addr) (fd:FuncData):Prop where
 ex:∃ (oc:Value) (od:Option Addr) (kV doc pm:Value) (an:Option Addr) (cdv ct:Value) (osl:Array (Option Value)),
  fd=PySem.W.fnOf x qual (defArgs st) (defBody st) (defScope st) .none kV doc pm an cdv ct∧K.lookup f=some ⟨oc,od,.func fd,osl⟩∧PySem.W.codeIn K cdv qual=true
 kp:PySem.W.keepIn K (.ref f)=true
section
variable {P:Program} {w:World} {K:PySem.W.Frag} {mg:Str→Option Value} {base:Heap}
theorem Fun.ok {x qual:Str} {st:Stmt} {f:Addr} {fd:FuncData} {N ps:List Str} {k:Nat} {sp:Sp} (F:Fun K x qual st f fd) (S:zh N ps (defScope st)) (len:∀ vs H Q E,sp vs H Q E→vs.length=ps.length)
  (hbody:∀ (cdv:Value) (A:Around) (outer:List Env) (s:Shared) (H:Hp) (vs:List V) (Q:VK) (E:XK),Room k (A.deeper (envOfC qual (defScope st) s.heap.objs.size f cdv))→sp vs H Q E→
   ∃ t,PSs (yu CX0 P w K mg base N qual (defScope st) f cdv A outer s H E).nox (defBody st) t∧t { nx:=fun _ H'=>Q .non H',rt:=Q } (start N vs) H):FnOk P w K mg base CX0 (k+1) f fd ps sp:=by
 obtain ⟨oc,od,kV,doc,pm,an,cdv,ct,osl,rfl,lk,hcd⟩:=F.ex
 refine Yi lk hcd S len fun A outer s H vs Q E hr hsp=>?_
 obtain ⟨t,h,q⟩:=hbody cdv A outer s H vs Q E hr hsp
 exact ⟨t,h.nox,q⟩
theorem Fun.binds {x qual:Str} {st:Stmt} {f:Addr} {fd:FuncData} {ps:List Str} (F:Fun K x qual st f fd)
  (h:∀ (kV doc pm:Value) (an:Option Addr) (cdv ct:Value) (us:List Value),us.length=ps.length→bindArgs (PySem.W.fnOf x qual (defArgs st) (defBody st) (defScope st) .none kV doc pm an cdv ct) ⟨us,[]⟩=pure (ps.zip us)):Binds K fd ps []:=by
 obtain ⟨oc,od,kV,doc,pm,an,cdv,ct,osl,rfl,lk,hcd⟩:=F.ex
 exact .all (h kV doc pm an cdv ct)
theorem mE {x qual:Str} {st:Stmt} {f:Addr} {oc:Value} {od an:Option Addr} {osl:Array (Option Value)} {kV doc pm cdv ct:Value} (l:K.lookup f=some ⟨oc,od,.func (PySem.W.fnOf x qual (defArgs st) (defBody st) (defScope st) .none kV doc pm an cdv ct),osl⟩)
  (c:PySem.W.codeIn K cdv qual=true) (k:PySem.W.keepIn K (.ref f)=true):Fun K x qual st f (PySem.W.fnOf x qual (defArgs st) (defBody st) (defScope st) .none kV doc pm an cdv ct):=⟨⟨oc,od,kV,doc,pm,an,cdv,ct,osl,rfl,l,c⟩,k⟩
end
section
variable {X:Cx}
theorem pv (i:Nat) {x:Str} {pos:Pos} (hN:X.N[i]? = some x:=by rfl) (hv:Vis X.env.scope x:=by first | exact Or.inl rfl | exact Or.inr (Or.inl rfl) | exact Or.inr (Or.inr rfl)) (hd:(x == ("__debug__":Str))=false:=by decide)
  (hcd:(x == ("__classdict__":Str))=false:=by decide):PE X (.Name x pos) (dM i):=z5 hN hv hd hcd
end
theorem RW {A B:Prop} (h:B):if false=true then A else B:=by
 rw [if_neg Bool.false_ne_true]
 exact h
theorem RV {A B:Prop} (h:A):if true=true then A else B:=by
 rw [if_pos rfl]
 exact h
theorem Sh {c A B:Prop} [Decidable c] (h1:c→A) (h2:¬ c→B):if c then A else B:=by
 by_cases h:c
 ·rw [if_pos h]
  exact h1 h
 ·rw [if_neg h]
  exact h2 h
def Same (H H':Hp):Prop:=∀ b o,H b=some o→H' b=some o
theorem Same.refl (H:Hp):Same H H:=fun _ _ h=>h
theorem Same.trans {H H1 H2:Hp} (a:Same H H1) (b:Same H1 H2):Same H H2:=fun c o h=>b c o (a c o h)
theorem Same.free {H H':Hp} (e:Same H H') {l:Addr} (h:H' l=Option.none):H l=Option.none:=by
 cases q:H l with
 | none=>rfl
 | some o=>
  rw [e l o q] at h
  cases h
theorem Same.seq {K:PySem.W.Frag} {H H':Hp} {a:Addr} {xs:List V} (e:Same H H') (h:SqL K H a xs):SqL K H' a xs:=by
 rcases h with (h | ⟨o,h⟩) | h
 ·exact .inl (.inl (e _ _ h))
 ·exact .inl (.inr ⟨o,e _ _ h⟩)
 ·exact .inr h
end L2
set_option maxRecDepth 1000000
set_option maxHeartbeats 0
open PySem in
def My.top (i:Nat):Stmt:=PySem.Challenge.pw_oddbases_k32_differences.main.body.getD i (.Pass ⟨0,0,0,0⟩)
noncomputable section
open PySem My
namespace My
abbrev v_:Option Value:=some (.ref 6)
abbrev g_:Array GenState:=⟨[]⟩
abbrev d_:=@Drawn.mk 0 0 0 0
abbrev P_:=@Pos.mk
abbrev N_ (o:Params→Obj) (a b:Params→W.BT) (x:Params):W.BT:=.node (o x) (a x) (b x)
abbrev Z_ (_:Params):W.BT:=.nil
abbrev L_ (o:Params→Obj):=N_ o Z_ Z_
theorem sg_ {tb p w n₀ ann b} {n:Nat} {s s':W.SharedT} {t:Thread} {f:Flow} {c:Code} {q:Pos} (h:W.segRunT tb p w n₀ ann b n s t=some (f,s',c,q)):W.segRun tb p w n₀ ann b n s.abs t=some (f,s'.abs,c,q):=W.segRun_of h
abbrev p_ (a:String) (b:Nat):Value:=.str (.ofString a) b
abbrev j_ (a:Int) (b:Nat):Value:=.int a b
abbrev r_ (a:Nat):Value:=.ref a
abbrev e_ (x:Params) (a:String) (b:Nat) (v:Value):DictEntry:=⟨PyData.keyHash x (.ofString a),.str (.ofString a) b,v⟩
abbrev t0 (a1:String) (a3:Nat) (a7:String) (a8 a9:Nat) (x:Params):Obj:=(@Obj.mk (.type "function") none (@Data.func (@FuncData.mk (.ofString a1) (.ofString a1) (L2.defArgs (My.top a3)) (@FuncBody.stmts (L2.defBody (My.top a3))) (L2.defScope (My.top a3)) 3 (@List.nil (@Prod @Str @Nat)) .none .none .none (p_ a7 a8) none (r_ a9) .none 0)) #[])
abbrev t1 (a1:String) (a2:Nat) (a3:String) (a4 a6:Nat) (a7 a9:Int) (a17 a20 a21 a22 a23:Nat) (a24:Int) (a29:Nat) (x:Params):Obj:=(@Obj.mk (.type "code") none (@Data.fields (List.toArray [(p_ a1 a2),(p_ a3 a4),(p_ "/claim/cut.py" a6),(j_ a7 0),(j_ a9 0),(j_ 0 0),(j_ 0 0),(j_ 3 0),(r_ a17),(.bool @Bool.true),(j_ 181 0),(r_ a20),.none,(r_ a21),(r_ a22),(r_ a23),(j_ a24 0),(j_ a7 0),(p_ "/claim/cut.py" a29)])) #[])
abbrev t2 (a0:String) (a2:Nat) (x:Params):Obj:=(@Obj.mk .none none (@Data.func (@FuncData.mk (.ofString a0) (.ofString a0) (L2.defArgs (My.top a2)) (@FuncBody.stmts (L2.defBody (My.top a2))) (L2.defScope (My.top a2)) 0 (@List.nil (@Prod @Str @Nat)) .none .none .none .none none .none .none 0)) #[])
abbrev t3 (x:Params):Obj:=(@Obj.mk (.type "tuple") none (@Data.seq #[] 0) #[])
abbrev t4 (a1:String) (a2:Nat) (a3:String) (a4:Nat) (a5:String) (a6:Nat) (a7:String) (a8:Nat) (a9:String) (a10:Nat) (a11:String) (a12:Nat) (x:Params):Obj:=(@Obj.mk (.type "tuple") none (@Data.seq (List.toArray [(p_ a1 a2),(p_ a3 a4),(p_ a5 a6),(p_ a7 a8),(p_ a9 a10),(p_ a11 a12)]) 0) #[])
abbrev t5 (x:Params):Obj:=(@Obj.mk .none none (@Data.fields #[]) #[])
abbrev t6 (a1:String) (a2:Nat) (a3:String) (a4:Nat) (a5:String) (a6:Nat) (x:Params):Obj:=(@Obj.mk (.type "tuple") none (@Data.seq (List.toArray [(p_ a1 a2),(p_ a3 a4),(p_ a5 a6)]) 0) #[])
abbrev t7 (a1:String) (a2 a4 a6:Nat) (a7 a9:Int) (a17 a20 a21:Nat) (a22:Int) (a27:Nat) (x:Params):Obj:=(@Obj.mk (.type "code") none (@Data.fields (List.toArray [(p_ a1 a2),(p_ a1 a4),(p_ "/claim/cut.py" a6),(j_ a7 0),(j_ a9 0),(j_ 0 0),(j_ 0 0),(j_ 3 0),(r_ a17),(.bool @Bool.true),(j_ 181 0),(r_ a20),.none,.none,.none,(r_ a21),(j_ a22 0),(j_ a7 0),(p_ "/claim/cut.py" a27)])) #[])
abbrev t8 (a1:String) (a2:Nat) (a3:String) (a4:Nat) (a5:String) (a6:Nat) (a7:String) (a8:Nat) (a9:String) (a10:Nat) (x:Params):Obj:=(@Obj.mk (.type "tuple") none (@Data.seq (List.toArray [(p_ a1 a2),(p_ a3 a4),(p_ a5 a6),(p_ a7 a8),(p_ a9 a10)]) 0) #[])
abbrev t9 (a1:String) (a2:Nat) (a3:String) (a4:Nat) (x:Params):Obj:=(@Obj.mk (.type "tuple") none (@Data.seq (List.toArray [(p_ a1 a2),(p_ a3 a4)]) 0) #[])
abbrev t10 (a1:String) (a2:Nat) (x:Params):Obj:=(@Obj.mk (.type "tuple") none (@Data.seq (List.toArray [(p_ a1 a2)]) 0) #[])
abbrev t11 (a1:String) (a2:Nat) (a3:String) (a4:Nat) (a5:String) (a6:Nat) (a7:String) (a8:Nat) (x:Params):Obj:=(@Obj.mk (.type "tuple") none (@Data.seq (List.toArray [(p_ a1 a2),(p_ a3 a4),(p_ a5 a6),(p_ a7 a8)]) 0) #[])
abbrev t12 (a1:String) (a2:Nat) (a3:String) (a4:Nat) (a5:String) (a6:Nat) (a7:String) (a8:Nat) (a9:String) (a10:Nat) (a11:String) (a12:Nat) (a13:String) (a14:Nat) (x:Params):Obj:=(@Obj.mk (.type "tuple") none (@Data.seq (List.toArray [(p_ a1 a2),(p_ a3 a4),(p_ a5 a6),(p_ a7 a8),(p_ a9 a10),(p_ a11 a12),(p_ a13 a14)]) 0) #[])
abbrev t13 (a2:Nat) (x:Params):Obj:=(@Obj.mk (.type "builtin_function_or_method") none (@Data.fields (List.toArray [(.builtin "object.__init_subclass__"),(r_ a2)])) #[])
abbrev t14 (a1:Nat) (x:Params):Obj:=(@Obj.mk (.type "super") none (@Data.fields (List.toArray [(r_ a1),(r_ a1),(r_ a1)])) #[])
abbrev t15 (a1:String) (a3 a6 a8 a10 a12:Nat) (x:Params):Obj:=(@Obj.mk (.type "type") none (@Data.cls (@ClassData.mk (.ofString a1) [(r_ 286)] [(r_ a3),(r_ 286),(.type "object")] a6 (.ofString a1) @Bool.true [] [] @Bool.false (@Option.none @Bool) @Bool.false)) (@List.toArray (@Option @Value) [(some (r_ a8)),none,(some (p_ a1 a10)),(some (p_ a1 a12)),(some (.builtin "object.__new__")),(some (.bool @Bool.true))]))
abbrev t16 (a1 a2:String) (a3 a4 a12:Nat) (x:Params):Obj:=(@Obj.mk (.type "function") none (@Data.func (@FuncData.mk (.ofString a1) (.ofString a2) (L2.defArgs (L2.inClass (My.top a3) a4)) (@FuncBody.stmts (L2.defBody (L2.inClass (My.top a3) a4))) (L2.defScope (L2.inClass (My.top a3) a4)) 3 (@List.nil (@Prod @Str @Nat)) .none .none .none (p_ "oddbases.ways" 467) none (r_ a12) .none 0)) #[])
abbrev t17 (a0 a1:String) (a2 a3:Nat) (x:Params):Obj:=(@Obj.mk .none none (@Data.func (@FuncData.mk (.ofString a0) (.ofString a1) (L2.defArgs (L2.inClass (My.top a2) a3)) (@FuncBody.stmts (L2.defBody (L2.inClass (My.top a2) a3))) (L2.defScope (L2.inClass (My.top a2) a3)) 0 (@List.nil (@Prod @Str @Nat)) .none .none .none .none none .none .none 0)) #[])
abbrev t18 (a1 a3:Nat) (a4:String) (a5:Nat) (x:Params):Obj:=(@Obj.mk (.type "frame") none @Data.plain (@List.toArray (@Option @Value) [(some (r_ a1)),(some (r_ 3)),(some (r_ a3)),none,(some (p_ a4 a5)),none,(some (r_ 0))]))
abbrev t19 (a1:String) (a2 a4 a6:Nat) (a7:Int) (a17 a20:Nat) (a21:Int) (a26:Nat) (x:Params):Obj:=(@Obj.mk (.type "code") none (@Data.fields (List.toArray [(p_ a1 a2),(p_ a1 a4),(p_ "/claim/cut.py" a6),(j_ a7 0),(j_ 0 0),(j_ 0 0),(j_ 0 0),(j_ 0 0),(r_ a17),(.bool @Bool.false),(j_ 181 0),(r_ a20),.none,.none,.none,.none,(j_ a21 0),(j_ a7 0),(p_ "/claim/cut.py" a26)])) #[])
abbrev t20 (a0:Int) (a4:Nat) (a5:Int) (a9:Nat) (a10:Int) (a14:Nat) (a15:Int) (a19:Nat) (a20:Int) (a24:Nat) (a25:Int) (a29:Nat) (x:Params):Obj:=(@Obj.mk .none none (@Data.fields (List.toArray [(j_ a0 0),(j_ 4 0),(r_ a4),(j_ a5 0),(j_ 4 0),(r_ a9),(j_ a10 0),(j_ 4 0),(r_ a14),(j_ a15 0),(j_ 4 0),(r_ a19),(j_ a20 0),(j_ 4 0),(r_ a24),(j_ a25 0),(j_ 4 0),(r_ a29)])) #[])
abbrev t21 (a3 a8:Nat) (a9:String) (a10 a13:Nat) (a14:Int) (a15:Nat) (a16:String) (a18 a19:Nat) (a20:String) (a22 a23:Nat) (a24:String) (a26 a27:Nat) (a28:String) (a30 a31 a34 a35 a38 a39 a42 a43:Nat) (x:Params):Obj:=(@Obj.mk (.type "dict") none (@Data.dict (List.toArray [(e_ x "__module__" a3 (p_ "oddbases.ways" 467)),(e_ x "__qualname__" a8 (p_ a9 a10)),(e_ x "__firstlineno__" a13 (j_ a14 a15)),(e_ x a16 a18 (r_ a19)),(e_ x a20 a22 (r_ a23)),(e_ x a24 a26 (r_ a27)),(e_ x a28 a30 (r_ a31)),(e_ x "split" a34 (r_ a35)),(e_ x "has" a38 (r_ a39)),(e_ x "__static_attributes__" a42 (r_ a43))]) 10) #[])
abbrev t22 (x:Params):Obj:=(@Obj.mk (.type "builtin_function_or_method") none (@Data.fields (List.toArray [(.builtin "type.__prepare__"),(.type "type")])) #[])
abbrev t23 (a1:Nat) (x:Params):Obj:=(@Obj.mk (.type "tuple") none (@Data.seq (List.toArray [(r_ a1)]) 0) #[])
abbrev t24 (a3 a8:Nat) (a9:Int) (a10 a13 a14:Nat) (a15:String) (a17 a18:Nat) (a19:String) (a21 a22 a25 a26:Nat) (a27:String) (a29 a30 a33 a34 a37:Nat) (x:Params):Obj:=(@Obj.mk (.type "dict") none (@Data.dict (List.toArray [(e_ x "__module__" a3 (p_ "oddbases.ways" 467)),(e_ x "__firstlineno__" a8 (j_ a9 a10)),(e_ x "__init__" a13 (r_ a14)),(e_ x a15 a17 (r_ a18)),(e_ x a19 a21 (r_ a22)),(e_ x "ratio" a25 (r_ a26)),(e_ x a27 a29 (r_ a30)),(e_ x "__static_attributes__" a33 (r_ a34)),(e_ x "__doc__" a37 .none)]) 2) #[])
abbrev t25 (a0:Int) (a4:Nat) (a5:Int) (a9:Nat) (a10:Int) (a14:Nat) (a15:Int) (a19:Nat) (a20:Int) (a24:Nat) (x:Params):Obj:=(@Obj.mk .none none (@Data.fields (List.toArray [(j_ a0 0),(j_ 4 0),(r_ a4),(j_ a5 0),(j_ 4 0),(r_ a9),(j_ a10 0),(j_ 4 0),(r_ a14),(j_ a15 0),(j_ 4 0),(r_ a19),(j_ a20 0),(j_ 4 0),(r_ a24)])) #[])
abbrev t26 (a3 a8:Nat) (a9:String) (a10 a13:Nat) (a14:Int) (a15 a18 a19:Nat) (a20:String) (a22 a23:Nat) (a24:String) (a26 a27 a30 a31:Nat) (a32:String) (a34 a35 a38 a39:Nat) (x:Params):Obj:=(@Obj.mk (.type "dict") none (@Data.dict (List.toArray [(e_ x "__module__" a3 (p_ "oddbases.ways" 467)),(e_ x "__qualname__" a8 (p_ a9 a10)),(e_ x "__firstlineno__" a13 (j_ a14 a15)),(e_ x "__init__" a18 (r_ a19)),(e_ x a20 a22 (r_ a23)),(e_ x a24 a26 (r_ a27)),(e_ x "ratio" a30 (r_ a31)),(e_ x a32 a34 (r_ a35)),(e_ x "__static_attributes__" a38 (r_ a39))]) 9) #[])
abbrev t27 (a3 a8:Nat) (a9:Int) (a10 a13 a14 a17 a18 a21 a22 a25 a26 a29:Nat) (x:Params):Obj:=(@Obj.mk (.type "dict") none (@Data.dict (List.toArray [(e_ x "__module__" a3 (p_ "oddbases.ways" 467)),(e_ x "__firstlineno__" a8 (j_ a9 a10)),(e_ x "__init__" a13 (r_ a14)),(e_ x "high" a17 (r_ a18)),(e_ x "ratio" a21 (r_ a22)),(e_ x "__static_attributes__" a25 (r_ a26)),(e_ x "__doc__" a29 .none)]) 2) #[])
abbrev t28 (a0:Int) (a4:Nat) (a5:Int) (a9:Nat) (a10:Int) (a14:Nat) (x:Params):Obj:=(@Obj.mk .none none (@Data.fields (List.toArray [(j_ a0 0),(j_ 4 0),(r_ a4),(j_ a5 0),(j_ 4 0),(r_ a9),(j_ a10 0),(j_ 4 0),(r_ a14)])) #[])
abbrev t29 (a3 a8:Nat) (a9:String) (a10 a13:Nat) (a14:Int) (a15 a18 a19 a22 a23 a26 a27 a30 a31:Nat) (x:Params):Obj:=(@Obj.mk (.type "dict") none (@Data.dict (List.toArray [(e_ x "__module__" a3 (p_ "oddbases.ways" 467)),(e_ x "__qualname__" a8 (p_ a9 a10)),(e_ x "__firstlineno__" a13 (j_ a14 a15)),(e_ x "__init__" a18 (r_ a19)),(e_ x "high" a22 (r_ a23)),(e_ x "ratio" a26 (r_ a27)),(e_ x "__static_attributes__" a30 (r_ a31))]) 7) #[])
abbrev t30 (a2 a3:Nat) (x:Params):Obj:=(@Obj.mk (.type "getset_descriptor") none (@Data.fields (List.toArray [(p_ "__weakref__" a2),(r_ a3),(.builtin "ExceptionGroup.__weakref__"),.none])) #[])
abbrev t31 (a1:String) (a3 a9 a11 a13 a15:Nat) (x:Params):Obj:=(@Obj.mk (.type "type") none (@Data.cls (@ClassData.mk (.ofString a1) [(r_ 31)] [(r_ a3),(r_ 31),(.type "ValueError"),(.type "Exception"),(.type "BaseException"),(.type "object")] a9 (.ofString a1) @Bool.true [] [] @Bool.false (@Option.none @Bool) @Bool.false)) (@List.toArray (@Option @Value) [(some (r_ a11)),none,(some (p_ a1 a13)),(some (p_ a1 a15)),(some (.builtin "ValueError.__new__")),(some (.bool @Bool.true))]))
abbrev t32 (a3 a8:Nat) (a9:Int) (a10 a13 a14 a17:Nat) (x:Params):Obj:=(@Obj.mk (.type "dict") none (@Data.dict (List.toArray [(e_ x "__module__" a3 (p_ "oddbases.errors" 194)),(e_ x "__firstlineno__" a8 (j_ a9 a10)),(e_ x "__static_attributes__" a13 (r_ a14)),(e_ x "__doc__" a17 .none)]) 2) #[])
abbrev t33 (a3 a8:Nat) (a9:String) (a10 a13:Nat) (a14:Int) (a15 a18 a19:Nat) (x:Params):Obj:=(@Obj.mk (.type "dict") none (@Data.dict (List.toArray [(e_ x "__module__" a3 (p_ "oddbases.errors" 194)),(e_ x "__qualname__" a8 (p_ a9 a10)),(e_ x "__firstlineno__" a13 (j_ a14 a15)),(e_ x "__static_attributes__" a18 (r_ a19))]) 4) #[])
abbrev U17 (x:Params):DictEntry:=(e_ x "NoWay" 229 (r_ 44))
abbrev U16 (x:Params):DictEntry:=(e_ x "_wall" 193 (r_ 21))
abbrev U15 (x:Params):DictEntry:=(e_ x "__doc__" 166 .none)
abbrev U14 (x:Params):DictEntry:=(e_ x "__spec__" 169 .none)
abbrev U13 (x:Params):DictEntry:=(e_ x "Nought" 341 (r_ 128))
abbrev U12 (x:Params):DictEntry:=(e_ x "NoRatio" 293 (r_ 92))
abbrev U11 (x:Params):DictEntry:=(e_ x "TooLess" 277 (r_ 80))
abbrev U10 (x:Params):DictEntry:=(e_ x "NoPairs" 325 (r_ 116))
abbrev U9 (x:Params):DictEntry:=(e_ x "NoNumber" 245 (r_ 56))
abbrev U8 (x:Params):DictEntry:=(e_ x "OddError" 213 (r_ 31))
abbrev U7 (x:Params):DictEntry:=(e_ x "__cached__" 174 .none)
abbrev U6 (x:Params):DictEntry:=(e_ x "NoWriting" 261 (r_ 68))
abbrev U5 (x:Params):DictEntry:=(e_ x "__package__" 167 .none)
abbrev U4 (x:Params):DictEntry:=(e_ x "NoFalling" 309 (r_ 104))
abbrev U3 (x:Params):DictEntry:=(e_ x "__builtins__" 171 (r_ 4))
abbrev U2 (x:Params):DictEntry:=(e_ x "__annotations__" 170 (r_ 6))
abbrev U1 (x:Params):DictEntry:=(e_ x "__file__" 173 (p_ "/claim/cut.py" 172))
abbrev U0 (x:Params):DictEntry:=(e_ x "__loader__" 168 (.builtin "__main__.__loader__#opaque"))
def Xk:=t0 "law" 72 "law_oddbases_k32_differences" 1059 780
def Xl:=t1 "law" 1205 "law" 1206 1207 433 1 775 776 777 778 779 1214 1215
def Tt:=t2 "law" 72
def zb:=t3
def Xm:=t4 "_law_script" 1208 "_law_kind" 1209 "_law_by" 1210 "_law_one" 1211 "_law_other" 1212 "_law_way_here" 1213
def zg:=t5
def Xn:=t0 "_law_right" 71 "law_oddbases_k32_differences" 1059 773
def Xo:=t1 "_law_right" 1189 "_law_right" 1190 1191 420 5 768 769 770 771 772 1202 1203
def Tu:=t2 "_law_right" 71
def Xp (x:Params):Obj:=(@Obj.mk (.type "tuple") none (@Data.seq (List.toArray [(p_ "_law_kind" 1192),(p_ "_law_by" 1193),(p_ "_law_way_here" 1194),(p_ "_law_one" 1195),(p_ "_law_other" 1196),(p_ "_law_due" 1197),(p_ "_law_handed" 1198),(p_ "_law_names_here" 1199),(p_ "_law_found" 1200),(p_ "_law_kept" 1201)]) 0) #[])
def Xq:=t0 "_law_end" 70 "law_oddbases_k32_differences" 1059 766
def Xr:=t1 "_law_end" 1177 "_law_end" 1178 1179 410 3 761 762 763 764 765 1186 1187
def Tv:=t2 "_law_end" 70
def Xs:=t4 "_law_way_here" 1180 "_law_one" 1181 "_law_other" 1182 "_law_error" 1183 "_law_found" 1184 "_law_e" 1185
def Xu:=t0 "_law_less" 69 "law_oddbases_k32_differences" 1059 759
def Xv:=t1 "_law_less" 1168 "_law_less" 1169 1170 406 3 754 755 756 757 758 1174 1175
def Tw:=t2 "_law_less" 69
def Xw:=t6 "_law_kind" 1171 "_law_one" 1172 "_law_other" 1173
def Xx:=t0 "_law_names" 68 "law_oddbases_k32_differences" 1059 752
def Xy:=t7 "_law_names" 1162 1163 1164 397 1 749 750 751 1165 1166
def Tx:=t2 "_law_names" 68
def Xz:=t0 "_law_two" 67 "law_oddbases_k32_differences" 1059 747
def XA:=t7 "_law_two" 1156 1157 1158 393 4 744 745 746 1159 1160
def Ty:=t2 "_law_two" 67
def XB:=t0 "_law_number" 66 "law_oddbases_k32_differences" 1059 742
def XC:=t1 "_law_number" 1142 "_law_number" 1143 1144 377 3 737 738 739 740 741 1153 1154
def Tz:=t2 "_law_number" 66
def XD (x:Params):Obj:=(@Obj.mk (.type "tuple") none (@Data.seq (List.toArray [(p_ "_law_kind" 1145),(p_ "_law_by" 1146),(p_ "_law_row" 1147),(p_ "_law_here" 1148),(p_ "_law_total" 1149),(p_ "_law_lower" 1150),(p_ "_law_place" 1151),(p_ "_law_ahead" 1152)]) 0) #[])
def XE:=t0 "_law_next" 65 "law_oddbases_k32_differences" 1059 735
def XF:=t1 "_law_next" 1131 "_law_next" 1132 1133 369 5 730 731 732 733 734 1139 1140
def TC:=t2 "_law_next" 65
def XG:=t8 "_law_kind" 1134 "_law_by" 1135 "_law_place" 1136 "_law_here" 1137 "_law_lower" 1138
def XH:=t0 "_law_legal" 64 "law_oddbases_k32_differences" 1059 728
def XI:=t1 "_law_legal" 1119 "_law_legal" 1120 1121 359 3 723 724 725 726 727 1128 1129
def TD:=t2 "_law_legal" 64
def XJ:=t4 "_law_kind" 1122 "_law_by" 1123 "_law_row" 1124 "_law_place" 1125 "_law_low" 1126 "_law_high" 1127
def XM:=t0 "_law_figures" 63 "law_oddbases_k32_differences" 1059 721
def XN:=t1 "_law_figures" 1104 "_law_figures" 1105 1106 343 3 716 717 718 719 720 1116 1117
def TF:=t2 "_law_figures" 63
def XO (x:Params):Obj:=(@Obj.mk (.type "tuple") none (@Data.seq (List.toArray [(p_ "_law_kind" 1107),(p_ "_law_by" 1108),(p_ "_law_cells" 1109),(p_ "_law_row" 1110),(p_ "_law_place" 1111),(p_ "_law_mixed_here" 1112),(p_ "_law_low" 1113),(p_ "_law_high" 1114),(p_ "_law_some" 1115)]) 0) #[])
def XQ:=t0 "_law_span" 62 "law_oddbases_k32_differences" 1059 714
def XR:=t1 "_law_span" 1095 "_law_span" 1096 1097 333 3 709 710 711 712 713 1101 1102
def TH:=t2 "_law_span" 62
def XS:=t6 "_law_kind" 1098 "_law_by" 1099 "_law_place" 1100
def XT:=t0 "_law_way" 61 "law_oddbases_k32_differences" 1059 707
def XU:=t1 "_law_way" 1087 "_law_way" 1088 1089 321 2 702 703 704 705 706 1092 1093
def TJ:=t2 "_law_way" 61
def XV:=t9 "_law_kind" 1090 "_law_by" 1091
def XX:=t0 "_law_pick" 60 "law_oddbases_k32_differences" 1059 700
def XY:=t1 "_law_pick" 1076 "_law_pick" 1077 1078 309 1 695 696 697 698 699 1084 1085
def TL:=t2 "_law_pick" 60
def XZ:=t8 "_law_cell" 1079 "_law_mixed_here" 1080 "_law_kind" 1081 "_law_rest" 1082 "_law_some" 1083
def X0:=t0 "_law_mixed" 59 "law_oddbases_k32_differences" 1059 693
def X1:=t1 "_law_mixed" 1069 "_law_mixed" 1070 1071 307 1 688 689 690 691 692 1073 1074
def TM:=t2 "_law_mixed" 59
def X2:=t10 "_law_cell" 1072
def X3:=t0 "_law_cell_at" 58 "law_oddbases_k32_differences" 1059 686
def X4:=t1 "_law_cell_at" 1061 "_law_cell_at" 1062 1063 303 2 681 682 683 684 685 1066 1067
def TN:=t2 "_law_cell_at" 58
def X5:=t9 "_law_script" 1064 "_law_k" 1065
def X6:=t0 "minus" 56 "oddbases.sums" 1007 679
def X7:=t1 "minus" 1049 "minus" 1050 1051 296 3 674 675 676 677 678 1056 1057
def TQ:=t2 "minus" 56
def X8:=t11 "way" 1052 "one" 1053 "other" 1054 "difference" 1055
def X9:=t0 "without_debts" 55 "oddbases.sums" 1007 672
def X_:=t1 "without_debts" 1039 "without_debts" 1040 1041 290 2 667 668 669 670 671 1046 1047
def TR:=t2 "without_debts" 55
def Wa:=t11 "way" 1042 "row" 1043 "things" 1044 "place" 1045
def Wb:=t0 "lend" 54 "oddbases.sums" 1007 665
def Wc:=t1 "lend" 1030 "lend" 1031 1032 283 3 660 661 662 663 664 1036 1037
def TU:=t2 "lend" 54
def Wd:=t6 "way" 1033 "row" 1034 "lender" 1035
def We:=t0 "lender_above" 53 "oddbases.sums" 1007 658
def Wf:=t1 "lender_above" 1021 "lender_above" 1022 1023 278 2 653 654 655 656 657 1027 1028
def TV:=t2 "lender_above" 53
def Wg:=t6 "row" 1024 "place" 1025 "lender" 1026
def Wh:=t0 "row_times" 52 "oddbases.sums" 1007 651
def Wi:=t7 "row_times" 1015 1016 1017 276 2 648 649 650 1018 1019
def TW:=t2 "row_times" 52
def Wj:=t0 "row_plus" 51 "oddbases.sums" 1007 646
def Wk:=t7 "row_plus" 1009 1010 1011 273 2 643 644 645 1012 1013
def TX:=t2 "row_plus" 51
def Wl:=t0 "written_row" 49 "oddbases.writings" 961 641
def Wm:=t1 "written_row" 999 "written_row" 1000 1001 268 2 636 637 638 639 640 1004 1005
def TY:=t2 "written_row" 49
def Wn:=t9 "way" 1002 "row" 1003
def Wo:=t0 "held_to_be_writings" 48 "oddbases.writings" 961 634
def Wp:=t1 "held_to_be_writings" 990 "held_to_be_writings" 991 992 264 2 629 630 631 632 633 996 997
def TZ:=t2 "held_to_be_writings" 48
def Wq:=t6 "way" 993 "rows" 994 "row" 995
def Wr:=t0 "is_writing" 47 "oddbases.writings" 961 627
def Ws:=t1 "is_writing" 982 "is_writing" 983 984 258 2 622 623 624 625 626 987 988
def T0:=t2 "is_writing" 47
def Wt:=t9 "way" 985 "row" 986
def Wu:=t0 "has_mosts_above_noughts_alone" 46 "oddbases.writings" 961 620
def Wv:=t1 "has_mosts_above_noughts_alone" 973 "has_mosts_above_noughts_alone" 974 975 253 2 615 616 617 618 619 979 980
def T3:=t2 "has_mosts_above_noughts_alone" 46
def Ww:=t6 "way" 976 "row" 977 "place" 978
def Wx:=t0 "has_figures_alone" 45 "oddbases.writings" 961 613
def Wy:=t1 "has_figures_alone" 963 "has_figures_alone" 964 965 248 2 608 609 610 611 612 970 971
def T4:=t2 "has_figures_alone" 45
def Wz:=t11 "way" 966 "row" 967 "place" 968 "thing" 969
def WA:=t0 "settled" 43 "oddbases.settling" 938 606
def WB:=t1 "settled" 953 "settled" 954 955 245 2 601 602 603 604 605 958 959
def T5:=t2 "settled" 43
def WC:=t9 "way" 956 "totals" 957
def WD:=t0 "figures_and_carries" 42 "oddbases.settling" 938 599
def WE:=t1 "figures_and_carries" 940 "figures_and_carries" 941 942 230 2 594 595 596 597 598 950 951
def T6:=t2 "figures_and_carries" 42
def WF:=t12 "way" 943 "totals" 944 "figures" 945 "carry" 946 "found" 947 "place" 948 "parts" 949
def WG:=t0 "fallen" 40 "oddbases.falls" 864 592
def WH:=t1 "fallen" 930 "fallen" 931 932 227 2 587 588 589 590 591 935 936
def T7:=t2 "fallen" 40
def WI:=t9 "way" 933 "heap" 934
def WJ:=t0 "steps_and_writing" 39 "oddbases.falls" 864 585
def WK:=t1 "steps_and_writing" 917 "steps_and_writing" 918 919 212 2 580 581 582 583 584 927 928
def T8:=t2 "steps_and_writing" 39
def WL:=t12 "way" 920 "heap" 921 "done" 922 "left" 923 "place" 924 "step" 925 "many" 926
def WM:=t0 "how_often" 38 "oddbases.falls" 864 578
def WN:=t1 "how_often" 907 "how_often" 908 909 207 3 573 574 575 576 577 914 915
def T9:=t2 "how_often" 38
def WO:=t11 "way" 910 "heap" 911 "step" 912 "place" 913
def WP:=t0 "step_at" 37 "oddbases.falls" 864 571
def WQ:=t1 "step_at" 898 "step_at" 899 900 201 3 566 567 568 569 570 904 905
def T_:=t2 "step_at" 37
def WR:=t6 "way" 901 "heap" 902 "place" 903
def WS:=t0 "do_steps" 36 "oddbases.falls" 864 564
def WT:=t1 "do_steps" 886 "do_steps" 887 888 196 4 559 560 561 562 563 895 896
def Sa:=t2 "do_steps" 36
def WU:=t4 "way" 889 "heap" 890 "step" 891 "many" 892 "place" 893 "things" 894
def WV:=t0 "changes" 35 "oddbases.falls" 864 557
def WW:=t1 "changes" 875 "changes" 876 877 184 2 552 553 554 555 556 883 884
def Sb:=t2 "changes" 35
def WX:=t8 "way" 878 "step" 879 "kind" 880 "place" 881 "parted" 882
def WY:=t0 "held_to_be_a_heap" 34 "oddbases.falls" 864 550
def WZ:=t1 "held_to_be_a_heap" 866 "held_to_be_a_heap" 867 868 178 2 545 546 547 548 549 872 873
def Sc:=t2 "held_to_be_a_heap" 34
def W5:=t6 "way" 869 "heap" 870 "things" 871
def W6:=t13 542
def W7:=t14 542
def cz:=t15 "Pairs" 542 541 491 795 803
def cA (x:Params):Obj:=(@Obj.mk (.type "dict") none (@Data.dict (List.toArray [(e_ x "__module__" 802 (p_ "oddbases.ways" 467)),(e_ x "__firstlineno__" 806 (j_ 154 805)),(e_ x "__init__" 814 (r_ 504)),(e_ x "nought" 821 (r_ 511)),(e_ x "high" 829 (r_ 518)),(e_ x "ratio" 837 (r_ 525)),(e_ x "split" 850 (r_ 532)),(e_ x "has" 858 (r_ 539)),(e_ x "__static_attributes__" 860 (r_ 540)),(e_ x "__doc__" 861 .none)]) 2) #[])
def cB:=t10 "most" 859
def cC:=t16 "has" "Pairs.has" 32 5 538
def cD:=t1 "has" 851 "Pairs.has" 852 853 175 2 533 534 535 536 537 856 857
def W8:=t17 "has" "Pairs.has" 32 5
def cE:=t9 "self" 854 "number" 855
def cF:=t16 "split" "Pairs.split" 32 4 531
def cG:=t1 "split" 838 "Pairs.split" 839 840 168 3 526 527 528 529 530 848 849
def W9:=t17 "split" "Pairs.split" 32 4
def cH:=t12 "self" 841 "total" 842 "place" 843 "pair" 844 "figures" 845 "figure" 846 "turned" 847
def cI:=t16 "ratio" "Pairs.ratio" 32 3 524
def cJ:=t1 "ratio" 830 "Pairs.ratio" 831 832 165 2 519 520 521 522 523 835 836
def W_:=t17 "ratio" "Pairs.ratio" 32 3
def cK:=t9 "self" 833 "place" 834
def cL:=t16 "high" "Pairs.high" 32 2 517
def cM:=t1 "high" 822 "Pairs.high" 823 824 162 2 512 513 514 515 516 827 828
def Va:=t17 "high" "Pairs.high" 32 2
def cN:=t9 "self" 825 "place" 826
def cO:=t16 "nought" "Pairs.nought" 32 1 510
def cP:=t1 "nought" 815 "Pairs.nought" 816 817 159 1 505 506 507 508 509 819 820
def Vb:=t17 "nought" "Pairs.nought" 32 1
def cQ:=t10 "self" 818
def cR:=t16 "__init__" "Pairs.__init__" 32 0 503
def cS:=t1 "__init__" 807 "Pairs.__init__" 808 809 156 2 498 499 500 501 502 812 813
def Vc:=t17 "__init__" "Pairs.__init__" 32 0
def cT:=t9 "self" 810 "most" 811
def Vd:=t18 496 493 "oddbases.ways" 467
def Ve:=t19 "Pairs" 797 798 799 154 494 495 800 801
def Vf:=t20 156 503 159 510 162 517 165 524 168 531 175 538
def Vg:=t21 802 804 "Pairs" 803 806 154 805 "__init__" 814 504 "nought" 821 511 "high" 829 518 "ratio" 837 525 850 532 858 539 860 540
def zA:=t22
def yY:=t23 286
def Vh:=t13 488
def Vi:=t14 488
def cV:=t15 "Falling" 488 487 444 737 745
def cW:=t24 744 748 138 747 756 457 "high" 764 464 "weights" 772 471 780 478 "split" 789 485 791 486 792
def cX:=t10 "most" 790
def cY:=t16 "split" "Falling.split" 31 4 484
def cZ:=t1 "split" 781 "Falling.split" 782 783 152 3 479 480 481 482 483 787 788
def Vj:=t17 "split" "Falling.split" 31 4
def c5:=t6 "self" 784 "total" 785 "place" 786
def c6:=t16 "ratio" "Falling.ratio" 31 3 477
def c7:=t1 "ratio" 773 "Falling.ratio" 774 775 149 2 472 473 474 475 476 778 779
def Vk:=t17 "ratio" "Falling.ratio" 31 3
def c8:=t9 "self" 776 "place" 777
def c9:=t16 "weights" "Falling.weights" 31 2 470
def c_:=t1 "weights" 765 "Falling.weights" 766 767 146 2 465 466 467 468 469 770 771
def Vl:=t17 "weights" "Falling.weights" 31 2
def ba:=t9 "self" 768 "many" 769
def bb:=t16 "high" "Falling.high" 31 1 463
def bc:=t1 "high" 757 "Falling.high" 758 759 143 2 458 459 460 461 462 762 763
def Vm:=t17 "high" "Falling.high" 31 1
def bf:=t9 "self" 760 "place" 761
def bg:=t16 "__init__" "Falling.__init__" 31 0 456
def bh:=t1 "__init__" 749 "Falling.__init__" 750 751 140 2 451 452 453 454 455 754 755
def Vn:=t17 "__init__" "Falling.__init__" 31 0
def bj:=t9 "self" 752 "most" 753
def Vo:=t18 449 446 "oddbases.ways" 467
def Vp:=t19 "Falling" 739 740 741 138 447 448 742 743
def Vq:=t25 140 456 143 463 146 470 149 477 152 484
def Vr:=t26 744 746 "Falling" 745 748 138 747 756 457 "high" 764 464 "weights" 772 471 780 478 "split" 789 485 791 486
def Vs:=t13 441
def Vu:=t14 441
def bn:=t15 "Growing" 441 440 411 696 704
def bo:=t27 703 707 128 706 715 424 723 431 731 438 733 439 734
def bp:=t10 "first" 732
def bq:=t16 "ratio" "Growing.ratio" 30 2 437
def br:=t1 "ratio" 724 "Growing.ratio" 725 726 136 2 432 433 434 435 436 729 730
def Vv:=t17 "ratio" "Growing.ratio" 30 2
def bu:=t9 "self" 727 "place" 728
def bv:=t16 "high" "Growing.high" 30 1 430
def bw:=t1 "high" 716 "Growing.high" 717 718 133 2 425 426 427 428 429 721 722
def Vx:=t17 "high" "Growing.high" 30 1
def bx:=t9 "self" 719 "place" 720
def bz:=t16 "__init__" "Growing.__init__" 30 0 423
def bA:=t1 "__init__" 708 "Growing.__init__" 709 710 130 2 418 419 420 421 422 713 714
def Vy:=t17 "__init__" "Growing.__init__" 30 0
def bB:=t9 "self" 711 "first" 712
def Vz:=t18 416 413 "oddbases.ways" 467
def VA:=t19 "Growing" 698 699 700 128 414 415 701 702
def VB:=t28 130 423 133 430 136 437
def VC:=t29 703 705 "Growing" 704 707 128 706 715 424 723 431 731 438 733 439
def VD:=t13 408
def VE:=t14 408
def bC:=t15 "Balanced" 408 407 364 639 647
def bD:=t24 646 650 112 649 658 377 "low" 666 384 "high" 674 391 682 398 "has" 690 405 692 406 693
def bE:=t10 "half" 691
def bF:=t16 "has" "Balanced.has" 29 4 404
def bG:=t1 "has" 683 "Balanced.has" 684 685 126 2 399 400 401 402 403 688 689
def VF:=t17 "has" "Balanced.has" 29 4
def bH:=t9 "self" 686 "number" 687
def bI:=t16 "ratio" "Balanced.ratio" 29 3 397
def bJ:=t1 "ratio" 675 "Balanced.ratio" 676 677 123 2 392 393 394 395 396 680 681
def VG:=t17 "ratio" "Balanced.ratio" 29 3
def bK:=t9 "self" 678 "place" 679
def bL:=t16 "high" "Balanced.high" 29 2 390
def bM:=t1 "high" 667 "Balanced.high" 668 669 120 2 385 386 387 388 389 672 673
def VH:=t17 "high" "Balanced.high" 29 2
def bN:=t9 "self" 670 "place" 671
def bO:=t16 "low" "Balanced.low" 29 1 383
def bP:=t1 "low" 659 "Balanced.low" 660 661 117 2 378 379 380 381 382 664 665
def VI:=t17 "low" "Balanced.low" 29 1
def bQ:=t9 "self" 662 "place" 663
def bR:=t16 "__init__" "Balanced.__init__" 29 0 376
def bS:=t1 "__init__" 651 "Balanced.__init__" 652 653 114 2 371 372 373 374 375 656 657
def VJ:=t17 "__init__" "Balanced.__init__" 29 0
def bT:=t9 "self" 654 "half" 655
def VL:=t18 369 366 "oddbases.ways" 467
def VM:=t19 "Balanced" 641 642 643 112 367 368 644 645
def VN:=t25 114 376 117 383 120 390 123 397 126 404
def VO:=t26 646 648 "Balanced" 647 650 112 649 658 377 "low" 666 384 "high" 674 391 682 398 "has" 690 405 692 406
def VP:=t13 361
def VQ:=t14 361
def bU:=t15 "Below" 361 360 324 590 598
def bV (x:Params):Obj:=(@Obj.mk (.type "dict") none (@Data.dict (List.toArray [(e_ x "__module__" 597 (p_ "oddbases.ways" 467)),(e_ x "__firstlineno__" 601 (j_ 99 600)),(e_ x "__init__" 609 (r_ 337)),(e_ x "high" 617 (r_ 344)),(e_ x "ratio" 625 (r_ 351)),(e_ x "has" 633 (r_ 358)),(e_ x "__static_attributes__" 635 (r_ 359)),(e_ x "__doc__" 636 .none)]) 2) #[])
def bW:=t10 "base" 634
def bX:=t16 "has" "Below.has" 28 3 357
def bY:=t1 "has" 626 "Below.has" 627 628 110 2 352 353 354 355 356 631 632
def VR:=t17 "has" "Below.has" 28 3
def bZ:=t9 "self" 629 "number" 630
def b_:=t16 "ratio" "Below.ratio" 28 2 350
def aa:=t1 "ratio" 618 "Below.ratio" 619 620 107 2 345 346 347 348 349 623 624
def VS:=t17 "ratio" "Below.ratio" 28 2
def ac:=t9 "self" 621 "place" 622
def ad:=t16 "high" "Below.high" 28 1 343
def ae:=t1 "high" 610 "Below.high" 611 612 104 2 338 339 340 341 342 615 616
def VT:=t17 "high" "Below.high" 28 1
def af:=t9 "self" 613 "place" 614
def ag:=t16 "__init__" "Below.__init__" 28 0 336
def ah:=t1 "__init__" 602 "Below.__init__" 603 604 101 2 331 332 333 334 335 607 608
def VU:=t17 "__init__" "Below.__init__" 28 0
def ai:=t9 "self" 605 "base" 606
def VV:=t18 329 326 "oddbases.ways" 467
def VW:=t19 "Below" 592 593 594 99 327 328 595 596
def VX (x:Params):Obj:=(@Obj.mk .none none (@Data.fields (List.toArray [(j_ 101 0),(j_ 4 0),(r_ 336),(j_ 104 0),(j_ 4 0),(r_ 343),(j_ 107 0),(j_ 4 0),(r_ 350),(j_ 110 0),(j_ 4 0),(r_ 357)])) #[])
def VY (x:Params):Obj:=(@Obj.mk (.type "dict") none (@Data.dict (List.toArray [(e_ x "__module__" 597 (p_ "oddbases.ways" 467)),(e_ x "__qualname__" 599 (p_ "Below" 598)),(e_ x "__firstlineno__" 601 (j_ 99 600)),(e_ x "__init__" 609 (r_ 337)),(e_ x "high" 617 (r_ 344)),(e_ x "ratio" 625 (r_ 351)),(e_ x "has" 633 (r_ 358)),(e_ x "__static_attributes__" 635 (r_ 359))]) 8) #[])
def aj:=t13 321
def ak:=t14 321
def ip:=t15 "Plain" 321 320 291 549 557
def iq:=t27 556 560 89 559 568 304 576 311 584 318 586 319 587
def ir:=t10 "base" 585
def iw:=t16 "ratio" "Plain.ratio" 27 2 317
def iy:=t1 "ratio" 577 "Plain.ratio" 578 579 97 2 312 313 314 315 316 582 583
def al:=t17 "ratio" "Plain.ratio" 27 2
def iz:=t9 "self" 580 "place" 581
def iA:=t16 "high" "Plain.high" 27 1 310
def iB:=t1 "high" 569 "Plain.high" 570 571 94 2 305 306 307 308 309 574 575
def ao:=t17 "high" "Plain.high" 27 1
def iC:=t9 "self" 572 "place" 573
def iD:=t16 "__init__" "Plain.__init__" 27 0 303
def iE:=t1 "__init__" 561 "Plain.__init__" 562 563 91 2 298 299 300 301 302 566 567
def ap:=t17 "__init__" "Plain.__init__" 27 0
def iF:=t9 "self" 564 "base" 565
def aq:=t18 296 293 "oddbases.ways" 467
def au:=t19 "Plain" 551 552 553 89 294 295 554 555
def av:=t28 91 303 94 310 97 317
def aw:=t29 556 558 "Plain" 557 560 89 559 568 304 576 311 584 318 586 319
def ax:=t13 286
def ay:=t14 286
def iG:=t30 544 286
def iH (x:Params):Obj:=(@Obj.mk (.type "getset_descriptor") none (@Data.fields (List.toArray [(p_ "__dict__" 542),(r_ 286),(.builtin "function.__dict__"),(.builtin "function.__dict__#set")])) #[])
def cU (x:Params):Obj:=(@Obj.mk (.type "type") none (@Data.cls (@ClassData.mk (.ofString "Way") [(.type "object")] [(r_ 286),(.type "object")] 285 (.ofString "Way") @Bool.true [] [(r_ 321),(r_ 361),(r_ 408),(r_ 441),(r_ 488),(r_ 542)] @Bool.false (@Option.none @Bool) @Bool.false)) (@List.toArray (@Option @Value) [none,none,(some (p_ "Way" 478)),(some (p_ "Way" 486)),(some (.builtin "object.__new__")),(some (.bool @Bool.true))]))
def iI (x:Params):Obj:=(@Obj.mk (.type "dict") none (@Data.dict (List.toArray [(e_ x "__module__" 485 (p_ "oddbases.ways" 467)),(e_ x "__firstlineno__" 489 (j_ 67 488)),(e_ x "nought" 496 (r_ 248)),(e_ x "low" 504 (r_ 255)),(e_ x "weights" 512 (r_ 262)),(e_ x "weight" 520 (r_ 269)),(e_ x "split" 532 (r_ 276)),(e_ x "has" 540 (r_ 283)),(e_ x "__static_attributes__" 541 (r_ 284)),(e_ x "__dict__" 543 (r_ 287)),(e_ x "__weakref__" 545 (r_ 288)),(e_ x "__doc__" 546 .none)]) 4) #[])
def iJ:=t16 "has" "Way.has" 26 5 282
def iK:=t1 "has" 533 "Way.has" 534 535 87 2 277 278 279 280 281 538 539
def az:=t17 "has" "Way.has" 26 5
def iL:=t9 "self" 536 "number" 537
def iM:=t16 "split" "Way.split" 26 4 275
def iN:=t1 "split" 521 "Way.split" 522 523 81 3 270 271 272 273 274 530 531
def aA:=t17 "split" "Way.split" 26 4
def iO:=t4 "self" 524 "total" 525 "place" 526 "low" 527 "figures" 528 "figure" 529
def iP:=t16 "weight" "Way.weight" 26 3 268
def iQ:=t1 "weight" 513 "Way.weight" 514 515 78 2 263 264 265 266 267 518 519
def aB:=t17 "weight" "Way.weight" 26 3
def iR:=t9 "self" 516 "place" 517
def iS:=t16 "weights" "Way.weights" 26 2 261
def iT:=t1 "weights" 505 "Way.weights" 506 507 75 2 256 257 258 259 260 510 511
def aC:=t17 "weights" "Way.weights" 26 2
def iU:=t9 "self" 508 "many" 509
def iV:=t16 "low" "Way.low" 26 1 254
def iW:=t1 "low" 497 "Way.low" 498 499 72 2 249 250 251 252 253 502 503
def aD:=t17 "low" "Way.low" 26 1
def iX:=t9 "self" 500 "place" 501
def iY:=t16 "nought" "Way.nought" 26 0 247
def iZ:=t1 "nought" 490 "Way.nought" 491 492 69 1 242 243 244 245 246 494 495
def aE:=t17 "nought" "Way.nought" 26 0
def i6:=t10 "self" 493
def aF:=t18 240 237 "oddbases.ways" 467
def aG:=t19 "Way" 480 481 482 67 238 239 483 484
def aH:=t20 69 247 72 254 75 261 78 268 81 275 87 282
def aI:=t21 485 487 "Way" 486 489 67 488 "nought" 496 248 "low" 504 255 "weights" 512 262 "weight" 520 269 532 276 540 283 541 284
def i7:=t0 "bounded" 25 "oddbases.ways" 467 233
def i8:=t1 "bounded" 469 "bounded" 470 471 63 3 228 229 230 231 232 475 476
def aJ:=t2 "bounded" 25
def i9:=t6 "number" 472 "least" 473 "most" 474
def i_:=t0 "trimmed" 23 "oddbases.rows" 449 226
def hG:=t1 "trimmed" 459 "trimmed" 460 461 57 1 221 222 223 224 225 464 465
def aK:=t2 "trimmed" 23
def hU:=t9 "row" 462 "things" 463
def hV:=t0 "thing_at" 22 "oddbases.rows" 449 219
def hW:=t1 "thing_at" 451 "thing_at" 452 453 53 2 214 215 216 217 218 456 457
def aL:=t2 "thing_at" 22
def hZ:=t9 "row" 454 "place" 455
def h8:=t0 "multiplied" 20 "oddbases.pairs" 406 212
def h9:=t1 "multiplied" 439 "multiplied" 440 441 46 2 207 208 209 210 211 446 447
def aM:=t2 "multiplied" 20
def h_:=t11 "one" 442 "other" 443 "left" 444 "right" 445
def gb:=t0 "added" 19 "oddbases.pairs" 406 205
def gc:=t1 "added" 429 "added" 430 431 40 2 200 201 202 203 204 436 437
def aN:=t2 "added" 19
def gd:=t11 "one" 432 "other" 433 "left" 434 "right" 435
def ge:=t0 "as_pair" 18 "oddbases.pairs" 406 198
def gf:=t1 "as_pair" 422 "as_pair" 423 424 36 1 193 194 195 196 197 426 427
def aO:=t2 "as_pair" 18
def gg:=t10 "number" 425
def gh:=t0 "is_pair" 17 "oddbases.pairs" 406 191
def gi:=t1 "is_pair" 415 "is_pair" 416 417 34 1 186 187 188 189 190 419 420
def aP:=t2 "is_pair" 17
def gj:=t10 "value" 418
def gk:=t0 "is_whole" 16 "oddbases.pairs" 406 184
def gm:=t1 "is_whole" 408 "is_whole" 409 410 32 1 179 180 181 182 183 412 413
def aQ:=t2 "is_whole" 16
def gp:=t10 "value" 411
def aR:=t13 176
def aS:=t14 176
def gq:=t31 "NoRow" 176 175 167 390 398
def gu:=t32 397 401 29 400 402 174 403
def aU:=t18 172 169 "oddbases.errors" 194
def aV:=t19 "NoRow" 392 393 394 29 170 171 395 396
def aW:=t33 397 399 "NoRow" 398 401 29 400 402 174
def zF:=t23 31
def aX:=t13 164
def aY:=t14 164
def gw:=t31 "NoText" 164 163 155 374 382
def gx:=t32 381 385 27 384 386 162 387
def aZ:=t18 160 157 "oddbases.errors" 194
def a_:=t19 "NoText" 376 377 378 27 158 159 379 380
def Za:=t33 381 383 "NoText" 382 385 27 384 386 162
def Zb:=t13 152
def Zc:=t14 152
def gz:=t31 "NoTotal" 152 151 143 358 366
def gA:=t32 365 369 25 368 370 150 371
def Zd:=t18 148 145 "oddbases.errors" 194
def Ze:=t19 "NoTotal" 360 361 362 25 146 147 363 364
def Zf:=t33 365 367 "NoTotal" 366 369 25 368 370 150
def Zg:=t13 140
def Zh:=t14 140
def gB:=t31 "NoSpan" 140 139 131 342 350
def gC:=t32 349 353 23 352 354 138 355
def Zi:=t18 136 133 "oddbases.errors" 194
def Zj:=t19 "NoSpan" 344 345 346 23 134 135 347 348
def Zk:=t33 349 351 "NoSpan" 350 353 23 352 354 138
def gE:=t13 128
def gF:=t14 128
def kI:=t31 "Nought" 128 127 119 326 334
def kJ:=t32 333 337 21 336 338 126 339
def gG:=t18 124 121 "oddbases.errors" 194
def gH:=t19 "Nought" 328 329 330 21 122 123 331 332
def gJ:=t33 333 335 "Nought" 334 337 21 336 338 126
def gK:=t13 116
def gL:=t14 116
def kK:=t31 "NoPairs" 116 115 107 310 318
def kL:=t32 317 321 19 320 322 114 323
def gM:=t18 112 109 "oddbases.errors" 194
def gN:=t19 "NoPairs" 312 313 314 19 110 111 315 316
def gO:=t33 317 319 "NoPairs" 318 321 19 320 322 114
def gP:=t13 104
def gQ:=t14 104
def kM:=t31 "NoFalling" 104 103 95 294 302
def kN:=t32 301 305 17 304 306 102 307
def gR:=t18 100 97 "oddbases.errors" 194
def gT:=t19 "NoFalling" 296 297 298 17 98 99 299 300
def gU:=t33 301 303 "NoFalling" 302 305 17 304 306 102
def gW:=t13 92
def gX:=t14 92
def kO:=t31 "NoRatio" 92 91 83 278 286
def kP:=t32 285 289 15 288 290 90 291
def gY:=t18 88 85 "oddbases.errors" 194
def gZ:=t19 "NoRatio" 280 281 282 15 86 87 283 284
def g6:=t33 285 287 "NoRatio" 286 289 15 288 290 90
def g7:=t13 80
def g8:=t14 80
def kQ:=t31 "TooLess" 80 79 71 262 270
def kR:=t32 269 273 13 272 274 78 275
def g9:=t18 76 73 "oddbases.errors" 194
def fb:=t19 "TooLess" 264 265 266 13 74 75 267 268
def fc:=t33 269 271 "TooLess" 270 273 13 272 274 78
def fe:=t13 68
def ff:=t14 68
def kS:=t31 "NoWriting" 68 67 59 246 254
def kT:=t32 253 257 11 256 258 66 259
def fg:=t18 64 61 "oddbases.errors" 194
def fh:=t19 "NoWriting" 248 249 250 11 62 63 251 252
def fj:=t33 253 255 "NoWriting" 254 257 11 256 258 66
def fk:=t13 56
def o99:=t14 56
def o98:=t31 "NoNumber" 56 55 47 230 238
def o97:=t32 237 241 9 240 242 54 243
def o95:=t18 52 49 "oddbases.errors" 194
def o94:=t19 "NoNumber" 232 233 234 9 50 51 235 236
def o91:=t33 237 239 "NoNumber" 238 241 9 240 242 54
def o85:=t13 44
def o84:=t14 44
def o83:=t31 "NoWay" 44 43 35 214 222
def o82:=t32 221 225 7 224 226 42 227
def o80:=t18 40 37 "oddbases.errors" 194
def o79:=t19 "NoWay" 216 217 218 7 38 39 219 220
def o76:=t33 221 223 "NoWay" 222 225 7 224 226 42
def o70:=t13 31
def o69:=t14 31
def o68:=t30 209 31
def gv (x:Params):Obj:=(@Obj.mk (.type "type") none (@Data.cls (@ClassData.mk (.ofString "OddError") [(.type "ValueError")] [(r_ 31),(.type "ValueError"),(.type "Exception"),(.type "BaseException"),(.type "object")] 30 (.ofString "OddError") @Bool.true [] [(r_ 44),(r_ 56),(r_ 68),(r_ 80),(r_ 92),(r_ 104),(r_ 116),(r_ 128),(r_ 140),(r_ 152),(r_ 164),(r_ 176)] @Bool.false (@Option.none @Bool) @Bool.false)) (@List.toArray (@Option @Value) [(some (r_ 22)),none,(some (p_ "OddError" 196)),(some (p_ "OddError" 204)),(some (.builtin "ValueError.__new__")),(some (.bool @Bool.true))]))
def o66 (x:Params):Obj:=(@Obj.mk (.type "dict") none (@Data.dict (List.toArray [(e_ x "__module__" 203 (p_ "oddbases.errors" 194)),(e_ x "__firstlineno__" 207 (j_ 5 206)),(e_ x "__static_attributes__" 208 (r_ 29)),(e_ x "__weakref__" 210 (r_ 32)),(e_ x "__doc__" 211 .none)]) 3) #[])
def o64:=t18 27 24 "oddbases.errors" 194
def o63:=t19 "OddError" 198 199 200 5 25 26 201 202
def o60:=t33 203 205 "OddError" 204 207 5 206 208 29
def o58 (x:Params):Obj:=(@Obj.mk (.type "tuple") none (@Data.seq (List.toArray [(.type "ValueError")]) 0) #[])
def o57:=t0 "_wall" 0 "__main__" 164 20
def o56:=t1 "_wall" 187 "_wall" 188 189 1 1 15 16 17 18 19 191 192
def o55:=t2 "_wall" 0
def o53:=t10 "k" 190
def o46:=t18 13 3 "__main__" 164
def o45:=t19 "<module>" 182 183 184 1 11 12 185 186
def TK (x:Params):Obj:=(@Obj.mk .none none (@Data.fields (List.toArray ((j_ 1 0)::(j_ 0 0)::(r_ 20)::(j_ 5 0)::(j_ 0 0)::(r_ 27)::(j_ 7 0)::(j_ 0 0)::(r_ 40)::(j_ 9 0)::(j_ 0 0)::(r_ 52)::(j_ 11 0)::(j_ 0 0)::(r_ 64)::(j_ 13 0)::(j_ 0 0)::(r_ 76)::(j_ 15 0)::(j_ 0 0)::(r_ 88)::(j_ 17 0)::(j_ 0 0)::(r_ 100)::(j_ 19 0)::(j_ 0 0)::(r_ 112)::(j_ 21 0)::(j_ 0 0)::(r_ 124)::(j_ 23 0)::(j_ 0 0)::(r_ 136)::(j_ 25 0)::(j_ 0 0)::(r_ 148)::(j_ 27 0)::(j_ 0 0)::(r_ 160)::(j_ 29 0)::(j_ 0 0)::(r_ 172)::(j_ 32 0)::(j_ 0 0)::(r_ 184)::(j_ 34 0)::(j_ 0 0)::(r_ 191)::(j_ 36 0)::(j_ 0 0)::(r_ 198)::(j_ 40 0)::(j_ 0 0)::(r_ 205)::(j_ 46 0)::(j_ 0 0)::(r_ 212)::(j_ 53 0)::(j_ 0 0)::(r_ 219)::(j_ 57 0)::(j_ 0 0)::(r_ 226)::(j_ 63 0)::(j_ 0 0)::(r_ 233)::(j_ 67 0)::(j_ 0 0)::(r_ 240)::(j_ 89 0)::(j_ 0 0)::(r_ 296)::(j_ 99 0)::(j_ 0 0)::(r_ 329)::(j_ 112 0)::(j_ 0 0)::(r_ 369)::(j_ 128 0)::(j_ 0 0)::(r_ 416)::(j_ 138 0)::(j_ 0 0)::(r_ 449)::(j_ 154 0)::(j_ 0 0)::(r_ 496)::(j_ 178 0)::(j_ 0 0)::(r_ 550)::(j_ 184 0)::(j_ 0 0)::(r_ 557)::(j_ 196 0)::(j_ 0 0)::(r_ 564)::(j_ 201 0)::(j_ 0 0)::(r_ 571)::(j_ 207 0)::(j_ 0 0)::(r_ 578)::(j_ 212 0)::(j_ 0 0)::(r_ 585)::(j_ 227 0)::(j_ 0 0)::(r_ 592)::(j_ 230 0)::(j_ 0 0)::(r_ 599)::(j_ 245 0)::(j_ 0 0)::(r_ 606)::(j_ 248 0)::(j_ 0 0)::(r_ 613)::(j_ 253 0)::(j_ 0 0)::(r_ 620)::(j_ 258 0)::(j_ 0 0)::(r_ 627)::(j_ 264 0)::(j_ 0 0)::(r_ 634)::(j_ 268 0)::(j_ 0 0)::(r_ 641)::(j_ 273 0)::(j_ 0 0)::(r_ 646)::(j_ 276 0)::(j_ 0 0)::(r_ 651)::(j_ 278 0)::(j_ 0 0)::(r_ 658)::(j_ 283 0)::(j_ 0 0)::(r_ 665)::(j_ 290 0)::(j_ 0 0)::(r_ 672)::(j_ 296 0)::(j_ 0 0)::(r_ 679)::(j_ 303 0)::(j_ 0 0)::(r_ 686)::(j_ 307 0)::(j_ 0 0)::(r_ 693)::(j_ 309 0)::(j_ 0 0)::(r_ 700)::(j_ 321 0)::(j_ 0 0)::(r_ 707)::(j_ 333 0)::(j_ 0 0)::(r_ 714)::(j_ 343 0)::(j_ 0 0)::(r_ 721)::(j_ 359 0)::(j_ 0 0)::(r_ 728)::(j_ 369 0)::(j_ 0 0)::(r_ 735)::(j_ 377 0)::(j_ 0 0)::(r_ 742)::(j_ 393 0)::(j_ 0 0)::(r_ 747)::(j_ 397 0)::(j_ 0 0)::(r_ 752)::(j_ 406 0)::(j_ 0 0)::(r_ 759)::(j_ 410 0)::(j_ 0 0)::(r_ 766)::(j_ 420 0)::(j_ 0 0)::(r_ 773)::(j_ 433 0)::(j_ 0 0)::(r_ 780)::[]))) #[])
def XW (x:Params):Obj:=(@Obj.mk (.type "dict") none (@Data.dict (List.toArray ((e_ x "__name__" 165 (p_ "law_oddbases_k32_differences" 1059))::(U15 x)::(U5 x)::(U0 x)::(U14 x)::(U2 x)::(U3 x)::(U1 x)::(U7 x)::(U16 x)::(U8 x)::(U17 x)::(U9 x)::(U6 x)::(U11 x)::(U12 x)::(U4 x)::(U10 x)::(U13 x)::(e_ x "NoSpan" 357 (r_ 140))::(e_ x "NoTotal" 373 (r_ 152))::(e_ x "NoText" 389 (r_ 164))::(e_ x "NoRow" 405 (r_ 176))::(e_ x "is_whole" 414 (r_ 185))::(e_ x "is_pair" 421 (r_ 192))::(e_ x "as_pair" 428 (r_ 199))::(e_ x "added" 438 (r_ 206))::(e_ x "multiplied" 448 (r_ 213))::(e_ x "thing_at" 458 (r_ 220))::(e_ x "trimmed" 466 (r_ 227))::(e_ x "bounded" 477 (r_ 234))::(e_ x "Way" 548 (r_ 286))::(e_ x "Plain" 589 (r_ 321))::(e_ x "Below" 638 (r_ 361))::(e_ x "Balanced" 695 (r_ 408))::(e_ x "Growing" 736 (r_ 441))::(e_ x "Falling" 794 (r_ 488))::(e_ x "Pairs" 863 (r_ 542))::(e_ x "held_to_be_a_heap" 874 (r_ 551))::(e_ x "changes" 885 (r_ 558))::(e_ x "do_steps" 897 (r_ 565))::(e_ x "step_at" 906 (r_ 572))::(e_ x "how_often" 916 (r_ 579))::(e_ x "steps_and_writing" 929 (r_ 586))::(e_ x "fallen" 937 (r_ 593))::(e_ x "figures_and_carries" 952 (r_ 600))::(e_ x "settled" 960 (r_ 607))::(e_ x "has_figures_alone" 972 (r_ 614))::(e_ x "has_mosts_above_noughts_alone" 981 (r_ 621))::(e_ x "is_writing" 989 (r_ 628))::(e_ x "held_to_be_writings" 998 (r_ 635))::(e_ x "written_row" 1006 (r_ 642))::(e_ x "row_plus" 1014 (r_ 647))::(e_ x "row_times" 1020 (r_ 652))::(e_ x "lender_above" 1029 (r_ 659))::(e_ x "lend" 1038 (r_ 666))::(e_ x "without_debts" 1048 (r_ 673))::(e_ x "minus" 1058 (r_ 680))::(e_ x "_law_cell_at" 1068 (r_ 687))::(e_ x "_law_mixed" 1075 (r_ 694))::(e_ x "_law_pick" 1086 (r_ 701))::(e_ x "_law_way" 1094 (r_ 708))::(e_ x "_law_span" 1103 (r_ 715))::(e_ x "_law_figures" 1118 (r_ 722))::(e_ x "_law_legal" 1130 (r_ 729))::(e_ x "_law_next" 1141 (r_ 736))::(e_ x "_law_number" 1155 (r_ 743))::(e_ x "_law_two" 1161 (r_ 748))::(e_ x "_law_names" 1167 (r_ 753))::(e_ x "_law_less" 1176 (r_ 760))::(e_ x "_law_end" 1188 (r_ 767))::(e_ x "_law_right" 1204 (r_ 774))::(e_ x "law" 1216 (r_ 781))::[])) 73) #[])
def RJ (x:Params):Obj:=(@Obj.mk .none none (@Data.fields (List.toArray ((j_ 1 0)::(j_ 0 0)::(r_ 20)::(j_ 5 0)::(j_ 0 0)::(r_ 27)::(j_ 7 0)::(j_ 0 0)::(r_ 40)::(j_ 9 0)::(j_ 0 0)::(r_ 52)::(j_ 11 0)::(j_ 0 0)::(r_ 64)::(j_ 13 0)::(j_ 0 0)::(r_ 76)::(j_ 15 0)::(j_ 0 0)::(r_ 88)::(j_ 17 0)::(j_ 0 0)::(r_ 100)::(j_ 19 0)::(j_ 0 0)::(r_ 112)::(j_ 21 0)::(j_ 0 0)::(r_ 124)::(j_ 23 0)::(j_ 0 0)::(r_ 136)::(j_ 25 0)::(j_ 0 0)::(r_ 148)::(j_ 27 0)::(j_ 0 0)::(r_ 160)::(j_ 29 0)::(j_ 0 0)::(r_ 172)::(j_ 32 0)::(j_ 0 0)::(r_ 184)::(j_ 34 0)::(j_ 0 0)::(r_ 191)::(j_ 36 0)::(j_ 0 0)::(r_ 198)::(j_ 40 0)::(j_ 0 0)::(r_ 205)::(j_ 46 0)::(j_ 0 0)::(r_ 212)::(j_ 53 0)::(j_ 0 0)::(r_ 219)::(j_ 57 0)::(j_ 0 0)::(r_ 226)::(j_ 63 0)::(j_ 0 0)::(r_ 233)::(j_ 67 0)::(j_ 0 0)::(r_ 240)::(j_ 89 0)::(j_ 0 0)::(r_ 296)::(j_ 99 0)::(j_ 0 0)::(r_ 329)::(j_ 112 0)::(j_ 0 0)::(r_ 369)::(j_ 128 0)::(j_ 0 0)::(r_ 416)::(j_ 138 0)::(j_ 0 0)::(r_ 449)::(j_ 154 0)::(j_ 0 0)::(r_ 496)::[]))) #[])
def RK (x:Params):Obj:=(@Obj.mk (.type "dict") none (@Data.dict (List.toArray [(e_ x "__name__" 165 (p_ "oddbases.ways" 467)),(U15 x),(U5 x),(U0 x),(U14 x),(U2 x),(U3 x),(U1 x),(U7 x),(U16 x),(U8 x),(U17 x),(U9 x),(U6 x),(U11 x),(U12 x),(U4 x),(U10 x),(U13 x),(e_ x "NoSpan" 357 (r_ 140)),(e_ x "NoTotal" 373 (r_ 152)),(e_ x "NoText" 389 (r_ 164)),(e_ x "NoRow" 405 (r_ 176)),(e_ x "is_whole" 414 (r_ 185)),(e_ x "is_pair" 421 (r_ 192)),(e_ x "as_pair" 428 (r_ 199)),(e_ x "added" 438 (r_ 206)),(e_ x "multiplied" 448 (r_ 213)),(e_ x "thing_at" 458 (r_ 220)),(e_ x "trimmed" 466 (r_ 227)),(e_ x "bounded" 477 (r_ 234)),(e_ x "Way" 548 (r_ 286)),(e_ x "Plain" 589 (r_ 321)),(e_ x "Below" 638 (r_ 361)),(e_ x "Balanced" 695 (r_ 408)),(e_ x "Growing" 736 (r_ 441)),(e_ x "Falling" 794 (r_ 488)),(e_ x "Pairs" 863 (r_ 542))]) 38) #[])
def RL (x:Params):Obj:=(@Obj.mk (.type "type") none (@Data.cls (@ClassData.mk (.ofString "Way") [(.type "object")] [(r_ 286),(.type "object")] 285 (.ofString "Way") @Bool.true [] [(r_ 321)] @Bool.false (@Option.none @Bool) @Bool.false)) (@List.toArray (@Option @Value) [none,none,(some (p_ "Way" 478)),(some (p_ "Way" 486)),(some (.builtin "object.__new__")),(some (.bool @Bool.true))]))
def RM (x:Params):Obj:=(@Obj.mk .none none (@Data.fields (List.toArray ((j_ 1 0)::(j_ 0 0)::(r_ 20)::(j_ 5 0)::(j_ 0 0)::(r_ 27)::(j_ 7 0)::(j_ 0 0)::(r_ 40)::(j_ 9 0)::(j_ 0 0)::(r_ 52)::(j_ 11 0)::(j_ 0 0)::(r_ 64)::(j_ 13 0)::(j_ 0 0)::(r_ 76)::(j_ 15 0)::(j_ 0 0)::(r_ 88)::(j_ 17 0)::(j_ 0 0)::(r_ 100)::(j_ 19 0)::(j_ 0 0)::(r_ 112)::(j_ 21 0)::(j_ 0 0)::(r_ 124)::(j_ 23 0)::(j_ 0 0)::(r_ 136)::(j_ 25 0)::(j_ 0 0)::(r_ 148)::(j_ 27 0)::(j_ 0 0)::(r_ 160)::(j_ 29 0)::(j_ 0 0)::(r_ 172)::(j_ 32 0)::(j_ 0 0)::(r_ 184)::(j_ 34 0)::(j_ 0 0)::(r_ 191)::(j_ 36 0)::(j_ 0 0)::(r_ 198)::(j_ 40 0)::(j_ 0 0)::(r_ 205)::(j_ 46 0)::(j_ 0 0)::(r_ 212)::(j_ 53 0)::(j_ 0 0)::(r_ 219)::(j_ 57 0)::(j_ 0 0)::(r_ 226)::(j_ 63 0)::(j_ 0 0)::(r_ 233)::(j_ 67 0)::(j_ 0 0)::(r_ 240)::(j_ 89 0)::(j_ 0 0)::(r_ 296)::[]))) #[])
def RN (x:Params):Obj:=(@Obj.mk (.type "dict") none (@Data.dict (List.toArray [(e_ x "__name__" 165 (p_ "oddbases.ways" 467)),(U15 x),(U5 x),(U0 x),(U14 x),(U2 x),(U3 x),(U1 x),(U7 x),(U16 x),(U8 x),(U17 x),(U9 x),(U6 x),(U11 x),(U12 x),(U4 x),(U10 x),(U13 x),(e_ x "NoSpan" 357 (r_ 140)),(e_ x "NoTotal" 373 (r_ 152)),(e_ x "NoText" 389 (r_ 164)),(e_ x "NoRow" 405 (r_ 176)),(e_ x "is_whole" 414 (r_ 185)),(e_ x "is_pair" 421 (r_ 192)),(e_ x "as_pair" 428 (r_ 199)),(e_ x "added" 438 (r_ 206)),(e_ x "multiplied" 448 (r_ 213)),(e_ x "thing_at" 458 (r_ 220)),(e_ x "trimmed" 466 (r_ 227)),(e_ x "bounded" 477 (r_ 234)),(e_ x "Way" 548 (r_ 286)),(e_ x "Plain" 589 (r_ 321))]) 33) #[])
def RP (x:Params):Obj:=(@Obj.mk .none none (@Data.fields (List.toArray [(j_ 1 0),(j_ 0 0),(r_ 20),(j_ 5 0),(j_ 0 0),(r_ 27),(j_ 7 0),(j_ 0 0),(r_ 40),(j_ 9 0),(j_ 0 0),(r_ 52),(j_ 11 0),(j_ 0 0),(r_ 64),(j_ 13 0),(j_ 0 0),(r_ 76),(j_ 15 0),(j_ 0 0),(r_ 88),(j_ 17 0),(j_ 0 0),(r_ 100),(j_ 19 0),(j_ 0 0),(r_ 112),(j_ 21 0),(j_ 0 0),(r_ 124)])) #[])
def RO (x:Params):Obj:=(@Obj.mk (.type "type") none (@Data.cls (@ClassData.mk (.ofString "OddError") [(.type "ValueError")] [(r_ 31),(.type "ValueError"),(.type "Exception"),(.type "BaseException"),(.type "object")] 30 (.ofString "OddError") @Bool.true [] [(r_ 44),(r_ 56),(r_ 68),(r_ 80),(r_ 92),(r_ 104),(r_ 116),(r_ 128)] @Bool.false (@Option.none @Bool) @Bool.false)) (@List.toArray (@Option @Value) [(some (r_ 22)),none,(some (p_ "OddError" 196)),(some (p_ "OddError" 204)),(some (.builtin "ValueError.__new__")),(some (.bool @Bool.true))]))
def RQ (x:Params):Obj:=(@Obj.mk (.type "dict") none (@Data.dict (List.toArray [(e_ x "__name__" 165 (p_ "oddbases.errors" 194)),(U15 x),(U5 x),(U0 x),(U14 x),(U2 x),(U3 x),(U1 x),(U7 x),(U16 x),(U8 x),(U17 x),(U9 x),(U6 x),(U11 x),(U12 x),(U4 x),(U10 x),(U13 x)]) 19) #[])
abbrev Y6:=N_ zg (L_ zb) Z_
abbrev Y5:=N_ zb (L_ zb) Z_
abbrev Y4:=N_ zg (L_ zg) Z_
abbrev Y3:=N_ zb (L_ zg) Z_
abbrev Y2:=N_ zb (L_ zb) (L_ zg)
abbrev Y1:=N_ zb (L_ zb) (L_ zb)
abbrev Y0:=N_ zF Y4 (L_ zb)
def myAs:List Nat:=((nat_lit 2)::(nat_lit 3)::(nat_lit 15)::(nat_lit 17)::(nat_lit 18)::(nat_lit 20)::(nat_lit 21)::(nat_lit 22)::(nat_lit 29)::(nat_lit 30)::(nat_lit 31)::(nat_lit 32)::(nat_lit 35)::(nat_lit 42)::(nat_lit 43)::(nat_lit 44)::(nat_lit 47)::(nat_lit 54)::(nat_lit 55)::(nat_lit 56)::(nat_lit 59)::(nat_lit 66)::(nat_lit 67)::(nat_lit 68)::(nat_lit 71)::(nat_lit 78)::(nat_lit 79)::(nat_lit 80)::(nat_lit 83)::(nat_lit 90)::(nat_lit 91)::(nat_lit 92)::(nat_lit 95)::(nat_lit 102)::(nat_lit 103)::(nat_lit 104)::(nat_lit 107)::(nat_lit 114)::(nat_lit 115)::(nat_lit 116)::(nat_lit 119)::(nat_lit 126)::(nat_lit 127)::(nat_lit 128)::(nat_lit 131)::(nat_lit 138)::(nat_lit 139)::(nat_lit 140)::(nat_lit 143)::(nat_lit 150)::(nat_lit 151)::(nat_lit 152)::(nat_lit 155)::(nat_lit 162)::(nat_lit 163)::(nat_lit 164)::(nat_lit 167)::(nat_lit 174)::(nat_lit 175)::(nat_lit 176)::(nat_lit 179)::(nat_lit 181)::(nat_lit 182)::(nat_lit 184)::(nat_lit 185)::(nat_lit 186)::(nat_lit 188)::(nat_lit 189)::(nat_lit 191)::(nat_lit 192)::(nat_lit 193)::(nat_lit 195)::(nat_lit 196)::(nat_lit 198)::(nat_lit 199)::(nat_lit 200)::(nat_lit 202)::(nat_lit 203)::(nat_lit 205)::(nat_lit 206)::(nat_lit 207)::(nat_lit 209)::(nat_lit 210)::(nat_lit 212)::(nat_lit 213)::(nat_lit 214)::(nat_lit 216)::(nat_lit 217)::(nat_lit 219)::(nat_lit 220)::(nat_lit 221)::(nat_lit 223)::(nat_lit 224)::(nat_lit 226)::(nat_lit 227)::(nat_lit 228)::(nat_lit 230)::(nat_lit 231)::(nat_lit 233)::(nat_lit 234)::(nat_lit 242)::(nat_lit 244)::(nat_lit 245)::(nat_lit 247)::(nat_lit 248)::(nat_lit 249)::(nat_lit 251)::(nat_lit 252)::(nat_lit 254)::(nat_lit 255)::(nat_lit 256)::(nat_lit 258)::(nat_lit 259)::(nat_lit 261)::(nat_lit 262)::(nat_lit 263)::(nat_lit 265)::(nat_lit 266)::(nat_lit 268)::(nat_lit 269)::(nat_lit 270)::(nat_lit 272)::(nat_lit 273)::(nat_lit 275)::(nat_lit 276)::(nat_lit 277)::(nat_lit 279)::(nat_lit 280)::(nat_lit 282)::(nat_lit 283)::(nat_lit 284)::(nat_lit 285)::(nat_lit 286)::(nat_lit 287)::(nat_lit 288)::(nat_lit 291)::(nat_lit 298)::(nat_lit 300)::(nat_lit 301)::(nat_lit 303)::(nat_lit 304)::(nat_lit 305)::(nat_lit 307)::(nat_lit 308)::(nat_lit 310)::(nat_lit 311)::(nat_lit 312)::(nat_lit 314)::(nat_lit 315)::(nat_lit 317)::(nat_lit 318)::(nat_lit 319)::(nat_lit 320)::(nat_lit 321)::(nat_lit 324)::(nat_lit 331)::(nat_lit 333)::(nat_lit 334)::(nat_lit 336)::(nat_lit 337)::(nat_lit 338)::(nat_lit 340)::(nat_lit 341)::(nat_lit 343)::(nat_lit 344)::(nat_lit 345)::(nat_lit 347)::(nat_lit 348)::(nat_lit 350)::(nat_lit 351)::(nat_lit 352)::(nat_lit 354)::(nat_lit 355)::(nat_lit 357)::(nat_lit 358)::(nat_lit 359)::(nat_lit 360)::(nat_lit 361)::(nat_lit 364)::(nat_lit 371)::(nat_lit 373)::(nat_lit 374)::(nat_lit 376)::(nat_lit 377)::(nat_lit 378)::(nat_lit 380)::(nat_lit 381)::(nat_lit 383)::(nat_lit 384)::(nat_lit 385)::(nat_lit 387)::(nat_lit 388)::(nat_lit 390)::(nat_lit 391)::(nat_lit 392)::(nat_lit 394)::(nat_lit 395)::(nat_lit 397)::(nat_lit 398)::(nat_lit 399)::(nat_lit 401)::(nat_lit 402)::(nat_lit 404)::(nat_lit 405)::(nat_lit 406)::(nat_lit 407)::(nat_lit 408)::(nat_lit 411)::(nat_lit 418)::(nat_lit 420)::(nat_lit 421)::(nat_lit 423)::(nat_lit 424)::(nat_lit 425)::(nat_lit 427)::(nat_lit 428)::(nat_lit 430)::(nat_lit 431)::(nat_lit 432)::(nat_lit 434)::(nat_lit 435)::(nat_lit 437)::(nat_lit 438)::(nat_lit 439)::(nat_lit 440)::(nat_lit 441)::(nat_lit 444)::(nat_lit 451)::(nat_lit 453)::(nat_lit 454)::(nat_lit 456)::(nat_lit 457)::(nat_lit 458)::(nat_lit 460)::(nat_lit 461)::(nat_lit 463)::(nat_lit 464)::(nat_lit 465)::(nat_lit 467)::(nat_lit 468)::(nat_lit 470)::(nat_lit 471)::(nat_lit 472)::(nat_lit 474)::(nat_lit 475)::(nat_lit 477)::(nat_lit 478)::(nat_lit 479)::(nat_lit 481)::(nat_lit 482)::(nat_lit 484)::(nat_lit 485)::(nat_lit 486)::(nat_lit 487)::(nat_lit 488)::(nat_lit 491)::(nat_lit 498)::(nat_lit 500)::(nat_lit 501)::(nat_lit 503)::(nat_lit 504)::(nat_lit 505)::(nat_lit 507)::(nat_lit 508)::(nat_lit 510)::(nat_lit 511)::(nat_lit 512)::(nat_lit 514)::(nat_lit 515)::(nat_lit 517)::(nat_lit 518)::(nat_lit 519)::(nat_lit 521)::(nat_lit 522)::(nat_lit 524)::(nat_lit 525)::(nat_lit 526)::(nat_lit 528)::(nat_lit 529)::(nat_lit 531)::(nat_lit 532)::(nat_lit 533)::(nat_lit 535)::(nat_lit 536)::(nat_lit 538)::(nat_lit 539)::(nat_lit 540)::(nat_lit 541)::(nat_lit 542)::(nat_lit 545)::(nat_lit 547)::(nat_lit 548)::(nat_lit 550)::(nat_lit 551)::(nat_lit 552)::(nat_lit 554)::(nat_lit 555)::(nat_lit 557)::(nat_lit 558)::(nat_lit 559)::(nat_lit 561)::(nat_lit 562)::(nat_lit 564)::(nat_lit 565)::(nat_lit 566)::(nat_lit 568)::(nat_lit 569)::(nat_lit 571)::(nat_lit 572)::(nat_lit 573)::(nat_lit 575)::(nat_lit 576)::(nat_lit 578)::(nat_lit 579)::(nat_lit 580)::(nat_lit 582)::(nat_lit 583)::(nat_lit 585)::(nat_lit 586)::(nat_lit 587)::(nat_lit 589)::(nat_lit 590)::(nat_lit 592)::(nat_lit 593)::(nat_lit 594)::(nat_lit 596)::(nat_lit 597)::(nat_lit 599)::(nat_lit 600)::(nat_lit 601)::(nat_lit 603)::(nat_lit 604)::(nat_lit 606)::(nat_lit 607)::(nat_lit 608)::(nat_lit 610)::(nat_lit 611)::(nat_lit 613)::(nat_lit 614)::(nat_lit 615)::(nat_lit 617)::(nat_lit 618)::(nat_lit 620)::(nat_lit 621)::(nat_lit 622)::(nat_lit 624)::(nat_lit 625)::(nat_lit 627)::(nat_lit 628)::(nat_lit 629)::(nat_lit 631)::(nat_lit 632)::(nat_lit 634)::(nat_lit 635)::(nat_lit 636)::(nat_lit 638)::(nat_lit 639)::(nat_lit 641)::(nat_lit 642)::(nat_lit 643)::(nat_lit 646)::(nat_lit 647)::(nat_lit 648)::(nat_lit 651)::(nat_lit 652)::(nat_lit 653)::(nat_lit 655)::(nat_lit 656)::(nat_lit 658)::(nat_lit 659)::(nat_lit 660)::(nat_lit 662)::(nat_lit 663)::(nat_lit 665)::(nat_lit 666)::(nat_lit 667)::(nat_lit 669)::(nat_lit 670)::(nat_lit 672)::(nat_lit 673)::(nat_lit 674)::(nat_lit 676)::(nat_lit 677)::(nat_lit 679)::(nat_lit 680)::(nat_lit 681)::(nat_lit 683)::(nat_lit 684)::(nat_lit 686)::(nat_lit 687)::(nat_lit 688)::(nat_lit 690)::(nat_lit 691)::(nat_lit 693)::(nat_lit 694)::(nat_lit 695)::(nat_lit 697)::(nat_lit 698)::(nat_lit 700)::(nat_lit 701)::(nat_lit 702)::(nat_lit 704)::(nat_lit 705)::(nat_lit 707)::(nat_lit 708)::(nat_lit 709)::(nat_lit 711)::(nat_lit 712)::(nat_lit 714)::(nat_lit 715)::(nat_lit 716)::(nat_lit 718)::(nat_lit 719)::(nat_lit 721)::(nat_lit 722)::(nat_lit 723)::(nat_lit 725)::(nat_lit 726)::(nat_lit 728)::(nat_lit 729)::(nat_lit 730)::(nat_lit 732)::(nat_lit 733)::(nat_lit 735)::(nat_lit 736)::(nat_lit 737)::(nat_lit 739)::(nat_lit 740)::(nat_lit 742)::(nat_lit 743)::(nat_lit 744)::(nat_lit 747)::(nat_lit 748)::(nat_lit 749)::(nat_lit 752)::(nat_lit 753)::(nat_lit 754)::(nat_lit 756)::(nat_lit 757)::(nat_lit 759)::(nat_lit 760)::(nat_lit 761)::(nat_lit 763)::(nat_lit 764)::(nat_lit 766)::(nat_lit 767)::(nat_lit 768)::(nat_lit 770)::(nat_lit 771)::(nat_lit 773)::(nat_lit 774)::(nat_lit 775)::(nat_lit 777)::(nat_lit 778)::(nat_lit 780)::(nat_lit 781)::[])
def h_heap_39:PySem.Params→PySem.W.Frag:=fun x=>
(nat_lit 2,(@W.boot_o_2 x))::
(nat_lit 3,(XW x))::
(nat_lit 15,(zb x))::
(nat_lit 17,(o53 x))::
(nat_lit 18,(zb x))::
(nat_lit 20,(o56 x))::
(nat_lit 21,(o57 x))::
(nat_lit 22,(o58 x))::
(nat_lit 29,(zb x))::
(nat_lit 30,(o66 x))::
(nat_lit 31,(gv x))::
(nat_lit 32,(o68 x))::
(nat_lit 35,(zF x))::
(nat_lit 42,(zb x))::
(nat_lit 43,(o82 x))::
(nat_lit 44,(o83 x))::
(nat_lit 47,(zF x))::
(nat_lit 54,(zb x))::
(nat_lit 55,(o97 x))::
(nat_lit 56,(o98 x))::
(nat_lit 59,(zF x))::
(nat_lit 66,(zb x))::
(nat_lit 67,(kT x))::
(nat_lit 68,(kS x))::
(nat_lit 71,(zF x))::
(nat_lit 78,(zb x))::
(nat_lit 79,(kR x))::
(nat_lit 80,(kQ x))::
(nat_lit 83,(zF x))::
(nat_lit 90,(zb x))::
(nat_lit 91,(kP x))::
(nat_lit 92,(kO x))::
(nat_lit 95,(zF x))::
(nat_lit 102,(zb x))::
(nat_lit 103,(kN x))::
(nat_lit 104,(kM x))::
(nat_lit 107,(zF x))::
(nat_lit 114,(zb x))::
(nat_lit 115,(kL x))::
(nat_lit 116,(kK x))::
(nat_lit 119,(zF x))::
(nat_lit 126,(zb x))::
(nat_lit 127,(kJ x))::
(nat_lit 128,(kI x))::
(nat_lit 131,(zF x))::
(nat_lit 138,(zb x))::
(nat_lit 139,(gC x))::
(nat_lit 140,(gB x))::
(nat_lit 143,(zF x))::
(nat_lit 150,(zb x))::
(nat_lit 151,(gA x))::
(nat_lit 152,(gz x))::
(nat_lit 155,(zF x))::
(nat_lit 162,(zb x))::
(nat_lit 163,(gx x))::
(nat_lit 164,(gw x))::
(nat_lit 167,(zF x))::
(nat_lit 174,(zb x))::
(nat_lit 175,(gu x))::
(nat_lit 176,(gq x))::
(nat_lit 179,(zb x))::
(nat_lit 181,(gp x))::
(nat_lit 182,(zb x))::
(nat_lit 184,(gm x))::
(nat_lit 185,(gk x))::
(nat_lit 186,(zb x))::
(nat_lit 188,(gj x))::
(nat_lit 189,(zb x))::
(nat_lit 191,(gi x))::
(nat_lit 192,(gh x))::
(nat_lit 193,(zb x))::
(nat_lit 195,(gg x))::
(nat_lit 196,(zb x))::
(nat_lit 198,(gf x))::
(nat_lit 199,(ge x))::
(nat_lit 200,(zb x))::
(nat_lit 202,(gd x))::
(nat_lit 203,(zb x))::
(nat_lit 205,(gc x))::
(nat_lit 206,(gb x))::
(nat_lit 207,(zb x))::
(nat_lit 209,(h_ x))::
(nat_lit 210,(zb x))::
(nat_lit 212,(h9 x))::
(nat_lit 213,(h8 x))::
(nat_lit 214,(zb x))::
(nat_lit 216,(hZ x))::
(nat_lit 217,(zb x))::
(nat_lit 219,(hW x))::
(nat_lit 220,(hV x))::
(nat_lit 221,(zb x))::
(nat_lit 223,(hU x))::
(nat_lit 224,(zb x))::
(nat_lit 226,(hG x))::
(nat_lit 227,(i_ x))::
(nat_lit 228,(zb x))::
(nat_lit 230,(i9 x))::
(nat_lit 231,(zb x))::
(nat_lit 233,(i8 x))::
(nat_lit 234,(i7 x))::
(nat_lit 242,(zb x))::
(nat_lit 244,(i6 x))::
(nat_lit 245,(zb x))::
(nat_lit 247,(iZ x))::
(nat_lit 248,(iY x))::
(nat_lit 249,(zb x))::
(nat_lit 251,(iX x))::
(nat_lit 252,(zb x))::
(nat_lit 254,(iW x))::
(nat_lit 255,(iV x))::
(nat_lit 256,(zb x))::
(nat_lit 258,(iU x))::
(nat_lit 259,(zb x))::
(nat_lit 261,(iT x))::
(nat_lit 262,(iS x))::
(nat_lit 263,(zb x))::
(nat_lit 265,(iR x))::
(nat_lit 266,(zb x))::
(nat_lit 268,(iQ x))::
(nat_lit 269,(iP x))::
(nat_lit 270,(zb x))::
(nat_lit 272,(iO x))::
(nat_lit 273,(zb x))::
(nat_lit 275,(iN x))::
(nat_lit 276,(iM x))::
(nat_lit 277,(zb x))::
(nat_lit 279,(iL x))::
(nat_lit 280,(zb x))::
(nat_lit 282,(iK x))::
(nat_lit 283,(iJ x))::
(nat_lit 284,(zb x))::
(nat_lit 285,(iI x))::
(nat_lit 286,(cU x))::
(nat_lit 287,(iH x))::
(nat_lit 288,(iG x))::
(nat_lit 291,(yY x))::
(nat_lit 298,(zb x))::
(nat_lit 300,(iF x))::
(nat_lit 301,(zb x))::
(nat_lit 303,(iE x))::
(nat_lit 304,(iD x))::
(nat_lit 305,(zb x))::
(nat_lit 307,(iC x))::
(nat_lit 308,(zb x))::
(nat_lit 310,(iB x))::
(nat_lit 311,(iA x))::
(nat_lit 312,(zb x))::
(nat_lit 314,(iz x))::
(nat_lit 315,(zb x))::
(nat_lit 317,(iy x))::
(nat_lit 318,(iw x))::
(nat_lit 319,(ir x))::
(nat_lit 320,(iq x))::
(nat_lit 321,(ip x))::
(nat_lit 324,(yY x))::
(nat_lit 331,(zb x))::
(nat_lit 333,(ai x))::
(nat_lit 334,(zb x))::
(nat_lit 336,(ah x))::
(nat_lit 337,(ag x))::
(nat_lit 338,(zb x))::
(nat_lit 340,(af x))::
(nat_lit 341,(zb x))::
(nat_lit 343,(ae x))::
(nat_lit 344,(ad x))::
(nat_lit 345,(zb x))::
(nat_lit 347,(ac x))::
(nat_lit 348,(zb x))::
(nat_lit 350,(aa x))::
(nat_lit 351,(b_ x))::
(nat_lit 352,(zb x))::
(nat_lit 354,(bZ x))::
(nat_lit 355,(zb x))::
(nat_lit 357,(bY x))::
(nat_lit 358,(bX x))::
(nat_lit 359,(bW x))::
(nat_lit 360,(bV x))::
(nat_lit 361,(bU x))::
(nat_lit 364,(yY x))::
(nat_lit 371,(zb x))::
(nat_lit 373,(bT x))::
(nat_lit 374,(zb x))::
(nat_lit 376,(bS x))::
(nat_lit 377,(bR x))::
(nat_lit 378,(zb x))::
(nat_lit 380,(bQ x))::
(nat_lit 381,(zb x))::
(nat_lit 383,(bP x))::
(nat_lit 384,(bO x))::
(nat_lit 385,(zb x))::
(nat_lit 387,(bN x))::
(nat_lit 388,(zb x))::
(nat_lit 390,(bM x))::
(nat_lit 391,(bL x))::
(nat_lit 392,(zb x))::
(nat_lit 394,(bK x))::
(nat_lit 395,(zb x))::
(nat_lit 397,(bJ x))::
(nat_lit 398,(bI x))::
(nat_lit 399,(zb x))::
(nat_lit 401,(bH x))::
(nat_lit 402,(zb x))::
(nat_lit 404,(bG x))::
(nat_lit 405,(bF x))::
(nat_lit 406,(bE x))::
(nat_lit 407,(bD x))::
(nat_lit 408,(bC x))::
(nat_lit 411,(yY x))::
(nat_lit 418,(zb x))::
(nat_lit 420,(bB x))::
(nat_lit 421,(zb x))::
(nat_lit 423,(bA x))::
(nat_lit 424,(bz x))::
(nat_lit 425,(zb x))::
(nat_lit 427,(bx x))::
(nat_lit 428,(zb x))::
(nat_lit 430,(bw x))::
(nat_lit 431,(bv x))::
(nat_lit 432,(zb x))::
(nat_lit 434,(bu x))::
(nat_lit 435,(zb x))::
(nat_lit 437,(br x))::
(nat_lit 438,(bq x))::
(nat_lit 439,(bp x))::
(nat_lit 440,(bo x))::
(nat_lit 441,(bn x))::
(nat_lit 444,(yY x))::
(nat_lit 451,(zb x))::
(nat_lit 453,(bj x))::
(nat_lit 454,(zb x))::
(nat_lit 456,(bh x))::
(nat_lit 457,(bg x))::
(nat_lit 458,(zb x))::
(nat_lit 460,(bf x))::
(nat_lit 461,(zb x))::
(nat_lit 463,(bc x))::
(nat_lit 464,(bb x))::
(nat_lit 465,(zb x))::
(nat_lit 467,(ba x))::
(nat_lit 468,(zb x))::
(nat_lit 470,(c_ x))::
(nat_lit 471,(c9 x))::
(nat_lit 472,(zb x))::
(nat_lit 474,(c8 x))::
(nat_lit 475,(zb x))::
(nat_lit 477,(c7 x))::
(nat_lit 478,(c6 x))::
(nat_lit 479,(zb x))::
(nat_lit 481,(c5 x))::
(nat_lit 482,(zb x))::
(nat_lit 484,(cZ x))::
(nat_lit 485,(cY x))::
(nat_lit 486,(cX x))::
(nat_lit 487,(cW x))::
(nat_lit 488,(cV x))::
(nat_lit 491,(yY x))::
(nat_lit 498,(zb x))::
(nat_lit 500,(cT x))::
(nat_lit 501,(zb x))::
(nat_lit 503,(cS x))::
(nat_lit 504,(cR x))::
(nat_lit 505,(zb x))::
(nat_lit 507,(cQ x))::
(nat_lit 508,(zb x))::
(nat_lit 510,(cP x))::
(nat_lit 511,(cO x))::
(nat_lit 512,(zb x))::
(nat_lit 514,(cN x))::
(nat_lit 515,(zb x))::
(nat_lit 517,(cM x))::
(nat_lit 518,(cL x))::
(nat_lit 519,(zb x))::
(nat_lit 521,(cK x))::
(nat_lit 522,(zb x))::
(nat_lit 524,(cJ x))::
(nat_lit 525,(cI x))::
(nat_lit 526,(zb x))::
(nat_lit 528,(cH x))::
(nat_lit 529,(zb x))::
(nat_lit 531,(cG x))::
(nat_lit 532,(cF x))::
(nat_lit 533,(zb x))::
(nat_lit 535,(cE x))::
(nat_lit 536,(zb x))::
(nat_lit 538,(cD x))::
(nat_lit 539,(cC x))::
(nat_lit 540,(cB x))::
(nat_lit 541,(cA x))::
(nat_lit 542,(cz x))::
(nat_lit 545,(zb x))::
(nat_lit 547,(W5 x))::
(nat_lit 548,(zb x))::
(nat_lit 550,(WZ x))::
(nat_lit 551,(WY x))::
(nat_lit 552,(zb x))::
(nat_lit 554,(WX x))::
(nat_lit 555,(zb x))::
(nat_lit 557,(WW x))::
(nat_lit 558,(WV x))::
(nat_lit 559,(zb x))::
(nat_lit 561,(WU x))::
(nat_lit 562,(zb x))::
(nat_lit 564,(WT x))::
(nat_lit 565,(WS x))::
(nat_lit 566,(zb x))::
(nat_lit 568,(WR x))::
(nat_lit 569,(zb x))::
(nat_lit 571,(WQ x))::
(nat_lit 572,(WP x))::
(nat_lit 573,(zb x))::
(nat_lit 575,(WO x))::
(nat_lit 576,(zb x))::
(nat_lit 578,(WN x))::
(nat_lit 579,(WM x))::
(nat_lit 580,(zb x))::
(nat_lit 582,(WL x))::
(nat_lit 583,(zb x))::
(nat_lit 585,(WK x))::
(nat_lit 586,(WJ x))::
(nat_lit 587,(zb x))::
(nat_lit 589,(WI x))::
(nat_lit 590,(zb x))::
(nat_lit 592,(WH x))::
(nat_lit 593,(WG x))::
(nat_lit 594,(zb x))::
(nat_lit 596,(WF x))::
(nat_lit 597,(zb x))::
(nat_lit 599,(WE x))::
(nat_lit 600,(WD x))::
(nat_lit 601,(zb x))::
(nat_lit 603,(WC x))::
(nat_lit 604,(zb x))::
(nat_lit 606,(WB x))::
(nat_lit 607,(WA x))::
(nat_lit 608,(zb x))::
(nat_lit 610,(Wz x))::
(nat_lit 611,(zb x))::
(nat_lit 613,(Wy x))::
(nat_lit 614,(Wx x))::
(nat_lit 615,(zb x))::
(nat_lit 617,(Ww x))::
(nat_lit 618,(zb x))::
(nat_lit 620,(Wv x))::
(nat_lit 621,(Wu x))::
(nat_lit 622,(zb x))::
(nat_lit 624,(Wt x))::
(nat_lit 625,(zb x))::
(nat_lit 627,(Ws x))::
(nat_lit 628,(Wr x))::
(nat_lit 629,(zb x))::
(nat_lit 631,(Wq x))::
(nat_lit 632,(zb x))::
(nat_lit 634,(Wp x))::
(nat_lit 635,(Wo x))::
(nat_lit 636,(zb x))::
(nat_lit 638,(Wn x))::
(nat_lit 639,(zb x))::
(nat_lit 641,(Wm x))::
(nat_lit 642,(Wl x))::
(nat_lit 643,(zb x))::
(nat_lit 646,(Wk x))::
(nat_lit 647,(Wj x))::
(nat_lit 648,(zb x))::
(nat_lit 651,(Wi x))::
(nat_lit 652,(Wh x))::
(nat_lit 653,(zb x))::
(nat_lit 655,(Wg x))::
(nat_lit 656,(zb x))::
(nat_lit 658,(Wf x))::
(nat_lit 659,(We x))::
(nat_lit 660,(zb x))::
(nat_lit 662,(Wd x))::
(nat_lit 663,(zb x))::
(nat_lit 665,(Wc x))::
(nat_lit 666,(Wb x))::
(nat_lit 667,(zb x))::
(nat_lit 669,(Wa x))::
(nat_lit 670,(zb x))::
(nat_lit 672,(X_ x))::
(nat_lit 673,(X9 x))::
(nat_lit 674,(zb x))::
(nat_lit 676,(X8 x))::
(nat_lit 677,(zb x))::
(nat_lit 679,(X7 x))::
(nat_lit 680,(X6 x))::
(nat_lit 681,(zb x))::
(nat_lit 683,(X5 x))::
(nat_lit 684,(zb x))::
(nat_lit 686,(X4 x))::
(nat_lit 687,(X3 x))::
(nat_lit 688,(zb x))::
(nat_lit 690,(X2 x))::
(nat_lit 691,(zb x))::
(nat_lit 693,(X1 x))::
(nat_lit 694,(X0 x))::
(nat_lit 695,(zb x))::
(nat_lit 697,(XZ x))::
(nat_lit 698,(zb x))::
(nat_lit 700,(XY x))::
(nat_lit 701,(XX x))::
(nat_lit 702,(zb x))::
(nat_lit 704,(XV x))::
(nat_lit 705,(zb x))::
(nat_lit 707,(XU x))::
(nat_lit 708,(XT x))::
(nat_lit 709,(zb x))::
(nat_lit 711,(XS x))::
(nat_lit 712,(zb x))::
(nat_lit 714,(XR x))::
(nat_lit 715,(XQ x))::
(nat_lit 716,(zb x))::
(nat_lit 718,(XO x))::
(nat_lit 719,(zb x))::
(nat_lit 721,(XN x))::
(nat_lit 722,(XM x))::
(nat_lit 723,(zb x))::
(nat_lit 725,(XJ x))::
(nat_lit 726,(zb x))::
(nat_lit 728,(XI x))::
(nat_lit 729,(XH x))::
(nat_lit 730,(zb x))::
(nat_lit 732,(XG x))::
(nat_lit 733,(zb x))::
(nat_lit 735,(XF x))::
(nat_lit 736,(XE x))::
(nat_lit 737,(zb x))::
(nat_lit 739,(XD x))::
(nat_lit 740,(zb x))::
(nat_lit 742,(XC x))::
(nat_lit 743,(XB x))::
(nat_lit 744,(zb x))::
(nat_lit 747,(XA x))::
(nat_lit 748,(Xz x))::
(nat_lit 749,(zb x))::
(nat_lit 752,(Xy x))::
(nat_lit 753,(Xx x))::
(nat_lit 754,(zb x))::
(nat_lit 756,(Xw x))::
(nat_lit 757,(zb x))::
(nat_lit 759,(Xv x))::
(nat_lit 760,(Xu x))::
(nat_lit 761,(zb x))::
(nat_lit 763,(Xs x))::
(nat_lit 764,(zb x))::
(nat_lit 766,(Xr x))::
(nat_lit 767,(Xq x))::
(nat_lit 768,(zb x))::
(nat_lit 770,(Xp x))::
(nat_lit 771,(zb x))::
(nat_lit 773,(Xo x))::
(nat_lit 774,(Xn x))::
(nat_lit 775,(zb x))::
(nat_lit 777,(Xm x))::
(nat_lit 778,(zb x))::
(nat_lit 780,(Xl x))::
(nat_lit 781,(Xk x))::[]
def h_view_39:PySem.Program:={ PySem.Challenge.pw_oddbases_k32_differences with main:={ PySem.Challenge.pw_oddbases_k32_differences.main with body:=[My.top 0,My.top 2,My.top 3,My.top 4,My.top 5,My.top 6,My.top 7,My.top 8,My.top 9,My.top 10,My.top 11,My.top 12,My.top 13,My.top 14,My.top 16,My.top 17,My.top 18,My.top 19,My.top 20,My.top 22,My.top 23,My.top 25,My.top 26,My.top 27,My.top 28,My.top 29,My.top 30,My.top 31,My.top 32,My.top 34,My.top 35,My.top 36,My.top 37,My.top 38,My.top 39,My.top 40,My.top 42,My.top 43,My.top 45,My.top 46,My.top 47,My.top 48,My.top 49,My.top 51,My.top 52,My.top 53,My.top 54,My.top 55,My.top 56,My.top 58,My.top 59,My.top 60,My.top 61,My.top 62,My.top 63,My.top 64,My.top 65,My.top 66,My.top 67,My.top 68,My.top 69,My.top 70,My.top 71,My.top 72] } }
def xm:((x:@Params)→@Heap):=(fun x=>(@Heap.mk (@Array.mk @Obj ((@W.boot_o_0 x)::(@W.boot_o_1 x)::(@W.boot_o_2 x)::(XW x)::(@W.boot_o_4 x)::(@W.boot_o_5 x)::(@W.boot_o_6 x)::(@W.boot_o_7 x)::(@W.boot_o_8 x)::(@W.boot_o_9 x)::(@W.boot_o_10 x)::(zb x)::(TK x)::(o45 x)::(o46 x)::(zb x)::(zg x)::(o53 x)::(zb x)::(o55 x)::(o56 x)::(o57 x)::(o58 x)::(zA x)::(o60 x)::(zb x)::(zg x)::(o63 x)::(o64 x)::(zb x)::(o66 x)::(gv x)::(o68 x)::(o69 x)::(o70 x)::(zF x)::(zA x)::(o76 x)::(zb x)::(zg x)::(o79 x)::(o80 x)::(zb x)::(o82 x)::(o83 x)::(o84 x)::(o85 x)::(zF x)::(zA x)::(o91 x)::(zb x)::(zg x)::(o94 x)::(o95 x)::(zb x)::(o97 x)::(o98 x)::(o99 x)::(fk x)::(zF x)::(zA x)::(fj x)::(zb x)::(zg x)::(fh x)::(fg x)::(zb x)::(kT x)::(kS x)::(ff x)::(fe x)::(zF x)::(zA x)::(fc x)::(zb x)::(zg x)::(fb x)::(g9 x)::(zb x)::(kR x)::(kQ x)::(g8 x)::(g7 x)::(zF x)::(zA x)::(g6 x)::(zb x)::(zg x)::(gZ x)::(gY x)::(zb x)::(kP x)::(kO x)::(gX x)::(gW x)::(zF x)::(zA x)::(gU x)::(zb x)::(zg x)::(gT x)::(gR x)::(zb x)::(kN x)::(kM x)::(gQ x)::(gP x)::(zF x)::(zA x)::(gO x)::(zb x)::(zg x)::(gN x)::(gM x)::(zb x)::(kL x)::(kK x)::(gL x)::(gK x)::(zF x)::(zA x)::(gJ x)::(zb x)::(zg x)::(gH x)::(gG x)::(zb x)::(kJ x)::(kI x)::(gF x)::(gE x)::(zF x)::(zA x)::(Zk x)::(zb x)::(zg x)::(Zj x)::(Zi x)::(zb x)::(gC x)::(gB x)::(Zh x)::(Zg x)::(zF x)::(zA x)::(Zf x)::(zb x)::(zg x)::(Ze x)::(Zd x)::(zb x)::(gA x)::(gz x)::(Zc x)::(Zb x)::(zF x)::(zA x)::(Za x)::(zb x)::(zg x)::(a_ x)::(aZ x)::(zb x)::(gx x)::(gw x)::(aY x)::(aX x)::(zF x)::(zA x)::(aW x)::(zb x)::(zg x)::(aV x)::(aU x)::(zb x)::(gu x)::(gq x)::(aS x)::(aR x)::(zb x)::(zg x)::(gp x)::(zb x)::(aQ x)::(gm x)::(gk x)::(zb x)::(zg x)::(gj x)::(zb x)::(aP x)::(gi x)::(gh x)::(zb x)::(zg x)::(gg x)::(zb x)::(aO x)::(gf x)::(ge x)::(zb x)::(zg x)::(gd x)::(zb x)::(aN x)::(gc x)::(gb x)::(zb x)::(zg x)::(h_ x)::(zb x)::(aM x)::(h9 x)::(h8 x)::(zb x)::(zg x)::(hZ x)::(zb x)::(aL x)::(hW x)::(hV x)::(zb x)::(zg x)::(hU x)::(zb x)::(aK x)::(hG x)::(i_ x)::(zb x)::(zg x)::(i9 x)::(zb x)::(aJ x)::(i8 x)::(i7 x)::(zb x)::(zA x)::(aI x)::(zb x)::(aH x)::(aG x)::(aF x)::(zb x)::(zg x)::(i6 x)::(zb x)::(aE x)::(iZ x)::(iY x)::(zb x)::(zg x)::(iX x)::(zb x)::(aD x)::(iW x)::(iV x)::(zb x)::(zg x)::(iU x)::(zb x)::(aC x)::(iT x)::(iS x)::(zb x)::(zg x)::(iR x)::(zb x)::(aB x)::(iQ x)::(iP x)::(zb x)::(zg x)::(iO x)::(zb x)::(aA x)::(iN x)::(iM x)::(zb x)::(zg x)::(iL x)::(zb x)::(az x)::(iK x)::(iJ x)::(zb x)::(iI x)::(cU x)::(iH x)::(iG x)::(ay x)::(ax x)::(yY x)::(zA x)::(aw x)::(zb x)::(av x)::(au x)::(aq x)::(zb x)::(zg x)::(iF x)::(zb x)::(ap x)::(iE x)::(iD x)::(zb x)::(zg x)::(iC x)::(zb x)::(ao x)::(iB x)::(iA x)::(zb x)::(zg x)::(iz x)::(zb x)::(al x)::(iy x)::(iw x)::(ir x)::(iq x)::(ip x)::(ak x)::(aj x)::(yY x)::(zA x)::(VY x)::(zb x)::(VX x)::(VW x)::(VV x)::(zb x)::(zg x)::(ai x)::(zb x)::(VU x)::(ah x)::(ag x)::(zb x)::(zg x)::(af x)::(zb x)::(VT x)::(ae x)::(ad x)::(zb x)::(zg x)::(ac x)::(zb x)::(VS x)::(aa x)::(b_ x)::(zb x)::(zg x)::(bZ x)::(zb x)::(VR x)::(bY x)::(bX x)::(bW x)::(bV x)::(bU x)::(VQ x)::(VP x)::(yY x)::(zA x)::(VO x)::(zb x)::(VN x)::(VM x)::(VL x)::(zb x)::(zg x)::(bT x)::(zb x)::(VJ x)::(bS x)::(bR x)::(zb x)::(zg x)::(bQ x)::(zb x)::(VI x)::(bP x)::(bO x)::(zb x)::(zg x)::(bN x)::(zb x)::(VH x)::(bM x)::(bL x)::(zb x)::(zg x)::(bK x)::(zb x)::(VG x)::(bJ x)::(bI x)::(zb x)::(zg x)::(bH x)::(zb x)::(VF x)::(bG x)::(bF x)::(bE x)::(bD x)::(bC x)::(VE x)::(VD x)::(yY x)::(zA x)::(VC x)::(zb x)::(VB x)::(VA x)::(Vz x)::(zb x)::(zg x)::(bB x)::(zb x)::(Vy x)::(bA x)::(bz x)::(zb x)::(zg x)::(bx x)::(zb x)::(Vx x)::(bw x)::(bv x)::(zb x)::(zg x)::(bu x)::(zb x)::(Vv x)::(br x)::(bq x)::(bp x)::(bo x)::(bn x)::(Vu x)::(Vs x)::(yY x)::(zA x)::(Vr x)::(zb x)::(Vq x)::(Vp x)::(Vo x)::(zb x)::(zg x)::(bj x)::(zb x)::(Vn x)::(bh x)::(bg x)::(zb x)::(zg x)::(bf x)::(zb x)::(Vm x)::(bc x)::(bb x)::(zb x)::(zg x)::(ba x)::(zb x)::(Vl x)::(c_ x)::(c9 x)::(zb x)::(zg x)::(c8 x)::(zb x)::(Vk x)::(c7 x)::(c6 x)::(zb x)::(zg x)::(c5 x)::(zb x)::(Vj x)::(cZ x)::(cY x)::(cX x)::(cW x)::(cV x)::(Vi x)::(Vh x)::(yY x)::(zA x)::(Vg x)::(zb x)::(Vf x)::(Ve x)::(Vd x)::(zb x)::(zg x)::(cT x)::(zb x)::(Vc x)::(cS x)::(cR x)::(zb x)::(zg x)::(cQ x)::(zb x)::(Vb x)::(cP x)::(cO x)::(zb x)::(zg x)::(cN x)::(zb x)::(Va x)::(cM x)::(cL x)::(zb x)::(zg x)::(cK x)::(zb x)::(W_ x)::(cJ x)::(cI x)::(zb x)::(zg x)::(cH x)::(zb x)::(W9 x)::(cG x)::(cF x)::(zb x)::(zg x)::(cE x)::(zb x)::(W8 x)::(cD x)::(cC x)::(cB x)::(cA x)::(cz x)::(W7 x)::(W6 x)::(zb x)::(zg x)::(W5 x)::(zb x)::(Sc x)::(WZ x)::(WY x)::(zb x)::(zg x)::(WX x)::(zb x)::(Sb x)::(WW x)::(WV x)::(zb x)::(zg x)::(WU x)::(zb x)::(Sa x)::(WT x)::(WS x)::(zb x)::(zg x)::(WR x)::(zb x)::(T_ x)::(WQ x)::(WP x)::(zb x)::(zg x)::(WO x)::(zb x)::(T9 x)::(WN x)::(WM x)::(zb x)::(zg x)::(WL x)::(zb x)::(T8 x)::(WK x)::(WJ x)::(zb x)::(zg x)::(WI x)::(zb x)::(T7 x)::(WH x)::(WG x)::(zb x)::(zg x)::(WF x)::(zb x)::(T6 x)::(WE x)::(WD x)::(zb x)::(zg x)::(WC x)::(zb x)::(T5 x)::(WB x)::(WA x)::(zb x)::(zg x)::(Wz x)::(zb x)::(T4 x)::(Wy x)::(Wx x)::(zb x)::(zg x)::(Ww x)::(zb x)::(T3 x)::(Wv x)::(Wu x)::(zb x)::(zg x)::(Wt x)::(zb x)::(T0 x)::(Ws x)::(Wr x)::(zb x)::(zg x)::(Wq x)::(zb x)::(TZ x)::(Wp x)::(Wo x)::(zb x)::(zg x)::(Wn x)::(zb x)::(TY x)::(Wm x)::(Wl x)::(zb x)::(zg x)::(TX x)::(Wk x)::(Wj x)::(zb x)::(zg x)::(TW x)::(Wi x)::(Wh x)::(zb x)::(zg x)::(Wg x)::(zb x)::(TV x)::(Wf x)::(We x)::(zb x)::(zg x)::(Wd x)::(zb x)::(TU x)::(Wc x)::(Wb x)::(zb x)::(zg x)::(Wa x)::(zb x)::(TR x)::(X_ x)::(X9 x)::(zb x)::(zg x)::(X8 x)::(zb x)::(TQ x)::(X7 x)::(X6 x)::(zb x)::(zg x)::(X5 x)::(zb x)::(TN x)::(X4 x)::(X3 x)::(zb x)::(zg x)::(X2 x)::(zb x)::(TM x)::(X1 x)::(X0 x)::(zb x)::(zg x)::(XZ x)::(zb x)::(TL x)::(XY x)::(XX x)::(zb x)::(zg x)::(XV x)::(zb x)::(TJ x)::(XU x)::(XT x)::(zb x)::(zg x)::(XS x)::(zb x)::(TH x)::(XR x)::(XQ x)::(zb x)::(zg x)::(XO x)::(zb x)::(TF x)::(XN x)::(XM x)::(zb x)::(zg x)::(XJ x)::(zb x)::(TD x)::(XI x)::(XH x)::(zb x)::(zg x)::(XG x)::(zb x)::(TC x)::(XF x)::(XE x)::(zb x)::(zg x)::(XD x)::(zb x)::(Tz x)::(XC x)::(XB x)::(zb x)::(zg x)::(Ty x)::(XA x)::(Xz x)::(zb x)::(zg x)::(Tx x)::(Xy x)::(Xx x)::(zb x)::(zg x)::(Xw x)::(zb x)::(Tw x)::(Xv x)::(Xu x)::(zb x)::(zg x)::(Xs x)::(zb x)::(Tv x)::(Xr x)::(Xq x)::(zb x)::(zg x)::(Xp x)::(zb x)::(Tu x)::(Xo x)::(Xn x)::(zb x)::(zg x)::(Xm x)::(zb x)::(Tt x)::(Xl x)::(Xk x)::[])) (@Life.mk [] [] [] 0 (@List.nil (@Prod @Nat @Nat)) [] @Bool.false #[] [] 0 @Bool.false @Bool.false @Bool.false (0:Int) [(2000:Int),(10:Int),(10:Int)] @Bool.false 0 @Bool.true [] [] 0 @Bool.false)))
def yc:@Env:=(@Env.mk (@Module.scope (@Program.main ((@W.OpenRow.toRowW (@W.OpenLaw.row @Challenge.rw_oddbases_k32_differences))).1)) @mainNs @mainNs (@List.nil (@Prod @Str @Addr)) @Str.empty (@Option.none @Addr) (r_ 13) (@some @Addr (@OfNat.ofNat @Addr 14 (@instOfNatNat 14))) (@OfNat.ofNat @Addr 0 (@instOfNatNat 0)))
def mx:=N_ W.boot_o_0 (N_ W.boot_o_1 (N_ XW (N_ W.boot_o_7 (N_ zb (N_ gv (N_ zg (N_ kJ (N_ iV (L_ cO) (L_ Xq)) (N_ bP (L_ zb) Z_)) (N_ gi (N_ ir (L_ WO) Z_) Y3)) (N_ zF (N_ zg (N_ iH (L_ W7) Z_) (N_ VB (L_ TR) Z_)) (N_ hU (N_ b_ (L_ WA) Z_) (N_ zb (L_ XF) Z_)))) (N_ zF (N_ kR (N_ zF Y4 (N_ zb (L_ Wg) Z_)) (N_ zb (N_ VU (L_ T7) Z_) (N_ bc (L_ zb) Z_))) (N_ zg (N_ gu (N_ iE (L_ zb) Z_) (N_ bv (L_ X3) Z_)) (N_ aH Y3 (N_ Vf (L_ Tx) Z_))))) (N_ zA (N_ zg (N_ zF (N_ zg Y1 (N_ bL (L_ Wj) Z_)) (N_ ge Y5 (N_ Vn (L_ XS) Z_))) (N_ kN (N_ zF (N_ av (L_ WY) Z_) (N_ bA (L_ X7) Z_)) (N_ zb (N_ bW (L_ zb) Z_) (N_ cW (L_ XB) Z_)))) (N_ o97 (N_ zg (N_ gA (N_ iL (L_ cE) Z_) (N_ bD (L_ zb) Z_)) (N_ zg (N_ ae (L_ WE) Z_) (N_ c9 (L_ TD) Z_))) (N_ zF (N_ aQ (N_ iA (L_ zg) Z_) (N_ bp (L_ zb) Z_)) (N_ iZ (N_ VJ (L_ Wq) Z_) (N_ cS (L_ Xv) Z_)))))) (N_ zb (N_ o55 (N_ zF (N_ kT (N_ zF Y1 (N_ bN (L_ zb) Z_)) (N_ gg (N_ aj (L_ WM) Z_) (N_ zb (L_ XU) Z_))) (N_ zg (N_ gx (N_ yY (L_ W5) Z_) Y4) (N_ i_ Y5 (N_ Vj (L_ XD) Z_)))) (N_ zg (N_ zF (N_ zg (N_ iN (L_ cG) Z_) (N_ VF (L_ We) Z_)) (N_ aM Y4 (N_ ba (L_ zb) Z_))) (N_ kL (N_ zb (N_ iC (L_ Sa) Z_) Y5) (N_ zg (N_ zb (L_ Ws) Z_) Y4)))) (N_ o63 (N_ o82 (N_ zg (N_ gC (N_ aB (L_ W_) (L_ Tt)) (N_ zb (L_ Wi) Z_)) (N_ zb Y5 (N_ zg (L_ XQ) Z_))) (N_ zF (N_ zg Y6 (N_ bx (L_ X5) Z_)) (N_ zb (N_ VP (L_ T3) Z_) (N_ yY (L_ XA) Z_)))) (N_ zF (N_ kP (N_ zF (N_ iJ (L_ cC) Z_) (N_ yY (L_ zb) Z_)) (N_ hW (N_ ac (L_ WC) Z_) Y3)) (N_ zg (N_ zg (N_ zb (L_ WQ) Z_) (N_ Vs (L_ TL) Z_)) (N_ iX (N_ zg (L_ Wo) Z_) (N_ cQ (L_ Xs) Z_))))))) (N_ W.boot_o_5 (N_ W.boot_o_9 (N_ o53 (N_ o69 (N_ fg (N_ gF (N_ zg (L_ zg) (L_ zg)) (N_ zb (L_ Wm) Z_)) (N_ zb (N_ ip (L_ T9) Z_) (N_ Vp (L_ zb) Z_))) (N_ gU (N_ aZ (N_ ay (L_ zb) Z_) (N_ Vz (L_ X9) Z_)) (N_ aK Y4 (N_ c5 (L_ zb) Z_)))) (N_ o91 (N_ g8 (N_ Zf Y5 (N_ bH (L_ TV) Z_)) (N_ h_ (N_ ag (L_ WG) Z_) (N_ zb (L_ XN) Z_))) (N_ gM (N_ aS (N_ zb (L_ WU) Z_) Y4) (N_ aF (N_ VM (L_ zb) Z_) (N_ Vd (L_ Xx) Z_))))) (N_ zb (N_ o80 (N_ fc (N_ Zi (N_ iR (L_ cK) (L_ Xm)) Y4) (N_ zg (N_ VW (L_ WK) Z_) (N_ bg (L_ TH) Z_))) (N_ gQ (N_ aW (N_ aq (L_ zg) Z_) Y5) (N_ i8 (N_ bU (L_ Ww) Z_) (N_ Vi (L_ zg) Z_)))) (N_ o99 (N_ gY (N_ Zc (N_ az (L_ W8) Z_) (N_ VE (L_ Wc) Z_)) (N_ zb Y5 (N_ zg (L_ XH) Z_))) (N_ gJ (N_ gk Y6 (N_ bn (L_ XZ) Z_)) (N_ zb (N_ bR (L_ TZ) Z_) Y5))))) (N_ o45 (N_ o57 (N_ o76 (N_ ff (N_ Zk (N_ iT (L_ cM) (L_ Xo)) (N_ VH (L_ TX) Z_)) (N_ aO (N_ zA (L_ zg) Z_) (N_ bj (L_ zb) Z_))) (N_ gR (N_ aY (N_ aw (L_ Sc) Z_) Y5) (N_ zg (N_ bY (L_ Wy) Z_) (N_ cY (L_ Tz) Z_)))) (N_ o95 (N_ g6 (N_ Zd Y5 (N_ bF (L_ zg) Z_)) (N_ h8 Y5 (N_ Vl (L_ XJ) Z_))) (N_ gL (N_ gp (N_ ao (L_ WS) Z_) (N_ br (L_ X1) Z_)) (N_ zb (N_ bT (L_ zb) Z_) Y5)))) (N_ zb (N_ o84 (N_ g9 (N_ Zh (N_ iP (L_ cI) (L_ Xk)) (N_ bJ (L_ zb) Z_)) (N_ gc (N_ ai (L_ WI) Z_) Y3)) (N_ gO (N_ aU (N_ zb (L_ WW) Z_) (N_ Vx (L_ TN) Z_)) (N_ aI (N_ zA (L_ Wu) Z_) (N_ Vg (L_ zb) Z_)))) (N_ fj (N_ gX (N_ Za (N_ iI (L_ cA) Z_) (N_ VC (L_ Wa) Z_)) (N_ zb (N_ VS (L_ T5) Z_) (N_ c7 (L_ zb) Z_))) (N_ gG (N_ zb (N_ iy (L_ zb) Z_) (N_ zA (L_ XX) Z_)) (N_ aD Y3 (N_ Vb (L_ Tv) Z_)))))))) (N_ W.boot_o_2 (N_ W.boot_o_4 (N_ W.boot_o_8 (N_ zg (N_ o68 (N_ fh (N_ kI Y1 (N_ bO (L_ TY) Z_)) (N_ gh (N_ iq (L_ zb) Z_) (N_ Vq (L_ XV) Z_))) (N_ zA (N_ a_ (N_ iG (L_ W6) Z_) (N_ VA (L_ X_) Z_)) (N_ zb Y5 (N_ zg (L_ XE) Z_)))) (N_ zA (N_ kQ (N_ zA (N_ iO (L_ cH) Z_) Y6) (N_ zg (N_ ah (L_ WH) Z_) (N_ bb (L_ TF) Z_))) (N_ gN (N_ gq (N_ iD (L_ zg) Z_) Y5) (N_ aG (N_ VN (L_ Wt) Z_) (N_ Ve (L_ Xy) Z_))))) (N_ o60 (N_ o79 (N_ zA (N_ Zj (N_ zg (L_ zg) (L_ zg)) Y5) (N_ zb (N_ VX (L_ T8) Z_) (N_ bh (L_ zb) Z_))) (N_ kM (N_ zA (N_ au (L_ zb) Z_) (N_ bz (L_ X6) Z_)) (N_ aJ (N_ bV (L_ zg) Z_) (N_ cV (L_ zb) Z_)))) (N_ o98 (N_ gZ (N_ gz Y5 (N_ bC (L_ TU) Z_)) (N_ hZ (N_ ad (L_ WD) Z_) (N_ zb (L_ XI) Z_))) (N_ zA (N_ gm (N_ zb (L_ WR) Z_) (N_ bo (L_ zg) Z_)) (N_ iY (N_ bS (L_ zb) Z_) (N_ cR (L_ Xu) Z_)))))) (N_ TK (N_ o56 (N_ zA (N_ kS (N_ zA (N_ aC (L_ Va) (L_ Tu)) Y3) (N_ zb (N_ yY (L_ zb) Z_) (N_ zg (L_ XT) Z_))) (N_ gT (N_ gw (N_ zA (L_ zb) Z_) (N_ bB (L_ X8) Z_)) (N_ zb (N_ VR (L_ T4) Z_) (N_ cZ (L_ zb) Z_)))) (N_ o94 (N_ zA (N_ Ze (N_ iM (L_ cF) Z_) (N_ bG (L_ zb) Z_)) (N_ h9 (N_ af (L_ WF) Z_) Y3)) (N_ kK (N_ zg (N_ zb (L_ WT) Z_) (N_ Vv (L_ TM) Z_)) (N_ i6 (N_ zg (L_ Wr) Z_) (N_ cT (L_ Xw) Z_))))) (N_ o64 (N_ o83 (N_ fb (N_ gB (N_ iQ (L_ cJ) (L_ Xl)) (N_ VG (L_ Wh) Z_)) (N_ aN Y4 (N_ bf (L_ zb) Z_))) (N_ zA (N_ aV (N_ iF (L_ Sb) Z_) Y5) (N_ zA (N_ yY (L_ Wv) Z_) (N_ zA (L_ Xz) Z_)))) (N_ zA (N_ kO (N_ zA (N_ zb (L_ cB) Z_) (N_ zA (L_ zg) Z_)) (N_ hV Y5 (N_ Vk (L_ XG) Z_))) (N_ gH (N_ gj (N_ al (L_ WP) Z_) (N_ yY (L_ XY) Z_)) (N_ zb (N_ bQ (L_ zb) Z_) Y5)))))) (N_ W.boot_o_6 (N_ W.boot_o_10 (N_ zb (N_ o70 (N_ zb (N_ gE (N_ iU (L_ cN) (L_ Xp)) (N_ zg (L_ Wl) Z_)) (N_ zg (N_ ak (L_ WN) Z_) (N_ Vo (L_ TJ) Z_))) (N_ zb (N_ zb (N_ ax (L_ zg) Z_) Y5) (N_ hG (N_ bZ (L_ Wz) Z_) Y3))) (N_ zb (N_ g7 (N_ zb (N_ aA (L_ W9) Z_) (N_ zb (L_ Wf) Z_)) (N_ zb Y5 (N_ zg (L_ XM) Z_))) (N_ zb (N_ aR Y6 (N_ bu (L_ X2) Z_)) (N_ zb (N_ VL (L_ T0) Z_) Y5)))) (N_ zg (N_ zb (N_ zb (N_ zb Y1 (N_ bK (L_ TW) Z_)) (N_ gd (N_ VV (L_ WJ) Z_) (N_ zb (L_ XR) Z_))) (N_ gP (N_ zb (N_ zb (L_ WX) Z_) Y4) (N_ i7 (N_ VQ (L_ zb) Z_) (N_ Vh (L_ Ty) Z_)))) (N_ fk (N_ zb (N_ Zb (N_ iK (L_ cD) Z_) (N_ VD (L_ Wb) Z_)) (N_ aL Y4 (N_ c8 (L_ zb) Z_))) (N_ zb (N_ zb (N_ iz (L_ T_) Z_) (N_ Vu (L_ zb) Z_)) (N_ zg (N_ zb (L_ Wp) Z_) Y4))))) (N_ o46 (N_ o58 (N_ zb (N_ fe (N_ zb (N_ iS (L_ cL) (L_ Xn)) (N_ bM (L_ Wk) Z_)) (N_ gf (N_ VY (L_ WL) Z_) Y3)) (N_ zb (N_ aX (N_ zb (L_ WZ) Z_) (N_ Vy (L_ TQ) Z_)) (N_ i9 (N_ bX (L_ Wx) Z_) (N_ cX (L_ XC) Z_)))) (N_ zb (N_ zb (N_ zb Y4 (N_ bE (L_ Wd) Z_)) (N_ zb (N_ VT (L_ T6) Z_) (N_ c_ (L_ zb) Z_))) (N_ gK (N_ zb (N_ iB (L_ zb) Z_) (N_ bq (L_ X0) Z_)) (N_ aE Y3 (N_ Vc (L_ Tw) Z_))))) (N_ o66 (N_ o85 (N_ zb (N_ Zg Y5 (N_ bI (L_ zg) Z_)) (N_ gb Y5 (N_ Vm (L_ XO) Z_))) (N_ zb (N_ zb (N_ ap (L_ WV) Z_) (N_ bw (L_ X4) Z_)) (N_ zb (N_ VO (L_ zb) Z_) Y3))) (N_ zb (N_ gW (N_ zb (N_ cU (L_ cz) Z_) Y5) (N_ zg (N_ aa (L_ WB) Z_) (N_ c6 (L_ TC) Z_))) (N_ zb (N_ aP (N_ iw (L_ zg) Z_) (N_ Vr (L_ zb) Z_)) (N_ iW (N_ VI (L_ Wn) Z_) (N_ cP (L_ Xr) Z_))))))))
def va:(@List @Stmt):=[My.top 33,My.top 34,My.top 35,My.top 36,My.top 37,My.top 38,My.top 39,My.top 40,My.top 41,My.top 42,My.top 43,My.top 44,My.top 45,My.top 46,My.top 47,My.top 48,My.top 49,My.top 50,My.top 51,My.top 52,My.top 53,My.top 54,My.top 55,My.top 56,My.top 57,My.top 58,My.top 59,My.top 60,My.top 61,My.top 62,My.top 63,My.top 64,My.top 65,My.top 66,My.top 67,My.top 68,My.top 69,My.top 70,My.top 71,My.top 72]
def mz:=N_ W.boot_o_0 (N_ W.boot_o_1 (N_ RK (N_ W.boot_o_7 (N_ zb (N_ gv (N_ zg (N_ kJ (N_ iV (L_ cO) Z_) (L_ bP)) (N_ gi (L_ ir) (L_ zb))) (N_ zF (N_ zg (N_ iH (L_ W7) Z_) (L_ VB)) (N_ hU (L_ b_) (L_ zb)))) (N_ zF (N_ kR Y0 (N_ zb (L_ VU) (L_ bc))) (N_ zg (N_ gu (L_ iE) (L_ bv)) (N_ aH (L_ zb) (L_ Vf))))) (N_ zA (N_ zg (N_ zF (N_ zg Y5 (L_ bL)) (N_ ge (L_ zb) (L_ Vn))) (N_ kN (N_ zF (L_ av) (L_ bA)) (N_ zb (L_ bW) (L_ cW)))) (N_ o97 (N_ zg (N_ gA (N_ iL (L_ cE) Z_) (L_ bD)) (N_ zg (L_ ae) (L_ c9))) (N_ zF (N_ aQ (L_ iA) (L_ bp)) (N_ iZ (L_ VJ) (L_ cS)))))) (N_ zb (N_ o55 (N_ zF (N_ kT (N_ zF Y5 (L_ bN)) (N_ gg (L_ aj) (L_ zb))) (N_ zg (N_ gx (L_ yY) (L_ zg)) (N_ i_ (L_ zb) (L_ Vj)))) (N_ zg (N_ zF (N_ zg (N_ iN (L_ cG) Z_) (L_ VF)) (N_ aM (L_ zg) (L_ ba))) (N_ kL (N_ zb (L_ iC) (L_ zb)) (N_ zg (L_ zb) (L_ zg))))) (N_ o63 (N_ o82 (N_ zg (N_ gC (N_ aB (L_ W_) Z_) (L_ zb)) Y2) (N_ zF (N_ zg (L_ zg) (L_ bx)) (N_ zb (L_ VP) (L_ yY)))) (N_ zF (N_ kP (N_ zF (N_ iJ (L_ cC) Z_) (L_ yY)) (N_ hW (L_ ac) (L_ zb))) (N_ zg (N_ zg (L_ zb) (L_ Vs)) (N_ iX (L_ zg) (L_ cQ))))))) (N_ W.boot_o_5 (N_ W.boot_o_9 (N_ o53 (N_ o69 (N_ fg (N_ gF Y4 (L_ zb)) (N_ zb (L_ ip) (L_ Vp))) (N_ gU (N_ aZ (L_ ay) (L_ Vz)) (N_ aK (L_ zg) (L_ c5)))) (N_ o91 (N_ g8 (N_ Zf Y5 (L_ bH)) (N_ h_ (L_ ag) (L_ zb))) (N_ gM (N_ aS (L_ zb) (L_ zg)) (N_ aF (L_ VM) (L_ Vd))))) (N_ zb (N_ o80 (N_ fc (N_ Zi (N_ iR (L_ cK) Z_) (L_ zg)) (N_ zg (L_ VW) (L_ bg))) (N_ gQ (N_ aW (L_ aq) (L_ zb)) (N_ i8 (L_ bU) (L_ Vi)))) (N_ o99 (N_ gY (N_ Zc (N_ az (L_ W8) Z_) (L_ VE)) Y2) (N_ gJ (N_ gk (L_ zg) (L_ bn)) (N_ zb (L_ bR) (L_ zb)))))) (N_ o45 (N_ o57 (N_ o76 (N_ ff (N_ Zk (N_ iT (L_ cM) Z_) (L_ VH)) (N_ aO (L_ zA) (L_ bj))) (N_ gR (N_ aY (L_ aw) (L_ zb)) (N_ zg (L_ bY) (L_ cY)))) (N_ o95 (N_ g6 (N_ Zd Y5 (L_ bF)) (N_ h8 (L_ zb) (L_ Vl))) (N_ gL (N_ gp (L_ ao) (L_ br)) (N_ zb (L_ bT) (L_ zb))))) (N_ zb (N_ o84 (N_ g9 (N_ Zh (N_ iP (L_ cI) Z_) (L_ bJ)) (N_ gc (L_ ai) (L_ zb))) (N_ gO (N_ aU (L_ zb) (L_ Vx)) (N_ aI (L_ zA) (L_ Vg)))) (N_ fj (N_ gX (N_ Za (N_ iI (L_ cA) Z_) (L_ VC)) (N_ zb (L_ VS) (L_ c7))) (N_ gG (N_ zb (L_ iy) (L_ zA)) (N_ aD (L_ zb) (L_ Vb)))))))) (N_ W.boot_o_2 (N_ W.boot_o_4 (N_ W.boot_o_8 (N_ zg (N_ o68 (N_ fh (N_ kI Y5 (L_ bO)) (N_ gh (L_ iq) (L_ Vq))) (N_ zA (N_ a_ (N_ iG (L_ W6) Z_) (L_ VA)) Y2)) (N_ zA (N_ kQ (N_ zA (N_ iO (L_ cH) Z_) (L_ zg)) (N_ zg (L_ ah) (L_ bb))) (N_ gN (N_ gq (L_ iD) (L_ zb)) (N_ aG (L_ VN) (L_ Ve))))) (N_ o60 (N_ o79 (N_ zA (N_ Zj Y4 (L_ zb)) (N_ zb (L_ VX) (L_ bh))) (N_ kM (N_ zA (L_ au) (L_ bz)) (N_ aJ (L_ bV) (L_ cV)))) (N_ o98 (N_ gZ (N_ gz Y5 (L_ bC)) (N_ hZ (L_ ad) (L_ zb))) (N_ zA (N_ gm (L_ zb) (L_ bo)) (N_ iY (L_ bS) (L_ cR)))))) (N_ RJ (N_ o56 (N_ zA (N_ kS (N_ zA (N_ aC (L_ Va) Z_) (L_ zb)) (N_ zb (L_ yY) (L_ zg))) (N_ gT (N_ gw (L_ zA) (L_ bB)) (N_ zb (L_ VR) (L_ cZ)))) (N_ o94 (N_ zA (N_ Ze (N_ iM (L_ cF) Z_) (L_ bG)) (N_ h9 (L_ af) (L_ zb))) (N_ kK (N_ zg (L_ zb) (L_ Vv)) (N_ i6 (L_ zg) (L_ cT))))) (N_ o64 (N_ o83 (N_ fb (N_ gB (N_ iQ (L_ cJ) Z_) (L_ VG)) (N_ aN (L_ zg) (L_ bf))) (N_ zA (N_ aV (L_ iF) (L_ zb)) (N_ zA (L_ yY) (L_ zA)))) (N_ zA (N_ kO (N_ zA (N_ zb (L_ cB) Z_) (L_ zA)) (N_ hV (L_ zb) (L_ Vk))) (N_ gH (N_ gj (L_ al) (L_ yY)) (N_ zb (L_ bQ) (L_ zb))))))) (N_ W.boot_o_6 (N_ W.boot_o_10 (N_ zb (N_ o70 (N_ zb (N_ gE (N_ iU (L_ cN) Z_) (L_ zg)) (N_ zg (L_ ak) (L_ Vo))) (N_ zb (N_ zb (L_ ax) (L_ zb)) (N_ hG (L_ bZ) (L_ zb)))) (N_ zb (N_ g7 (N_ zb (N_ aA (L_ W9) Z_) (L_ zb)) Y2) (N_ zb (N_ aR (L_ zg) (L_ bu)) (N_ zb (L_ VL) (L_ zb))))) (N_ zg (N_ zb (N_ zb (N_ zb Y5 (L_ bK)) (N_ gd (L_ VV) (L_ zb))) (N_ gP Y2 (N_ i7 (L_ VQ) (L_ Vh)))) (N_ fk (N_ zb (N_ Zb (N_ iK (L_ cD) Z_) (L_ VD)) (N_ aL (L_ zg) (L_ c8))) (N_ zb (N_ zb (L_ iz) (L_ Vu)) (N_ zg (L_ zb) (L_ zg)))))) (N_ o46 (N_ o58 (N_ zb (N_ fe (N_ zb (N_ iS (L_ cL) Z_) (L_ bM)) (N_ gf (L_ VY) (L_ zb))) (N_ zb (N_ aX (L_ zb) (L_ Vy)) (N_ i9 (L_ bX) (L_ cX)))) (N_ zb (N_ zb (N_ zb Y4 (L_ bE)) (N_ zb (L_ VT) (L_ c_))) (N_ gK (N_ zb (L_ iB) (L_ bq)) (N_ aE (L_ zb) (L_ Vc))))) (N_ o66 (N_ o85 (N_ zb (N_ Zg Y5 (L_ bI)) (N_ gb (L_ zb) (L_ Vm))) (N_ zb (N_ zb (L_ ap) (L_ bw)) (N_ zb (L_ VO) (L_ zb)))) (N_ zb (N_ gW (N_ zb (N_ cU (L_ cz) Z_) (L_ zb)) (N_ zg (L_ aa) (L_ c6))) (N_ zb (N_ aP (L_ iw) (L_ Vr)) (N_ iW (L_ VI) (L_ cP))))))))
def uQ:(@List @Stmt):=[My.top 28,My.top 29,My.top 30,My.top 31,My.top 32]
def mB:=N_ W.boot_o_0 (N_ W.boot_o_1 (N_ RN (N_ W.boot_o_7 (N_ zb (N_ gv (N_ zg (N_ kJ (L_ iV) Z_) (N_ gi (L_ ir) Z_)) (N_ zF (N_ zg (L_ iH) Z_) (L_ hU))) (N_ zF (N_ kR (N_ zF (L_ zg) Z_) (L_ zb)) (N_ zg (N_ gu (L_ iE) Z_) (L_ aH)))) (N_ zA (N_ zg (N_ zF Y6 (L_ ge)) (N_ kN (N_ zF (L_ av) Z_) (L_ zb))) (N_ o97 (N_ zg (N_ gA (L_ iL) Z_) (L_ zg)) (N_ zF (N_ aQ (L_ iA) Z_) (L_ iZ))))) (N_ zb (N_ o55 (N_ zF (N_ kT (N_ zF (L_ zb) Z_) (N_ gg (L_ aj) Z_)) (N_ zg (N_ gx (L_ yY) Z_) (L_ i_))) (N_ zg (N_ zF (N_ zg (L_ iN) Z_) (L_ aM)) (N_ kL (N_ zb (L_ iC) Z_) (L_ zg)))) (N_ o63 (N_ o82 (N_ zg (N_ gC (L_ aB) Z_) (L_ zb)) Y0) (N_ zF (N_ kP (N_ zF (L_ iJ) Z_) (L_ hW)) (N_ zg Y6 (L_ iX)))))) (N_ W.boot_o_5 (N_ W.boot_o_9 (N_ o53 (N_ o69 (N_ fg (N_ gF (L_ zg) Z_) (N_ zb (L_ ip) Z_)) (N_ gU (N_ aZ (L_ ay) Z_) (L_ aK))) (N_ o91 (N_ g8 (N_ Zf (L_ zb) Z_) (L_ h_)) (N_ gM (N_ aS (L_ zb) Z_) (L_ aF)))) (N_ zb (N_ o80 (N_ fc (N_ Zi (L_ iR) Z_) (L_ zg)) (N_ gQ (N_ aW (L_ aq) Z_) (L_ i8))) (N_ o99 (N_ gY (N_ Zc (L_ az) Z_) (L_ zb)) (N_ gJ (N_ gk (L_ zg) Z_) (L_ zb))))) (N_ o45 (N_ o57 (N_ o76 (N_ ff (N_ Zk (L_ iT) Z_) (L_ aO)) (N_ gR (N_ aY (L_ aw) Z_) (L_ zg))) (N_ o95 (N_ g6 (N_ Zd (L_ zb) Z_) (L_ h8)) (N_ gL (N_ gp (L_ ao) Z_) (L_ zb)))) (N_ zb (N_ o84 (N_ g9 (N_ Zh (L_ iP) Z_) (L_ gc)) (N_ gO (N_ aU (L_ zb) Z_) (L_ aI))) (N_ fj (N_ gX (N_ Za (L_ iI) Z_) (L_ zb)) (N_ gG (N_ zb (L_ iy) Z_) (L_ aD))))))) (N_ W.boot_o_2 (N_ W.boot_o_4 (N_ W.boot_o_8 (N_ zg (N_ o68 (N_ fh (N_ kI (L_ zb) Z_) (N_ gh (L_ iq) Z_)) (N_ zA (N_ a_ (L_ iG) Z_) (L_ zb))) (N_ zA (N_ kQ (N_ zA (L_ iO) Z_) (L_ zg)) (N_ gN (N_ gq (L_ iD) Z_) (L_ aG)))) (N_ o60 (N_ o79 (N_ zA (N_ Zj (L_ zg) Z_) (L_ zb)) (N_ kM (N_ zA (L_ au) Z_) (L_ aJ))) (N_ o98 (N_ gZ (N_ gz (L_ zb) Z_) (L_ hZ)) (N_ zA (N_ gm (L_ zb) Z_) (L_ iY))))) (N_ RM (N_ o56 (N_ zA (N_ kS (N_ zA (L_ aC) Z_) (L_ zb)) (N_ gT (N_ gw (L_ zA) Z_) (L_ zb))) (N_ o94 (N_ zA (N_ Ze (L_ iM) Z_) (L_ h9)) (N_ kK Y6 (L_ i6)))) (N_ o64 (N_ o83 (N_ fb (N_ gB (L_ iQ) Z_) (L_ aN)) (N_ zA (N_ aV (L_ iF) Z_) (L_ zA))) (N_ zA (N_ kO (N_ zA (L_ zb) Z_) (L_ hV)) (N_ gH (N_ gj (L_ al) Z_) (L_ zb)))))) (N_ W.boot_o_6 (N_ W.boot_o_10 (N_ zb (N_ o70 (N_ zb (N_ gE (L_ iU) Z_) (N_ zg (L_ ak) Z_)) (N_ zb (N_ zb (L_ ax) Z_) (L_ hG))) (N_ zb (N_ g7 (N_ zb (L_ aA) Z_) (L_ zb)) (N_ zb (N_ aR (L_ zg) Z_) (L_ zb)))) (N_ zg (N_ zb (N_ zb Y5 (L_ gd)) (N_ gP Y5 (L_ i7))) (N_ fk (N_ zb (N_ Zb (L_ iK) Z_) (L_ aL)) (N_ zb (N_ zb (L_ iz) Z_) (L_ zg))))) (N_ o46 (N_ o58 (N_ zb (N_ fe (N_ zb (L_ iS) Z_) (L_ gf)) (N_ zb (N_ aX (L_ zb) Z_) (L_ i9))) (N_ zb (N_ zb Y3 (L_ zb)) (N_ gK (N_ zb (L_ iB) Z_) (L_ aE)))) (N_ o66 (N_ o85 (N_ zb (N_ Zg (L_ zb) Z_) (L_ gb)) (N_ zb (N_ zb (L_ ap) Z_) (L_ zb))) (N_ zb (N_ gW (N_ zb (L_ RL) Z_) (L_ zg)) (N_ zb (N_ aP (L_ iw) Z_) (L_ iW)))))))
def uR:(@List @Stmt):=[My.top 11,My.top 12,My.top 13,My.top 14,My.top 15,My.top 16,My.top 17,My.top 18,My.top 19,My.top 20,My.top 21,My.top 22,My.top 23,My.top 24,My.top 25,My.top 26,My.top 27]
def mC:=N_ W.boot_o_0 (N_ W.boot_o_1 (N_ RQ (N_ W.boot_o_7 (N_ zb (N_ RO (N_ zg (L_ kJ) Z_) (L_ zF)) (N_ zF (L_ kR) (L_ zg))) (N_ zA (N_ zg (L_ zF) (L_ kN)) (N_ o97 (L_ zg) (L_ zF)))) (N_ zb (N_ o55 (N_ zF (L_ kT) (L_ zg)) (N_ zg (L_ zF) (L_ kL))) (N_ o63 (N_ o82 (L_ zg) (L_ zF)) (N_ zF (L_ kP) (L_ zg))))) (N_ W.boot_o_5 (N_ W.boot_o_9 (N_ o53 (N_ o69 (N_ fg (L_ gF) Z_) (L_ gU)) (N_ o91 (L_ g8) (L_ gM))) (N_ zb (N_ o80 (L_ fc) (L_ gQ)) (N_ o99 (L_ gY) (L_ gJ)))) (N_ o45 (N_ o57 (N_ o76 (L_ ff) (L_ gR)) (N_ o95 (L_ g6) (L_ gL))) (N_ zb (N_ o84 (L_ g9) (L_ gO)) (N_ fj (L_ gX) (L_ gG)))))) (N_ W.boot_o_2 (N_ W.boot_o_4 (N_ W.boot_o_8 (N_ zg (N_ o68 (N_ fh (L_ kI) Z_) (L_ zA)) (N_ zA (L_ kQ) (L_ gN))) (N_ o60 (N_ o79 (L_ zA) (L_ kM)) (N_ o98 (L_ gZ) (L_ zA)))) (N_ RP (N_ o56 (N_ zA (L_ kS) (L_ gT)) (N_ o94 (L_ zA) (L_ kK))) (N_ o64 (N_ o83 (L_ fb) (L_ zA)) (N_ zA (L_ kO) (L_ gH))))) (N_ W.boot_o_6 (N_ W.boot_o_10 (N_ zb (N_ o70 (N_ zb (L_ gE) Z_) (L_ zb)) (N_ zb (L_ g7) (L_ zb))) (N_ zg (N_ zb (L_ zb) (L_ gP)) (N_ fk (L_ zb) (L_ zb)))) (N_ o46 (N_ o58 (N_ zb (L_ fe) (L_ zb)) (N_ zb (L_ zb) (L_ gK))) (N_ o66 (N_ o85 (L_ zb) (L_ zb)) (N_ zb (L_ gW) (L_ zb))))))
def oY:(@List @Stmt):=[My.top 0,My.top 1,My.top 2,My.top 3,My.top 4,My.top 5,My.top 6,My.top 7,My.top 8,My.top 9,My.top 10]
def jg:=N_ W.boot_o_0 (N_ W.boot_o_1 (N_ W.boot_o_3 (L_ W.boot_o_7) (L_ zb)) (N_ W.boot_o_5 (L_ W.boot_o_9) (L_ o45))) (N_ W.boot_o_2 (N_ W.boot_o_4 (L_ W.boot_o_8) (L_ zg)) (N_ W.boot_o_6 (L_ W.boot_o_10) (L_ o46)))
def jh:((x:@Params)→@Heap):=(fun x=>(@Heap.mk (@Array.mk @Obj [(@W.boot_o_0 x),(@W.boot_o_1 x),(@W.boot_o_2 x),(@W.boot_o_3 x),(@W.boot_o_4 x),(@W.boot_o_5 x),(@W.boot_o_6 x),(@W.boot_o_7 x),(@W.boot_o_8 x),(@W.boot_o_9 x),(@W.boot_o_10 x),(zb x),(zg x),(o45 x),(o46 x)]) (@Life.mk [] [] [] 0 (@List.nil (@Prod @Nat @Nat)) [] @Bool.false #[] [] 0 @Bool.false @Bool.false @Bool.false (0:Int) [(2000:Int),(10:Int),(10:Int)] @Bool.false 0 @Bool.true [] [] 0 @Bool.false)))
abbrev k3:=(@Life.mk [] [] [] 0 (@List.nil (@Prod @Nat @Nat)) [] @Bool.false #[] [] 0 @Bool.false @Bool.false @Bool.false (0:Int) [(2000:Int),(10:Int),(10:Int)] @Bool.false 0 @Bool.true [] [] 0 @Bool.false)
abbrev S_ (t:Params→W.BT) (n k:Nat) (w:World) (o:OsState):W.SharedT:=W.SharedT.mk (t w.params) n k3 g_ d_ k o
abbrev k0 (x0:World) (x1:OsState):=(@Shared.mk (@xm x0.params) g_ d_ 1217 x1)
abbrev k1:=(@Prod (@Prod (@List (@Option @FnShape)) @Bool) (@Prod (@List (@Option @PyProof.Rows.PlainShape)) (@Prod (@List (@Option (@Prod @PyProof.Rows.PlainShape @Bool))) (@Prod (@Prod (@List (@Option @FnShape)) @Bool) (@List (@Prod (@Option (@Prod (@List (@Option @FnShape)) @Bool)) (@Option (@Prod @PyProof.Rows.PlainShape @Bool))))))))
abbrev k2:=(@W.OpenRow.toRowW (@W.OpenLaw.row @Challenge.rw_oddbases_k32_differences))
abbrev k4 (x0:World) (x1:OsState):=(@ite @Bool (@Eq @Bool @Bool.true @Bool.true) (@instDecidableEqBool @Bool.true @Bool.true) (@BEq.beq @Nat (@instBEqOfDecidableEq @Nat @instDecidableEqNat) (@Array.size @GenState (@Shared.gens (k0 x0 x1))) 0) (@Bool.not (@leftWithCleanup (@Shared.gens (k0 x0 x1)))))
abbrev k5:=(@Bool.true,((@pinGoodD (@PyProof.Rows.drecsOf @h_view_39)),((@PyProof.Rows.plainGoodE @h_view_39 (@W.looseW @h_view_39 [])),((@PyProof.Rows.plainGoodD @h_view_39 []),((@W.wideGood @h_view_39),(@W.clsGoodW @h_view_39 []))))))
abbrev k6:=(@List (@Prod (@Option (@Prod (@List (@Option @FnShape)) @Bool)) (@Option (@Prod @PyProof.Rows.PlainShape @Bool))))
abbrev k7:=(@Code.body (@W.behindTheImports (k2).1) @yc)
abbrev k8 (x0:World) (x1:OsState):=(@Bool.and (@Bool.and (@Bool.and (@W.staticsOk (@importedModules (@Module.body (@Program.main (k2).1))) (@W.boot_heap x0.params) (@xm x0.params)) (@W.namesBound (k2).1 (@xm x0.params))) (@W.gensDone (k0 x0 x1))) (@W.laidKept (@W.boot_heap x0.params) (@xm x0.params)))
abbrev k9:=(@Prod (@Prod (@Option @Str) (@List (@Prod @Str @Value))) (@Prod @Bool (@Prod @Bool k1)))
abbrev k10 (x0:World) (x1:OsState):=(@PyProof.Rows.plainSeenE @h_view_39 (@W.looseW @h_view_39 []) (k0 x0 x1))
abbrev k11:=(@Eq.refl (@List @Addr) My.myAs)
abbrev k12:=(@importedModules (@Module.body (@Program.main (k2).1)))
abbrev k13 (x0:World) (x1:OsState):=(@pinSeenD @h_view_39 (@PyProof.Rows.drecsOf @h_view_39) (k0 x0 x1))
abbrev k14 (x0:World) (x1:OsState):=(@PyProof.Rows.plainSeenD @h_view_39 [] (k0 x0 x1))
abbrev k15:=(@Prod (@List (@Option @FnShape)) @Bool)
abbrev k16 (x0:World) (x1:OsState):=(@W.clsSeenW @h_view_39 [] (k0 x0 x1))
abbrev k17:=(@List.nil (@Prod @Str @W.WData))
abbrev k18:=(@Prod @Flow (@Prod @W.SharedT (@Prod @Code @Pos)))
abbrev k19 (x0:World) (x1:OsState):=(@W.wideSeen @h_view_39 (k0 x0 x1))
abbrev k20:=(@Nat.add 12 (@Nat.add 1 (@Nat.add 1937 (@Nat.add 1821 (@Nat.add 1811 (@Nat.add 1153 2))))))
abbrev k21:=(@List (@Option (@Prod @PyProof.Rows.PlainShape @Bool)))
abbrev k22:=(@PyProof.Rows.plainGoodE @h_view_39 (@W.looseW @h_view_39 []))
abbrev k23:=(@HAppend.hAppend (@List @Stmt) (@List @Stmt) (@List @Stmt) (@instHAppendOfAppend (@List @Stmt) (@List.instAppend @Stmt)) @uQ (@HAppend.hAppend (@List @Stmt) (@List @Stmt) (@List @Stmt) (@instHAppendOfAppend (@List @Stmt) (@List.instAppend @Stmt)) @va []))
abbrev k24 (x0:World) (x1:OsState):=(S_ mC 131 342 x0 x1)
abbrev k25 (x0:World) (x1:OsState):=(S_ mB 324 590 x0 x1)
abbrev k26 (x0:World) (x1:OsState):=(S_ mz 545 864 x0 x1)
abbrev k27:=(@PyProof.Rows.clssOf @h_view_39 (@W.looseW @h_view_39 []))
abbrev k28 (x0:World) (x1:OsState):=(S_ jg 15 187 x0 x1)
abbrev k29 (x0:World) (x1:OsState):=(@Shared.mk (@jh x0.params) g_ d_ 187 x1)
abbrev k30 (x0:World) (x1:OsState):=(@PyProof.Rows.tablesOk @h_view_39 (@Shared.heap (k0 x0 x1)))
abbrev k31 (x0:World) (x1:OsState):=(@PyProof.Rows.tabsOk @h_view_39 (k0 x0 x1))
abbrev k32:=(@PyProof.Rows.plainGoodD @h_view_39 [])
abbrev k33 (x0:World) (x1:OsState):=(@Heap.accountedOkI (@Shared.heap (k0 x0 x1)) k12)
abbrev k34 (x0:World) (x1:OsState):=(S_ mx 782 1217 x0 x1)
abbrev k35 (x0:World) (x1:OsState):=(@Heap.isNs (@Shared.heap (k0 x0 x1)) @mainGlobals)
abbrev k36 (x0:World) (x1:OsState):=(@Heap.isNs (@Shared.heap (k0 x0 x1)) @builtinsNs)
abbrev k37 (x0:World) (x1:OsState):=(@Shared.mk (@W.boot_heap x0.params) g_ @W.boot_drawn @W.boot_toks x1)
abbrev k38:=(@Thread.mk (@denote @treeTable k7) k7 (P_ 0 0 0 0) [(@W.topFrame (P_ 0 0 0 0))])
abbrev k39:=(@Prod @Flow (@Prod @Shared (@Prod @Code @Pos)))
abbrev kh0:=(@W.kHook @h_heap_39 My.myAs (fun x0=>(@id (@Eq (@List @Addr) My.myAs (@List.map (@Prod @Addr @Obj) @Addr (fun (x1:(@Prod @Addr @Obj))=>(@Prod.fst @Addr @Obj x1)) (@h_heap_39 x0))) k11)))
theorem pf_917:((x0:World)→(@Eq ((x1:OsState)→(@W.Hook.α kh0)) (fun x1=>(@W.Hook.obs kh0 (k0 x0 x1))) (fun x1=>(@W.Hook.val kh0 x0)))):=by intros; kernel_rfl
theorem pf_907:((x0:World)→(@Eq ((x1:OsState)→k6) (fun x1=>(k16 x0 x1)) (fun x1=>(@W.clsGoodW @h_view_39 [])))):=by intros; kernel_rfl
theorem pf_905:((x0:World)→(@Eq ((x1:OsState)→k15) (fun x1=>(k19 x0 x1)) (fun x1=>(@W.wideGood @h_view_39)))):=by intros; kernel_rfl
theorem pf_908:((x0:World)→((x1:OsState)→(@Eq (@Prod k15 k6) ((k19 x0 x1),(k16 x0 x1)) ((@W.wideGood @h_view_39),(@W.clsGoodW @h_view_39 []))))):=(fun x0=>(fun x1=>(@W.looks_pair k15 k6 (k19 x0 x1) (@W.wideGood @h_view_39) (k16 x0 x1) (@W.clsGoodW @h_view_39 []) ((fun x2=>(fun x3=>(congrFun (My.pf_905 x2) x3))) x0 x1) ((fun x2=>(fun x3=>(congrFun (My.pf_907 x2) x3))) x0 x1))))
theorem pf_903:((x0:World)→(@Eq ((x1:OsState)→k21) (fun x1=>(k14 x0 x1)) (fun x1=>k32))):=by intros; kernel_rfl
theorem pf_909:((x0:World)→((x1:OsState)→(@Eq (@Prod k21 (@Prod k15 k6)) ((k14 x0 x1),((k19 x0 x1),(k16 x0 x1))) (k32,((@W.wideGood @h_view_39),(@W.clsGoodW @h_view_39 [])))))):=(fun x0=>(fun x1=>(@W.looks_pair k21 (@Prod k15 k6) (k14 x0 x1) k32 ((k19 x0 x1),(k16 x0 x1)) ((@W.wideGood @h_view_39),(@W.clsGoodW @h_view_39 [])) ((fun x2=>(fun x3=>(congrFun (My.pf_903 x2) x3))) x0 x1) (@My.pf_908 x0 x1))))
theorem pf_901:((x0:World)→(@Eq ((x1:OsState)→(@List (@Option @PyProof.Rows.PlainShape))) (fun x1=>(k10 x0 x1)) (fun x1=>k22))):=by intros; kernel_rfl
theorem pf_910:((x0:World)→((x1:OsState)→(@Eq (@Prod (@List (@Option @PyProof.Rows.PlainShape)) (@Prod k21 (@Prod k15 k6))) ((k10 x0 x1),((k14 x0 x1),((k19 x0 x1),(k16 x0 x1)))) (k22,(k32,((@W.wideGood @h_view_39),(@W.clsGoodW @h_view_39 []))))))):=(fun x0=>(fun x1=>(@W.looks_pair (@List (@Option @PyProof.Rows.PlainShape)) (@Prod k21 (@Prod k15 k6)) (k10 x0 x1) k22 ((k14 x0 x1),((k19 x0 x1),(k16 x0 x1))) (k32,((@W.wideGood @h_view_39),(@W.clsGoodW @h_view_39 []))) ((fun x2=>(fun x3=>(congrFun (My.pf_901 x2) x3))) x0 x1) (@My.pf_909 x0 x1))))
theorem pf_899:((x0:World)→(@Eq ((x1:OsState)→k15) (fun x1=>(k13 x0 x1)) (fun x1=>(@pinGoodD (@PyProof.Rows.drecsOf @h_view_39))))):=by intros; kernel_rfl
theorem pf_911:((x0:World)→((x1:OsState)→(@Eq k1 ((k13 x0 x1),((k10 x0 x1),((k14 x0 x1),((k19 x0 x1),(k16 x0 x1))))) ((@pinGoodD (@PyProof.Rows.drecsOf @h_view_39)),(k22,(k32,((@W.wideGood @h_view_39),(@W.clsGoodW @h_view_39 [])))))))):=(fun x0=>(fun x1=>(@W.looks_pair k15 (@Prod (@List (@Option @PyProof.Rows.PlainShape)) (@Prod k21 (@Prod k15 k6))) (k13 x0 x1) (@pinGoodD (@PyProof.Rows.drecsOf @h_view_39)) ((k10 x0 x1),((k14 x0 x1),((k19 x0 x1),(k16 x0 x1)))) (k22,(k32,((@W.wideGood @h_view_39),(@W.clsGoodW @h_view_39 [])))) ((fun x2=>(fun x3=>(congrFun (My.pf_899 x2) x3))) x0 x1) (@My.pf_910 x0 x1))))
theorem pf_897:((x0:World)→(@Eq ((x1:OsState)→@Bool) (fun x1=>(k31 x0 x1)) (fun x1=>@Bool.true))):=by intros; kernel_rfl
theorem pf_912:((x0:World)→((x1:OsState)→(@Eq (@Prod @Bool k1) ((k31 x0 x1),((k13 x0 x1),((k10 x0 x1),((k14 x0 x1),((k19 x0 x1),(k16 x0 x1)))))) k5))):=(fun x0=>(fun x1=>(@W.looks_pair @Bool k1 (k31 x0 x1) @Bool.true ((k13 x0 x1),((k10 x0 x1),((k14 x0 x1),((k19 x0 x1),(k16 x0 x1))))) ((@pinGoodD (@PyProof.Rows.drecsOf @h_view_39)),(k22,(k32,((@W.wideGood @h_view_39),(@W.clsGoodW @h_view_39 []))))) ((fun x2=>(fun x3=>(congrFun (My.pf_897 x2) x3))) x0 x1) (@My.pf_911 x0 x1))))
theorem pf_895:((x0:World)→(@Eq ((x1:OsState)→@Bool) (fun x1=>(@Bool.and (@Bool.and (@Bool.and (@Bool.and (@Bool.and (@Bool.and (@Heap.keysOk (@Shared.heap (k0 x0 x1)) (@W.looseW @h_view_39 []) (@List.map @DefRec @Str (fun (x2:@DefRec)=>(@DefRec.name x2)) (@PyProof.Rows.recsOf @h_view_39)) (@List.map (@Prod @Str @PyData) @Str (fun (x2:(@Prod @Str @PyData))=>(@Prod.fst @Str @PyData x2)) (@PyProof.Rows.litsOf @h_view_39)) (@List.map @ClsRec @Str (fun (x2:@ClsRec)=>(@ClsRec.name x2)) k27)) (k33 x0 x1)) (k35 x0 x1)) (k36 x0 x1)) (k30 x0 x1)) ((fun (x2:@Shared)=>(@Bool.and (@W.xlAt @h_view_39 k17 x2) (@W.recOk (@W.RowW.records k2) x2))) (k0 x0 x1))) (k4 x0 x1))) (fun x1=>@Bool.true))):=by intros; kernel_rfl
theorem pf_913:((x0:World)→((x1:OsState)→(@Eq (@Prod @Bool (@Prod @Bool k1)) ((@Bool.and (@Bool.and (@Bool.and (@Bool.and (@Bool.and (@Bool.and (@Heap.keysOk (@Shared.heap (k0 x0 x1)) (@W.looseW @h_view_39 []) (@List.map @DefRec @Str (fun (x2:@DefRec)=>(@DefRec.name x2)) (@PyProof.Rows.recsOf @h_view_39)) (@List.map (@Prod @Str @PyData) @Str (fun (x2:(@Prod @Str @PyData))=>(@Prod.fst @Str @PyData x2)) (@PyProof.Rows.litsOf @h_view_39)) (@List.map @ClsRec @Str (fun (x2:@ClsRec)=>(@ClsRec.name x2)) k27)) (k33 x0 x1)) (k35 x0 x1)) (k36 x0 x1)) (k30 x0 x1)) ((fun (x2:@Shared)=>(@Bool.and (@W.xlAt @h_view_39 k17 x2) (@W.recOk (@W.RowW.records k2) x2))) (k0 x0 x1))) (k4 x0 x1)),((k31 x0 x1),((k13 x0 x1),((k10 x0 x1),((k14 x0 x1),((k19 x0 x1),(k16 x0 x1))))))) (@Bool.true,k5)))):=(fun x0=>(fun x1=>(@W.looks_pair @Bool (@Prod @Bool k1) (@Bool.and (@Bool.and (@Bool.and (@Bool.and (@Bool.and (@Bool.and (@Heap.keysOk (@Shared.heap (k0 x0 x1)) (@W.looseW @h_view_39 []) (@List.map @DefRec @Str (fun (x2:@DefRec)=>(@DefRec.name x2)) (@PyProof.Rows.recsOf @h_view_39)) (@List.map (@Prod @Str @PyData) @Str (fun (x2:(@Prod @Str @PyData))=>(@Prod.fst @Str @PyData x2)) (@PyProof.Rows.litsOf @h_view_39)) (@List.map @ClsRec @Str (fun (x2:@ClsRec)=>(@ClsRec.name x2)) k27)) (k33 x0 x1)) (k35 x0 x1)) (k36 x0 x1)) (k30 x0 x1)) ((fun (x2:@Shared)=>(@Bool.and (@W.xlAt @h_view_39 k17 x2) (@W.recOk (@W.RowW.records k2) x2))) (k0 x0 x1))) (k4 x0 x1)) @Bool.true ((k31 x0 x1),((k13 x0 x1),((k10 x0 x1),((k14 x0 x1),((k19 x0 x1),(k16 x0 x1)))))) k5 ((fun x2=>(fun x3=>(congrFun (My.pf_895 x2) x3))) x0 x1) (@My.pf_912 x0 x1))))
theorem pf_893:((x0:World)→(@Eq ((x1:OsState)→(@Prod (@Option @Str) (@List (@Prod @Str @Value)))) (fun x1=>(@Heap.bltView (@Shared.heap (k0 x0 x1)))) (fun x1=>@bltViewBooted))):=by intros; kernel_rfl
theorem pf_914:((x0:World)→((x1:OsState)→(@Eq k9 ((@Heap.bltView (@Shared.heap (k0 x0 x1))),((@Bool.and (@Bool.and (@Bool.and (@Bool.and (@Bool.and (@Bool.and (@Heap.keysOk (@Shared.heap (k0 x0 x1)) (@W.looseW @h_view_39 []) (@List.map @DefRec @Str (fun (x2:@DefRec)=>(@DefRec.name x2)) (@PyProof.Rows.recsOf @h_view_39)) (@List.map (@Prod @Str @PyData) @Str (fun (x2:(@Prod @Str @PyData))=>(@Prod.fst @Str @PyData x2)) (@PyProof.Rows.litsOf @h_view_39)) (@List.map @ClsRec @Str (fun (x2:@ClsRec)=>(@ClsRec.name x2)) k27)) (k33 x0 x1)) (k35 x0 x1)) (k36 x0 x1)) (k30 x0 x1)) ((fun (x2:@Shared)=>(@Bool.and (@W.xlAt @h_view_39 k17 x2) (@W.recOk (@W.RowW.records k2) x2))) (k0 x0 x1))) (k4 x0 x1)),((k31 x0 x1),((k13 x0 x1),((k10 x0 x1),((k14 x0 x1),((k19 x0 x1),(k16 x0 x1)))))))) (@bltViewBooted,(@Bool.true,k5))))):=(fun x0=>(fun x1=>(@W.looks_pair (@Prod (@Option @Str) (@List (@Prod @Str @Value))) (@Prod @Bool (@Prod @Bool k1)) (@Heap.bltView (@Shared.heap (k0 x0 x1))) @bltViewBooted ((@Bool.and (@Bool.and (@Bool.and (@Bool.and (@Bool.and (@Bool.and (@Heap.keysOk (@Shared.heap (k0 x0 x1)) (@W.looseW @h_view_39 []) (@List.map @DefRec @Str (fun (x2:@DefRec)=>(@DefRec.name x2)) (@PyProof.Rows.recsOf @h_view_39)) (@List.map (@Prod @Str @PyData) @Str (fun (x2:(@Prod @Str @PyData))=>(@Prod.fst @Str @PyData x2)) (@PyProof.Rows.litsOf @h_view_39)) (@List.map @ClsRec @Str (fun (x2:@ClsRec)=>(@ClsRec.name x2)) k27)) (k33 x0 x1)) (k35 x0 x1)) (k36 x0 x1)) (k30 x0 x1)) ((fun (x2:@Shared)=>(@Bool.and (@W.xlAt @h_view_39 k17 x2) (@W.recOk (@W.RowW.records k2) x2))) (k0 x0 x1))) (k4 x0 x1)),((k31 x0 x1),((k13 x0 x1),((k10 x0 x1),((k14 x0 x1),((k19 x0 x1),(k16 x0 x1))))))) (@Bool.true,k5) ((fun x2=>(fun x3=>(congrFun (My.pf_893 x2) x3))) x0 x1) (@My.pf_913 x0 x1))))
theorem pf_891:((x0:World)→(@Eq ((x1:OsState)→@PyProof.Rows.Seen) (fun x1=>(@PyProof.Rows.seen (@List.map @DefRec @Str (fun (x2:@DefRec)=>(@DefRec.name x2)) (@PyProof.Rows.recsOf @h_view_39)) (@PyProof.Rows.ownsOf @h_view_39) [] (@Shared.mk (@Shared.heap (k0 x0 x1)) #[] (@Shared.drawn (k0 x0 x1)) (@Shared.toks (k0 x0 x1)) (@Shared.os (k0 x0 x1))))) (fun x1=>(@PyProof.Rows.expectedOf @h_view_39)))):=by intros; kernel_rfl
theorem pf_915:((x0:World)→((x1:OsState)→(@Eq (@Prod @PyProof.Rows.Seen k9) (@W.openSeen @h_view_39 [] k12 (fun (x2:@Shared)=>(@Bool.and (@W.xlAt @h_view_39 k17 x2) (@W.recOk (@W.RowW.records k2) x2))) @Bool.true (k0 x0 x1)) (@W.openGood @h_view_39 [])))):=(fun x0=>(fun x1=>(@W.looks_pair @PyProof.Rows.Seen k9 (@PyProof.Rows.seen (@List.map @DefRec @Str (fun (x2:@DefRec)=>(@DefRec.name x2)) (@PyProof.Rows.recsOf @h_view_39)) (@PyProof.Rows.ownsOf @h_view_39) [] (@Shared.mk (@Shared.heap (k0 x0 x1)) #[] (@Shared.drawn (k0 x0 x1)) (@Shared.toks (k0 x0 x1)) (@Shared.os (k0 x0 x1)))) (@PyProof.Rows.expectedOf @h_view_39) ((@Heap.bltView (@Shared.heap (k0 x0 x1))),((@Bool.and (@Bool.and (@Bool.and (@Bool.and (@Bool.and (@Bool.and (@Heap.keysOk (@Shared.heap (k0 x0 x1)) (@W.looseW @h_view_39 []) (@List.map @DefRec @Str (fun (x2:@DefRec)=>(@DefRec.name x2)) (@PyProof.Rows.recsOf @h_view_39)) (@List.map (@Prod @Str @PyData) @Str (fun (x2:(@Prod @Str @PyData))=>(@Prod.fst @Str @PyData x2)) (@PyProof.Rows.litsOf @h_view_39)) (@List.map @ClsRec @Str (fun (x2:@ClsRec)=>(@ClsRec.name x2)) k27)) (k33 x0 x1)) (k35 x0 x1)) (k36 x0 x1)) (k30 x0 x1)) ((fun (x2:@Shared)=>(@Bool.and (@W.xlAt @h_view_39 k17 x2) (@W.recOk (@W.RowW.records k2) x2))) (k0 x0 x1))) (k4 x0 x1)),((k31 x0 x1),((k13 x0 x1),((k10 x0 x1),((k14 x0 x1),((k19 x0 x1),(k16 x0 x1)))))))) (@bltViewBooted,(@Bool.true,k5)) ((fun x2=>(fun x3=>(congrFun (My.pf_891 x2) x3))) x0 x1) (@My.pf_914 x0 x1))))
theorem pf_918:((x0:World)→((x1:OsState)→(@Eq (@Prod (@Prod @PyProof.Rows.Seen k9) (@W.Hook.α kh0)) ((@W.openSeen @h_view_39 [] k12 (fun (x2:@Shared)=>(@Bool.and (@W.xlAt @h_view_39 k17 x2) (@W.recOk (@W.RowW.records k2) x2))) @Bool.true (k0 x0 x1)),(@W.Hook.obs kh0 (k0 x0 x1))) ((@W.openGood @h_view_39 []),(@W.Hook.val kh0 x0))))):=(fun x0=>(fun x1=>(@W.looks_pair (@Prod @PyProof.Rows.Seen k9) (@W.Hook.α kh0) (@W.openSeen @h_view_39 [] k12 (fun (x2:@Shared)=>(@Bool.and (@W.xlAt @h_view_39 k17 x2) (@W.recOk (@W.RowW.records k2) x2))) @Bool.true (k0 x0 x1)) (@W.openGood @h_view_39 []) (@W.Hook.obs kh0 (k0 x0 x1)) (@W.Hook.val kh0 x0) (@My.pf_915 x0 x1) ((fun x2=>(fun x3=>(congrFun (My.pf_917 x2) x3))) x0 x1))))
theorem pf_889:((x0:World)→(@Eq ((x1:OsState)→@Bool) (fun x1=>(k8 x0 x1)) (fun x1=>@Bool.true))):=by intros; kernel_rfl
theorem pf_919:((x0:World)→((x1:OsState)→(@Eq (@Prod @Bool (@Prod (@Prod @PyProof.Rows.Seen k9) (@W.Hook.α kh0))) ((k8 x0 x1),((@W.openSeen @h_view_39 [] k12 (fun (x2:@Shared)=>(@Bool.and (@W.xlAt @h_view_39 k17 x2) (@W.recOk (@W.RowW.records k2) x2))) @Bool.true (k0 x0 x1)),(@W.Hook.obs kh0 (k0 x0 x1)))) (@Bool.true,((@W.openGood @h_view_39 []),(@W.Hook.val kh0 x0)))))):=(fun x0=>(fun x1=>(@W.looks_pair @Bool (@Prod (@Prod @PyProof.Rows.Seen k9) (@W.Hook.α kh0)) (k8 x0 x1) @Bool.true ((@W.openSeen @h_view_39 [] k12 (fun (x2:@Shared)=>(@Bool.and (@W.xlAt @h_view_39 k17 x2) (@W.recOk (@W.RowW.records k2) x2))) @Bool.true (k0 x0 x1)),(@W.Hook.obs kh0 (k0 x0 x1))) ((@W.openGood @h_view_39 []),(@W.Hook.val kh0 x0)) ((fun x2=>(fun x3=>(congrFun (My.pf_889 x2) x3))) x0 x1) (@My.pf_918 x0 x1))))
theorem pf_884:((x0:World)→(@Eq ((x1:OsState)→(@Option @Shared)) (fun x1=>(@W.topRun @treeTable (k2).1 x0 11 v_ 2 (@W.SharedT.abs (k34 x0 x1)) (@Thread.mk (@W.doneF @Flow.next) k7 (P_ 433 0 443 144) [(@W.topFrame (P_ 0 0 0 0))]))) (fun x1=>(@some @Shared (k0 x0 x1))))):=by intros; kernel_rfl
theorem pf_49:((x0:World)→(@Eq ((x1:OsState)→(@Option k39)) (fun x1=>(@W.segRun @treeTable (k2).1 x0 11 v_ 1 1 (k29 x0 x1) (@W.blockOf (@W.behindTheImports (k2).1) @yc k7 (P_ 0 0 0 0) [(@W.topFrame (P_ 0 0 0 0))]))) (fun x1=>(@some k39 (@Flow.next,((@W.SharedT.abs (k28 x0 x1)),(k7,(P_ 0 0 0 0)))))))):=by intros; kernel_rfl
theorem pf_47:((x0:World)→(@Eq ((x1:OsState)→(@Option (@Prod @Shared @Thread))) (fun x1=>(@W.topGo @treeTable (k2).1 x0 11 v_ 12 (k37 x0 x1) (@W.topStub (k2).1))) (fun x1=>(@some (@Prod @Shared @Thread) ((k29 x0 x1),k38))))):=by intros; kernel_rfl
theorem pf_191:((x0:World)→(@Eq ((x1:OsState)→(@Option k18)) (fun x1=>(@W.segRunT @treeTable (k2).1 x0 11 v_ 1 1937 (k28 x0 x1) (@W.piecesOf @oY @yc k7 (P_ 0 0 0 0) [(@W.topFrame (P_ 0 0 0 0))]))) (fun x1=>(@some k18 (@Flow.next,((k24 x0 x1),(k7,(P_ 21 0 22 8)))))))):=by intros; kernel_rfl
theorem pf_403:((x0:World)→(@Eq ((x1:OsState)→(@Option k18)) (fun x1=>(@W.segRunT @treeTable (k2).1 x0 11 v_ 1 1821 (k24 x0 x1) (@W.piecesOf @uR @yc k7 (P_ 21 0 22 8) [(@W.topFrame (P_ 0 0 0 0))]))) (fun x1=>(@some k18 (@Flow.next,((k25 x0 x1),(k7,(P_ 89 0 98 24)))))))):=by intros; kernel_rfl
theorem pf_639:((x0:World)→(@Eq ((x1:OsState)→(@Option k18)) (fun x1=>(@W.segRunT @treeTable (k2).1 x0 11 v_ 1 1811 (k25 x0 x1) (@W.piecesOf @uQ @yc k7 (P_ 89 0 98 24) [(@W.topFrame (P_ 0 0 0 0))]))) (fun x1=>(@some k18 (@Flow.next,((k26 x0 x1),(k7,(P_ 154 0 176 30)))))))):=by intros; kernel_rfl
theorem pf_882:((x0:World)→(@Eq ((x1:OsState)→(@Option k18)) (fun x1=>(@W.segRunT @treeTable (k2).1 x0 11 v_ 1 1153 (k26 x0 x1) (@W.piecesOf @va @yc k7 (P_ 154 0 176 30) [(@W.topFrame (P_ 0 0 0 0))]))) (fun x1=>(@some k18 (@Flow.next,((k34 x0 x1),(k7,(P_ 433 0 443 144)))))))):=by intros; kernel_rfl
theorem pf_885:((x0:World)→((x1:OsState)→(@Eq (@Option @Shared) (@W.topRun @treeTable (k2).1 x0 11 v_ k20 (k37 x0 x1) (@W.topStub (k2).1)) (@some @Shared (k0 x0 x1))))):=(fun x0=>(fun x1=>(@W.go_top @treeTable (k2).1 x0 11 v_ 12 (@Nat.add 1 (@Nat.add 1937 (@Nat.add 1821 (@Nat.add 1811 (@Nat.add 1153 2))))) (k37 x0 x1) (k29 x0 x1) (k0 x0 x1) (@W.topStub (k2).1) k38 (congrFun (My.pf_47 x0) x1) (@W.piece_block @treeTable (k2).1 x0 11 v_ @yc (P_ 0 0 0 0) 1 (@Nat.add 1937 (@Nat.add 1821 (@Nat.add 1811 (@Nat.add 1153 2)))) (k29 x0 x1) (@W.SharedT.abs (k28 x0 x1)) (k0 x0 x1) (@W.behindTheImports (k2).1) k7 (P_ 0 0 0 0) (P_ 0 0 0 0) (congrFun (My.pf_49 x0) x1) (@W.piece_app @treeTable (k2).1 x0 11 v_ @yc (P_ 0 0 0 0) 1937 (@Nat.add 1821 (@Nat.add 1811 (@Nat.add 1153 2))) (@W.SharedT.abs (k28 x0 x1)) (@W.SharedT.abs (k24 x0 x1)) (k0 x0 x1) @oY (@HAppend.hAppend (@List @Stmt) (@List @Stmt) (@List @Stmt) (@instHAppendOfAppend (@List @Stmt) (@List.instAppend @Stmt)) @uR k23) k7 (P_ 0 0 0 0) (P_ 21 0 22 8) (My.sg_ (congrFun (My.pf_191 x0) x1)) (@W.piece_app @treeTable (k2).1 x0 11 v_ @yc (P_ 0 0 0 0) 1821 (@Nat.add 1811 (@Nat.add 1153 2)) (@W.SharedT.abs (k24 x0 x1)) (@W.SharedT.abs (k25 x0 x1)) (k0 x0 x1) @uR k23 k7 (P_ 21 0 22 8) (P_ 89 0 98 24) (My.sg_ (congrFun (My.pf_403 x0) x1)) (@W.piece_app @treeTable (k2).1 x0 11 v_ @yc (P_ 0 0 0 0) 1811 (@Nat.add 1153 2) (@W.SharedT.abs (k25 x0 x1)) (@W.SharedT.abs (k26 x0 x1)) (k0 x0 x1) @uQ (@HAppend.hAppend (@List @Stmt) (@List @Stmt) (@List @Stmt) (@instHAppendOfAppend (@List @Stmt) (@List.instAppend @Stmt)) @va []) k7 (P_ 89 0 98 24) (P_ 154 0 176 30) (My.sg_ (congrFun (My.pf_639 x0) x1)) (@W.piece_app @treeTable (k2).1 x0 11 v_ @yc (P_ 0 0 0 0) 1153 2 (@W.SharedT.abs (k26 x0 x1)) (@W.SharedT.abs (k34 x0 x1)) (k0 x0 x1) @va [] k7 (P_ 154 0 176 30) (P_ 433 0 443 144) (My.sg_ (congrFun (My.pf_882 x0) x1)) (congrFun (My.pf_884 x0) x1)))))))))
theorem pf_887:((x0:World)→(@Eq (@Prod @Bool (@Prod @Nat (@Option @Value))) ((@Bool.and (@Heap.isNs (@W.boot_heap x0.params) @mainGlobals) (@BEq.beq @Nat (@instBEqOfDecidableEq @Nat @instDecidableEqNat) (@Array.size @GenState g_) 0)),((@Array.size @Obj (@Heap.objs (@W.boot_heap x0.params))),(@Heap.nsMap (@W.boot_heap x0.params) @mainGlobals (.ofString "__annotations__")))) (@Bool.true,(11,v_)))):=by intros; kernel_rfl
theorem pf_43:((x0:@Shared)→(@Eq (@Option @Shared) (@fenceModules? (k2).1 x0) (@some @Shared x0))):=by intros; kernel_rfl
theorem pf_42:(@Eq @Program (@W.opening (k2).1) (@W.plainProg (@Scope.names (@Module.scope (@Program.main (k2).1))))):=by intros; kernel_rfl
theorem left:(@W.LeftO (k2).1 @h_view_39 [] (fun (x0:@Shared)=>(@Bool.and (@W.xlAt @h_view_39 k17 x0) (@W.recOk (@W.RowW.records k2) x0))) (@W.Hook.α kh0) (@W.Hook.obs kh0) (@W.Hook.val kh0) 13522 @Bool.true):=(@W.LeftO.of_pieces (k2).1 @h_view_39 [] (fun (x0:@Shared)=>(@Bool.and (@W.xlAt @h_view_39 k17 x0) (@W.recOk (@W.RowW.records k2) x0))) (@W.Hook.α kh0) (@W.Hook.obs kh0) (@W.Hook.val kh0) 13522 @Bool.true @W.boot_heap @xm g_ g_ @W.boot_drawn d_ @W.boot_toks 1217 11 v_ k20 (@W.boot_open (k2).1 13522 @My.pf_42 (@of_decide_eq_true (@Eq @Bool (@Nat.ble 600 13522) @Bool.true) (@instDecidableEqBool (@Nat.ble 600 13522) @Bool.true) (@id (@Eq @Bool (@Decidable.decide (@Eq @Bool (@Nat.ble 600 13522) @Bool.true) (@instDecidableEqBool (@Nat.ble 600 13522) @Bool.true)) @Bool.true) (@Eq.refl @Bool @Bool.true))) @My.pf_43) @My.pf_887 @My.pf_885 (@of_decide_eq_true (@Eq @Bool (@Nat.ble k20 13522) @Bool.true) (@instDecidableEqBool (@Nat.ble k20 13522) @Bool.true) (@id (@Eq @Bool (@Decidable.decide (@Eq @Bool (@Nat.ble k20 13522) @Bool.true) (@instDecidableEqBool (@Nat.ble k20 13522) @Bool.true)) @Bool.true) (@Eq.refl @Bool @Bool.true))) (fun x0=>(@funext @OsState (fun x1=>(@Prod @Bool (@Prod (@Prod @PyProof.Rows.Seen k9) (@W.Hook.α kh0)))) (fun x1=>((k8 x0 x1),((@W.openSeen @h_view_39 [] k12 (fun (x2:@Shared)=>(@Bool.and (@W.xlAt @h_view_39 k17 x2) (@W.recOk (@W.RowW.records k2) x2))) @Bool.true (k0 x0 x1)),(@W.Hook.obs kh0 (k0 x0 x1))))) (fun x1=>(@Bool.true,((@W.openGood @h_view_39 []),(@W.Hook.val kh0 x0)))) (fun x1=>(@My.pf_919 x0 x1)))))
end My
end
theorem My.myE:∀ P,My.myAs=(My.h_heap_39 P).map (·.1):=fun _=>by kernel_rfl
set_option maxRecDepth 100000
set_option maxHeartbeats 4000000
namespace OD
open PySem PySem.Spec PyProof.Rows L2
abbrev St:=L2.St
noncomputable def Zx (X:Cx):Hp:=if X.stack.length=X.outer.length∨X.fn ""=false then (fun _=>none) else X.H₀
theorem jq {CX:CXT} {P:Program} {w:World} {K:PySem.W.Frag} {mg:Str→Option Value} {base:Heap} {N:List Str} {qual:Str} {scope:Scope} {f:Addr} {cd:Value} {A:Around} {outer:List Env} {s:Shared} {H:Hp} {E:XK}:Zx (yu CX P w K mg base N qual scope f cd A outer s H E)=H:=if_neg (fun z=>z.elim (Nat.succ_ne_self _) (fun z=>Bool.noConfusion z))
theorem ul {X:Cx} (h:X.stack.length≠X.outer.length) (hf:X.fn ""=true:=by rfl):Zx X=X.H₀:=if_neg (fun z=>z.elim h (fun z=>by rw [hf] at z; cases z))
variable {Z:Hp}
inductive Dt where
 | non | bl (b:Bool) | int (i:Int) | str (x:Str) | tup (ds:List Dt) | lst (ds:List Dt) | scr (ns:List Int) | way (C:Addr) (f:Str) (n:Int) | exc (C:Addr)
def excAt (a C:Addr):Heap→Prop:=fun h=>∃ o,h.get? a=some o∧o.cls=.ref C
mutual
def Is (K:PySem.W.Frag) (H:Hp):Dt→V→Prop
 | .non,v=>v=.non
 | .bl b,v=>v=.bl b
 | .int i,v=>v=.int i
 | .str x,v=>v=.str x
 | .tup ds,v=>∃ a xs,v=.ref a∧H a=some (.tup xs)∧AllIs K H ds xs
 | .lst ds,v=>∃ a xs,v=.ref a∧H a=some (.lst xs)∧AllIs K H ds xs
 | .scr ns,v=>∃ a,v=.ref a∧SqL K H a (ns.map V.int)
 | .way C f n,v=>∃ a dx,v=.ref a∧H a=some (.ins C dx [(f,.int n)])
 | .exc C,v=>∃ a,v=.ref a∧H a=some (.ext (excAt a C))
def AllIs (K:PySem.W.Frag) (H:Hp):List Dt→List V→Prop
 | [],xs=>xs=[]
 | d::ds,xs=>∃ x r,xs=x::r∧Is K H d x∧AllIs K H ds r
end
variable {K:PySem.W.Frag} {H H' H1 H2:Hp}
theorem is_non {v:V}:Is K H .non v↔v=.non:=by unfold Is; exact Iff.rfl
theorem is_bl {b:Bool} {v:V}:Is K H (.bl b) v↔v=.bl b:=by unfold Is; exact Iff.rfl
theorem is_int {i:Int} {v:V}:Is K H (.int i) v↔v=.int i:=by unfold Is; exact Iff.rfl
theorem is_str {x:Str} {v:V}:Is K H (.str x) v↔v=.str x:=by unfold Is; exact Iff.rfl
theorem is_tup {ds:List Dt} {v:V}:Is K H (.tup ds) v↔∃ a xs,v=.ref a∧H a=some (.tup xs)∧AllIs K H ds xs:=by
 constructor
 ·intro h; unfold Is at h; exact h
 ·intro h; unfold Is; exact h
theorem is_lst {ds:List Dt} {v:V}:Is K H (.lst ds) v↔∃ a xs,v=.ref a∧H a=some (.lst xs)∧AllIs K H ds xs:=by
 constructor
 ·intro h; unfold Is at h; exact h
 ·intro h; unfold Is; exact h
theorem is_scr {ns:List Int} {v:V}:Is K H (.scr ns) v↔∃ a,v=.ref a∧SqL K H a (ns.map V.int):=by
 constructor
 ·intro h; unfold Is at h; exact h
 ·intro h; unfold Is; exact h
theorem is_way {C:Addr} {f:Str} {n:Int} {v:V}:Is K H (.way C f n) v↔∃ a dx,v=.ref a∧H a=some (.ins C dx [(f,.int n)]):=by
 constructor
 ·intro h; unfold Is at h; exact h
 ·intro h; unfold Is; exact h
theorem is_exc {C:Addr} {v:V}:Is K H (.exc C) v↔∃ a,v=.ref a∧H a=some (.ext (excAt a C)):=by
 constructor
 ·intro h; unfold Is at h; exact h
 ·intro h; unfold Is; exact h
theorem allIs_nil {xs:List V}:AllIs K H [] xs↔xs=[]:=by unfold AllIs; exact Iff.rfl
theorem allIs_cons {d:Dt} {ds:List Dt} {xs:List V}:AllIs K H (d::ds) xs↔∃ x r,xs=x::r∧Is K H d x∧AllIs K H ds r:=by
 constructor
 ·intro h; unfold AllIs at h; exact h
 ·intro h; unfold AllIs; exact h
mutual
theorem Is.mono0 (s:Same H H'):∀ {d:Dt} {v:V},Is K H d v→Is K H' d v
 | .non,_,h=>is_non.mpr (is_non.mp h)
 | .bl _,_,h=>is_bl.mpr (is_bl.mp h)
 | .int _,_,h=>is_int.mpr (is_int.mp h)
 | .str _,_,h=>is_str.mpr (is_str.mp h)
 | .tup ds,_,h=>by
  obtain ⟨a,xs,e,h1,h2⟩:=is_tup.mp h
  exact is_tup.mpr ⟨a,xs,e,s _ _ h1,AllIs.mono0 s h2⟩
 | .lst ds,_,h=>by
  obtain ⟨a,xs,e,h1,h2⟩:=is_lst.mp h
  exact is_lst.mpr ⟨a,xs,e,s _ _ h1,AllIs.mono0 s h2⟩
 | .scr ns,_,h=>by
  obtain ⟨a,e,h1⟩:=is_scr.mp h
  exact is_scr.mpr ⟨a,e,s.seq h1⟩
 | .way C f n,_,h=>by
  obtain ⟨a,dx,e,h1⟩:=is_way.mp h
  exact is_way.mpr ⟨a,dx,e,s _ _ h1⟩
 | .exc C,_,h=>by
  obtain ⟨a,e,h1⟩:=is_exc.mp h
  exact is_exc.mpr ⟨a,e,s _ _ h1⟩
theorem AllIs.mono0 (s:Same H H'):∀ {ds:List Dt} {xs:List V},AllIs K H ds xs→AllIs K H' ds xs
 | [],_,h=>allIs_nil.mpr (allIs_nil.mp h)
 | d::ds,_,h=>by
  obtain ⟨x,r,e,h1,h2⟩:=allIs_cons.mp h
  exact allIs_cons.mpr ⟨x,r,e,Is.mono0 s h1,AllIs.mono0 s h2⟩
end
theorem AllIs.length:∀ {ds:List Dt} {xs:List V},AllIs K H ds xs→ds.length=xs.length
 | [],_,h=>by rw [allIs_nil.mp h]; rfl
 | d::ds,_,h=>by
  obtain ⟨x,r,rfl,_,h2⟩:=allIs_cons.mp h
  rw [List.length_cons,List.length_cons,AllIs.length h2]
theorem AllIs.get:∀ {ds:List Dt} {xs:List V} {i:Nat} {d:Dt},AllIs K H ds xs→ds[i]? = some d→∃ v,xs[i]? = some v∧Is K H d v
 | [],_,_,_,_,e=>by simp at e
 | d::ds,_,0,d',h,e=>by
  obtain ⟨x,r,rfl,h1,h2⟩:=allIs_cons.mp h
  simp at e; subst e
  exact ⟨x,rfl,h1⟩
 | d::ds,_,i+1,d',h,e=>by
  obtain ⟨x,r,rfl,h1,h2⟩:=allIs_cons.mp h
  obtain ⟨v,e1,e2⟩:=AllIs.get (i:=i) h2 (by simpa using e)
  exact ⟨v,by simpa using e1,e2⟩
theorem AllIs.get':∀ {ds:List Dt} {xs:List V} {i:Nat} {v:V},AllIs K H ds xs→xs[i]? = some v→∃ d,ds[i]? = some d∧Is K H d v
 | [],_,_,_,h,e=>by rw [allIs_nil.mp h] at e; simp at e
 | d::ds,_,0,v,h,e=>by
  obtain ⟨x,r,rfl,h1,h2⟩:=allIs_cons.mp h
  simp at e; subst e
  exact ⟨d,rfl,h1⟩
 | d::ds,_,i+1,v,h,e=>by
  obtain ⟨x,r,rfl,h1,h2⟩:=allIs_cons.mp h
  obtain ⟨v,e1,e2⟩:=AllIs.get' (i:=i) h2 (by simpa using e)
  exact ⟨v,by simpa using e1,e2⟩
theorem AllIs.append:∀ {ds es:List Dt} {xs ys:List V},AllIs K H ds xs→AllIs K H es ys→AllIs K H (ds++es) (xs++ys)
 | [],_,_,_,h,h'=>by rw [allIs_nil.mp h]; exact h'
 | d::ds,_,_,_,h,h'=>by
  obtain ⟨x,r,rfl,h1,h2⟩:=allIs_cons.mp h
  exact allIs_cons.mpr ⟨x,_,rfl,h1,AllIs.append h2 h'⟩
theorem AllIs.drop:∀ {ds:List Dt} {xs:List V} (n:Nat),AllIs K H ds xs→AllIs K H (ds.drop n) (xs.drop n)
 | _,_,0,h=>h
 | [],_,n+1,h=>by rw [allIs_nil.mp h]; exact allIs_nil.mpr rfl
 | d::ds,_,n+1,h=>by
  obtain ⟨x,r,rfl,h1,h2⟩:=allIs_cons.mp h
  exact AllIs.drop n h2
theorem AllIs.take:∀ {ds:List Dt} {xs:List V} (n:Nat),AllIs K H ds xs→AllIs K H (ds.take n) (xs.take n)
 | _,_,0,_=>allIs_nil.mpr rfl
 | [],_,n+1,h=>by rw [allIs_nil.mp h]; exact allIs_nil.mpr rfl
 | d::ds,_,n+1,h=>by
  obtain ⟨x,r,rfl,h1,h2⟩:=allIs_cons.mp h
  exact allIs_cons.mpr ⟨x,_,rfl,h1,AllIs.take n h2⟩
theorem AllIs.ints:∀ {ns:List Int},AllIs K H (ns.map Dt.int) (ns.map V.int)
 | []=>allIs_nil.mpr rfl
 | n::ns=>allIs_cons.mpr ⟨.int n,_,rfl,is_int.mpr rfl,AllIs.ints⟩
theorem AllIs.atI {ds:List Dt} {xs:List V} {i:Int} {d:Dt} (h:AllIs K H ds xs) (e:L2.atI ds i=some d):∃ v,L2.atI xs i=some v∧Is K H d v:=by
 unfold L2.atI at e ⊢
 rw [← h.length]
 cases q:ixN ds.length i with
 | none=>rw [q] at e; cases e
 | some j=>
  rw [q] at e
  exact h.get e
theorem AllIs.one {d:Dt} {xs:List V} (h:AllIs K H [d] xs):∃ v,xs=[v]∧Is K H d v:=by
 obtain ⟨x,r,rfl,h1,h2⟩:=allIs_cons.mp h
 rw [allIs_nil.mp h2]
 exact ⟨x,rfl,h1⟩
theorem AllIs.two {d e:Dt} {xs:List V} (h:AllIs K H [d,e] xs):∃ v u,xs=[v,u]∧Is K H d v∧Is K H e u:=by
 obtain ⟨x,r,rfl,h1,h2⟩:=allIs_cons.mp h
 obtain ⟨u,rfl,h3⟩:=h2.one
 exact ⟨x,u,rfl,h1,h3⟩
theorem zL {p:Addr} (h:H p=none) (o:HO):Same H (upd H p o):=fun b u q=>by rw [zw (zW q h)]; exact q
structure Vw where
 g:Hp
 h:Hp
 sub:Same g h
structure Le (W W':Vw):Prop where
 g:Same W.g W'.g
 h:Same W.h W'.h
 n:∀ a,W.h a≠none→W.g a=none→W'.g a=none
theorem Le.refl (W:Vw):Le W W:=⟨Same.refl _,Same.refl _,fun _ _ h=>h⟩
theorem Le.trans {W W1 W2:Vw} (a:Le W W1) (b:Le W1 W2):Le W W2:=
 ⟨a.g.trans b.g,a.h.trans b.h,fun c h1 h2=>b.n c (fun z=>h1 (a.h.free z)) (a.n c h1 h2)⟩
theorem Is.mono {W W':Vw} {d:Dt} {v:V} (h:Is K W.g d v) (s:Le W W'):Is K W'.g d v:=Is.mono0 s.g h
theorem AllIs.mono {W W':Vw} {d:List Dt} {v:List V} (h:AllIs K W.g d v) (s:Le W W'):AllIs K W'.g d v:=AllIs.mono0 s.g h
def Vw.new (W:Vw) (p:Addr) (o:HO):Vw:=⟨upd W.g p o,upd W.h p o,fun b u q=>by
 by_cases e:b=p
 ·subst e; rw [zt] at q ⊢; exact q
 ·rw [zw e] at q ⊢; exact W.sub _ _ q⟩
theorem wd {W:Vw} {p:Addr} (hp:W.h p=none) (o:HO):Le W (W.new p o):=
 ⟨zL (W.sub.free hp) o,zL hp o,fun a h1 h2=>by
  have:a≠p:=fun e=>h1 (e ▸ hp)
  show upd W.g p o a=none
  rw [zw this]; exact h2⟩
def Vw.mine (W:Vw) (p:Addr) (o:HO) (hp:W.g p=none):Vw:=⟨W.g,upd W.h p o,fun b u q=>by
 have:b≠p:=fun e=>by rw [e,hp] at q; cases q
 rw [zw this]; exact W.sub _ _ q⟩
theorem tW {W:Vw} {p:Addr} (hp:W.h p=none) (o:HO):Le W (W.mine p o (W.sub.free hp)):=
 ⟨Same.refl _,zL hp o,fun _ _ h=>h⟩
def Vw.frz (W:Vw) (p:Addr) (o:HO) (hp:W.h p=some o):Vw:=⟨upd W.g p o,W.h,fun b u q=>by
 by_cases e:b=p
 ·subst e; rw [zt] at q; rw [hp]; exact q
 ·rw [zw e] at q; exact W.sub _ _ q⟩
inductive Sl where | none | some (d:Dt) | own (ds:List Dt) | arg (a:Addr) (ds:List Dt)
abbrev DS:=List Sl
structure Rl (K:PySem.W.Frag) (Z F:Hp) (W:Vw) (ρ:DS) (σ:St):Prop where
 len:ρ.length=σ.length
 at_:∀ (i:Nat) (d:Dt),ρ[i]? = some (.some d)→∃ v,σ[i]? = some (some v)∧Is K W.g d v
 ow:∀ (i:Nat) (ds:List Dt),ρ[i]? = some (.own ds)→∃ a xs,σ[i]? = some (some (.ref a))∧W.h a=some (.lst xs)∧W.g a=none∧F a=none∧AllIs K W.g ds xs
 ne:∀ (i j:Nat) (ds es:List Dt),i≠j→ρ[i]? = some (.own ds)→ρ[j]? = some (.own es)→σ[i]?≠σ[j]?
 fr:Same F W.h
 z:Same Z F
 ar:∀ (i:Nat) (a:Addr) (ds:List Dt),ρ[i]? = some (.arg a ds)→(∃ xs,σ[i]? = some (some (.ref a))∧W.h a=some (.lst xs)∧W.g a=none∧F a=none∧AllIs K W.g ds xs)∧(∀ (j:Nat) (es:List Dt),ρ[j]? = some (.own es)→σ[j]?≠some (some (.ref a)))∧∀ (j:Nat) (b:Addr) (es:List Dt),ρ[j]? = some (.arg b es)→j=i
variable {F:Hp} {W W':Vw}
theorem Rl.mono {ρ:DS} {σ:St} (r:Rl K Z F W ρ σ) (s:Le W W'):Rl K Z F W' ρ σ:=
 ⟨r.len,fun i d e=>let ⟨v,h1,h2⟩:=r.at_ i d e; ⟨v,h1,h2.mono s⟩,
  fun i ds e=>let ⟨a,xs,h1,h2,h3,h4,h5⟩:=r.ow i ds e; ⟨a,xs,h1,s.h _ _ h2,s.n a (by rw [h2]; intro z; cases z) h3,h4,h5.mono s⟩,r.ne,r.fr.trans s.h,r.z,
  fun i a ds e=>let ⟨⟨xs,h1,h2,h3,h4,h5⟩,k1,k2⟩:=r.ar i a ds e; ⟨⟨xs,h1,s.h _ _ h2,s.n a (by rw [h2]; intro z; cases z) h3,h4,h5.mono s⟩,k1,k2⟩⟩
theorem zl {α:Type} {l:List α} {i j:Nat} {x y:α} (q:(l.set i x)[j]? = some y):(i=j∧i<l.length∧x=y)∨(i≠j∧l[j]? = some y):=by
 by_cases hij:i=j
 ·subst hij
  by_cases hl:i<l.length
  ·rw [List.getElem?_set_self hl] at q
   exact .inl ⟨rfl,hl,Option.some.inj q⟩
  ·rw [List.getElem?_eq_none (by rw [List.length_set]; omega)] at q
   cases q
 ·rw [List.getElem?_set_ne hij] at q
  exact .inr ⟨hij,q⟩
theorem Rl.set {ρ:DS} {σ:St} (r:Rl K Z F W ρ σ) {d:Dt} {v:V} (i:Nat) (h:Is K W.g d v):Rl K Z F W (ρ.set i (.some d)) (σ.set i (some v)):=by
 refine ⟨by rw [List.length_set,List.length_set]; exact r.len,fun j e q=>?_,fun j ds q=>?_,fun j k ds es hjk q1 q2=>?_,r.fr,r.z,fun j a ds q=>?_⟩
 ·rcases zl q with ⟨rfl,hl,e1⟩ | ⟨hij,q⟩
  ·cases e1
   exact ⟨v,by rw [List.getElem?_set_self (by rw [← r.len]; exact hl)],h⟩
  ·rw [List.getElem?_set_ne hij]
   exact r.at_ j e q
 ·rcases zl q with ⟨_,_,e1⟩ | ⟨hij,q⟩
  ·cases e1
  ·rw [List.getElem?_set_ne hij]
   exact r.ow j ds q
 ·rcases zl q1 with ⟨_,_,e1⟩ | ⟨hij,q1⟩
  ·cases e1
  rcases zl q2 with ⟨_,_,e1⟩ | ⟨hik,q2⟩
  ·cases e1
  rw [List.getElem?_set_ne hij,List.getElem?_set_ne hik]
  exact r.ne j k ds es hjk q1 q2
 ·rcases zl q with ⟨_,_,e1⟩ | ⟨hij,q⟩
  ·cases e1
  obtain ⟨⟨xs,h1,h2⟩,k1,k2⟩:=r.ar j a ds q
  refine ⟨⟨xs,by rw [List.getElem?_set_ne hij]; exact h1,h2⟩,fun k es q'=>?_,fun k c es q'=>?_⟩
  ·rcases zl q' with ⟨_,_,e1⟩ | ⟨hik,q'⟩
   ·cases e1
   rw [List.getElem?_set_ne hik]
   exact k1 k es q'
  ·rcases zl q' with ⟨_,_,e1⟩ | ⟨hik,q'⟩
   ·cases e1
   exact k2 k c es q'
theorem Rl.own {ρ:DS} {σ:St} (r:Rl K Z F W ρ σ) (s:Le W W') {p:Addr} {xs:List V} {ds:List Dt} (i:Nat) (h0:W.h p=none) (h1:W'.h p=some (.lst xs)) (h2:W'.g p=none) (h3:AllIs K W'.g ds xs):
  Rl K Z F W' (ρ.set i (.own ds)) (σ.set i (some (.ref p))):=by
 have r':=r.mono s
 have nep:∀ (j:Nat) (es:List Dt),ρ[j]? = some (Sl.own es)→σ[j]?≠some (some (V.ref p)):=fun j es q z=>by
  obtain ⟨a,ys,e1,e2,_⟩:=r.ow j es q
  rw [z] at e1
  cases e1
  rw [h0] at e2
  cases e2
 refine ⟨by rw [List.length_set,List.length_set]; exact r.len,fun j e q=>?_,fun j es q=>?_,fun j k es es' hjk q1 q2=>?_,r'.fr,r.z,fun j a fs q=>?_⟩
 ·rcases zl q with ⟨_,_,e1⟩ | ⟨hij,q⟩
  ·cases e1
  ·rw [List.getElem?_set_ne hij]
   exact r'.at_ j e q
 ·rcases zl q with ⟨rfl,hl,e1⟩ | ⟨hij,q⟩
  ·cases e1
   exact ⟨p,xs,by rw [List.getElem?_set_self (by rw [← r.len]; exact hl)],h1,h2,r.fr.free h0,h3⟩
  ·rw [List.getElem?_set_ne hij]
   exact r'.ow j es q
 ·rcases zl q1 with ⟨rfl,hl,e1⟩ | ⟨hij,q1⟩
  ·rcases zl q2 with ⟨rfl,_,_⟩ | ⟨hik,q2⟩
   ·exact absurd rfl hjk
   ·rw [List.getElem?_set_self (by rw [← r.len]; exact hl),List.getElem?_set_ne hik]
    exact fun z=>nep k es' q2 z.symm
  ·rcases zl q2 with ⟨rfl,hl,_⟩ | ⟨hik,q2⟩
   ·rw [List.getElem?_set_self (by rw [← r.len]; exact hl),List.getElem?_set_ne hij]
    exact nep j es q1
   ·rw [List.getElem?_set_ne hij,List.getElem?_set_ne hik]
    exact r.ne j k es es' hjk q1 q2
 ·rcases zl q with ⟨_,_,e1⟩ | ⟨hij,q⟩
  ·cases e1
  obtain ⟨⟨ys,g1,g2⟩,k1,k2⟩:=r'.ar j a fs q
  obtain ⟨⟨_,_,g3,_⟩,_,_⟩:=r.ar j a fs q
  refine ⟨⟨ys,by rw [List.getElem?_set_ne hij]; exact g1,g2⟩,fun k es q'=>?_,fun k c es q'=>?_⟩
  ·rcases zl q' with ⟨rfl,hl,e1⟩ | ⟨hik,q'⟩
   ·rw [List.getElem?_set_self (by rw [← r.len]; exact hl)]
    intro z
    cases z
    rw [h0] at g3
    cases g3
   ·rw [List.getElem?_set_ne hik]
    exact k1 k es q'
  ·rcases zl q' with ⟨_,_,e1⟩ | ⟨hik,q'⟩
   ·cases e1
   exact k2 k c es q'
theorem Rl.put {ρ:DS} {σ:St} (r:Rl K Z F W ρ σ) {i:Nat} {ds es:List Dt} {a:Addr} {ys:List V} (hi:ρ[i]? = some (.own ds)) (ha:σ[i]? = some (some (.ref a))) (hg:W.g a=none) (hF:F a=none) (h3:AllIs K W.g es ys):
  Rl K Z F (W.mine a (.lst ys) hg) (ρ.set i (.own es)) σ:=by
 have hl:i<ρ.length:=by
  rcases Nat.lt_or_ge i ρ.length with h | h
  ·exact h
  ·rw [List.getElem?_eq_none h] at hi; cases hi
 have other:∀ j fs,j≠i→ρ[j]? = some (.own fs)→σ[j]?≠some (some (.ref a)):=fun j fs hj q z=>r.ne j i fs ds hj q hi (z.trans ha.symm)
 refine ⟨by rw [List.length_set]; exact r.len,fun j e q=>?_,fun j fs q=>?_,fun j k fs fs' hjk q1 q2=>?_,fun p o q=>?_,r.z,fun j c fs q=>?_⟩
 ·rcases zl q with ⟨_,_,e1⟩ | ⟨hij,q⟩
  ·cases e1
  ·exact r.at_ j e q
 ·rcases zl q with ⟨rfl,_,e1⟩ | ⟨hij,q⟩
  ·cases e1
   exact ⟨a,ys,ha,zt,hg,hF,h3⟩
  ·obtain ⟨b,xs,e1,e2,e3,e4,e5⟩:=r.ow j fs q
   have hb:b≠a:=fun z=>other j fs (fun z=>hij z.symm) q (z ▸ e1)
   exact ⟨b,xs,e1,(zw hb).trans e2,e3,e4,e5⟩
 ·have k1:∃ gs,ρ[j]? = some (.own gs):=by
   rcases zl q1 with ⟨rfl,_,_⟩ | ⟨_,q⟩
   ·exact ⟨_,hi⟩
   ·exact ⟨_,q⟩
  have k2:∃ gs,ρ[k]? = some (.own gs):=by
   rcases zl q2 with ⟨rfl,_,_⟩ | ⟨_,q⟩
   ·exact ⟨_,hi⟩
   ·exact ⟨_,q⟩
  obtain ⟨_,k1⟩:=k1
  obtain ⟨_,k2⟩:=k2
  exact r.ne j k _ _ hjk k1 k2
 ·have e:p≠a:=fun e=>by rw [e,hF] at q; cases q
  exact (zw (H:=W.h) (o:=.lst ys) e).trans (r.fr p o q)
 ·rcases zl q with ⟨_,_,e1⟩ | ⟨hij,q⟩
  ·cases e1
  obtain ⟨⟨ys',g1,g2,g3,g4,g5⟩,k1,k2⟩:=r.ar j c fs q
  have hc:c≠a:=fun z=>k1 i ds hi (by rw [z]; exact ha)
  refine ⟨⟨ys',g1,(zw hc).trans g2,g3,g4,g5⟩,fun k es' q'=>?_,fun k c' es' q'=>?_⟩
  ·rcases zl q' with ⟨rfl,_,_⟩ | ⟨_,q'⟩
   ·exact k1 i ds hi
   ·exact k1 k es' q'
  ·rcases zl q' with ⟨_,_,e1⟩ | ⟨hik,q'⟩
   ·cases e1
   exact k2 k c' es' q'
theorem Rl.frz {ρ:DS} {σ:St} (r:Rl K Z F W ρ σ) {i:Nat} {ds:List Dt} {a:Addr} {xs:List V} (hi:ρ[i]? = some (.own ds)) (ha:σ[i]? = some (some (.ref a))) (hh:W.h a=some (.lst xs)) (hg:W.g a=none) (h3:AllIs K W.g ds xs):
  Rl K Z F (W.frz a _ hh) (ρ.set i (.some (.lst ds))) σ:=by
 have sg:Same W.g (upd W.g a (.lst xs)):=zL hg _
 have other:∀ j fs,j≠i→ρ[j]? = some (.own fs)→σ[j]?≠some (some (.ref a)):=fun j fs hj q z=>r.ne j i fs ds hj q hi (z.trans ha.symm)
 refine ⟨by rw [List.length_set]; exact r.len,fun j e q=>?_,fun j fs q=>?_,fun j k fs fs' hjk q1 q2=>?_,r.fr,r.z,fun j c fs q=>?_⟩
 ·rcases zl q with ⟨rfl,_,e1⟩ | ⟨hij,q⟩
  ·cases e1
   exact ⟨_,ha,is_lst.mpr ⟨a,xs,rfl,zt,AllIs.mono0 sg h3⟩⟩
  ·obtain ⟨v,e1,e2⟩:=r.at_ j e q
   exact ⟨v,e1,Is.mono0 sg e2⟩
 ·rcases zl q with ⟨_,_,e1⟩ | ⟨hij,q⟩
  ·cases e1
  ·obtain ⟨b,ys,e1,e2,e3,e4,e5⟩:=r.ow j fs q
   have hb:b≠a:=fun z=>other j fs (fun z=>hij z.symm) q (z ▸ e1)
   exact ⟨b,ys,e1,e2,(zw hb).trans e3,e4,AllIs.mono0 sg e5⟩
 ·rcases zl q1 with ⟨_,_,e1⟩ | ⟨_,q1⟩
  ·cases e1
  rcases zl q2 with ⟨_,_,e1⟩ | ⟨_,q2⟩
  ·cases e1
  exact r.ne j k _ _ hjk q1 q2
 ·rcases zl q with ⟨_,_,e1⟩ | ⟨hij,q⟩
  ·cases e1
  obtain ⟨⟨ys',g1,g2,g3,g4,g5⟩,k1,k2⟩:=r.ar j c fs q
  have hc:c≠a:=fun z=>k1 i ds hi (by rw [z]; exact ha)
  refine ⟨⟨ys',g1,g2,(zw hc).trans g3,g4,AllIs.mono0 sg g5⟩,fun k es' q'=>?_,fun k c' es' q'=>?_⟩
  ·rcases zl q' with ⟨_,_,e1⟩ | ⟨_,q'⟩
   ·cases e1
   ·exact k1 k es' q'
  ·rcases zl q' with ⟨_,_,e1⟩ | ⟨hik,q'⟩
   ·cases e1
   exact k2 k c' es' q'
def ye (n:Nat) (ds:List Dt):DS:=ds.map Sl.some++List.replicate (n - ds.length) Sl.none
theorem Rl.start {N:List Str} {ds:List Dt} {vs:List V} (h:AllIs K W.g ds vs) (hz:Same Z W.h):Rl K Z W.h W (ye N.length ds) (L2.start N vs):=by
 have hl:=h.length
 have cls:∀ (i:Nat) (y:Sl),(ye N.length ds)[i]? = some y→(∃ d,ds[i]? = some d∧y=.some d)∨y=.none:=fun i y e=>by
  unfold ye at e
  by_cases hi:i<ds.length
  ·rw [List.getElem?_append_left (by rw [List.length_map]; exact hi),List.getElem?_map] at e
   cases q:ds[i]? with
   | none=>rw [q] at e; cases e
   | some d'=>
    rw [q] at e
    exact .inl ⟨d',rfl,(Option.some.inj e).symm⟩
  ·rw [List.getElem?_append_right (by rw [List.length_map]; omega),List.getElem?_replicate] at e
   split at e
   ·exact .inr (Option.some.inj e).symm
   ·cases e
 refine ⟨by unfold L2.start ye; rw [List.length_append,List.length_append,List.length_map,List.length_map,List.length_replicate,List.length_replicate,hl],fun i d e=>?_,fun i es e=>?_,fun i j es fs _ e _=>?_,Same.refl _,hz,fun i a es e=>?_⟩
 ·rcases cls i _ e with ⟨d',q,e1⟩ | e1
  ·cases e1
   obtain ⟨v,h1,h2⟩:=h.get q
   refine ⟨v,?_,h2⟩
   have hi:i<ds.length:=by
    rcases Nat.lt_or_ge i ds.length with h | h
    ·exact h
    ·rw [List.getElem?_eq_none h] at q; cases q
   unfold L2.start
   rw [List.getElem?_append_left (by rw [List.length_map,← hl]; exact hi),List.getElem?_map,h1]
   rfl
  ·cases e1
 ·rcases cls i _ e with ⟨d',q,e1⟩ | e1
  ·cases e1
  ·cases e1
 ·rcases cls i _ e with ⟨d',q,e1⟩ | e1
  ·cases e1
  ·cases e1
 ·rcases cls i _ e with ⟨d',q,e1⟩ | e1
  ·cases e1
  ·cases e1
abbrev DTE:=DS→(Dt→Prop)→Prop
abbrev DTT:=DS→(Bool→Prop)→Prop
abbrev DTA:=DS→(List Dt→Prop)→Prop
def LiE (K:PySem.W.Frag) (Z:Hp) (te:TE) (t:DTE):Prop:=
 ∀ {F:Hp} (ρ:DS) (σ:St) (H:Vw) (Q:Dt→Prop),Rl K Z F H ρ σ→t ρ Q→∀ R:VK,(∀ d v H',Le H H'→Is K H'.g d v→Q d→R v H'.h)→te σ H.h R
def LiT (K:PySem.W.Frag) (Z:Hp) (te:TT) (t:DTT):Prop:=
 ∀ {F:Hp} (ρ:DS) (σ:St) (H:Vw) (Q:Bool→Prop),Rl K Z F H ρ σ→t ρ Q→∀ R:Bool→Hp→Prop,(∀ d H',Le H H'→Q d→R d H'.h)→te σ H.h R
def LiA (K:PySem.W.Frag) (Z:Hp) (te:TA) (t:DTA):Prop:=
 ∀ {F:Hp} (ρ:DS) (σ:St) (H:Vw) (Q:List Dt→Prop),Rl K Z F H ρ σ→t ρ Q→∀ R:List V→Hp→Prop,(∀ d v H',Le H H'→AllIs K H'.g d v→Q d→R v H'.h)→te σ H.h R
def DE (X:Cx) (e:Expr) (t:DTE):Prop:=∃ te,PE X e te∧LiE X.K (Zx X) te t
def DT (X:Cx) (e:Expr) (t:DTT):Prop:=∃ te,PT X e te∧LiT X.K (Zx X) te t
def DW (X:Cx) (e:Expr) (t:DTT):Prop:=∃ te,PW X e te∧LiT X.K (Zx X) te t
def DA (X:Cx) (es:List Expr) (t:DTA):Prop:=∃ te,PA X es te∧LiA X.K (Zx X) te t
theorem DW.dt {X:Cx} {e:Expr} {t:DTT} (h:DW X e t):DT X e t:=let ⟨te,h1,h2⟩:=h; ⟨te,h1.pt,h2⟩
def ni (i:Nat):DTE:=fun ρ Q=>∃ d,ρ[i]? = some (.some d)∧Q d
def dC (d:Dt):DTE:=fun _ Q=>Q d
section
variable {X:Cx} {a b c:Expr} {ta tb tc:DTE} {pos:Pos}
theorem dv (i:Nat) {x:Str} {pos:Pos} (hN:X.N[i]? = some x:=by rfl) (hv:Vis X.env.scope x:=by first | exact Or.inl rfl | exact Or.inr (Or.inl rfl) | exact Or.inr (Or.inr rfl)) (hd:(x == ("__debug__":Str))=false:=by decide)
  (hcd:(x == ("__classdict__":Str))=false:=by decide):DE X (.Name x pos) (ni i):=
 ⟨dM i,z5 hN hv hd hcd,fun ρ σ H Q r h R k=>by
  obtain ⟨d,e,q⟩:=h
  obtain ⟨v,h1,h2⟩:=r.at_ i d e
  exact ⟨v,h1,k d v H (Le.refl H) h2 q⟩⟩
theorem lic {v:V} {d:Dt} (h:∀ H:Vw,Is K H.g d v):LiE K Z (tC v) (dC d):=fun ρ σ H Q r q R k=>k d v H (Le.refl H) (h H) q
theorem zc {i j pos}:DE X (.Constant (.int i) j pos) (dC (.int i)):=⟨_,j7,lic fun _=>is_int.mpr rfl⟩
theorem wx {b j pos}:DE X (.Constant (.bool b) j pos) (dC (.bl b)):=⟨_,Tg,lic fun _=>is_bl.mpr rfl⟩
theorem pL {j pos}:DE X (.Constant .none j pos) (dC .non):=⟨_,Y9,lic fun _=>is_non.mpr rfl⟩
theorem zY {x j pos}:DE X (.Constant (.str x) j pos) (dC (.str x)):=⟨_,YZ,lic fun _=>is_str.mpr rfl⟩
def DOp (X:Cx) (f:Value→Value→Sem Value) (g:Dt→Dt→(Dt→Prop)→Prop):Prop:=
 ∃ r,OpR X f r∧∀ (H:Vw) (x y:V) (d e:Dt) (Q:Dt→Prop),Is X.K H.g d x→Is X.K H.g e y→g d e Q→∀ R:VK,(∀ d v H',Le H H'→Is X.K H'.g d v→Q d→R v H'.h)→r x y H.h R
def dOp (g:Dt→Dt→(Dt→Prop)→Prop) (ta tb:DTE):DTE:=fun ρ Q=>ta ρ fun d=>tb ρ fun e=>g d e Q
theorem V2 {te tf:TE} {r:R2} {g:Dt→Dt→(Dt→Prop)→Prop} (ha:LiE K Z te ta) (hb:LiE K Z tf tb)
  (hg:∀ (H:Vw) (x y:V) (d e:Dt) (Q:Dt→Prop),Is K H.g d x→Is K H.g e y→g d e Q→∀ R:VK,(∀ d v H',Le H H'→Is K H'.g d v→Q d→R v H'.h)→r x y H.h R):LiE K Z (tOp r te tf) (dOp g ta tb):=
 fun ρ σ H Q rl h R k=>ha ρ σ H _ rl h _ fun d v H1 s1 i1 q1=>hb ρ σ H1 _ (rl.mono s1) q1 _ fun e u H2 s2 i2 q2=>
  hg H2 v u d e Q (i1.mono s2) i2 q2 R fun d' v' H3 s3 i3 q3=>k d' v' H3 ((s1.trans s2).trans s3) i3 q3
theorem zi {op:Operator} {g:Dt→Dt→(Dt→Prop)→Prop} (ho:DOp X (binaryOp op) g) (ha:DE X a ta) (hb:DE X b tb):DE X (.BinOp a op b pos) (dOp g ta tb):=by
 obtain ⟨r,h1,h2⟩:=ho
 obtain ⟨te,p1,l1⟩:=ha
 obtain ⟨tf,p2,l2⟩:=hb
 exact ⟨_,Z7 h1 p1 p2,V2 l1 l2 h2⟩
theorem xr {op:CmpOp} {g:Dt→Dt→(Dt→Prop)→Prop} (ho:DOp X (compareOp op) g) (ha:DE X a ta) (hb:DE X b tb) (hm:behindInMarks op b=false):DE X (.Compare a [op] [b] pos) (dOp g ta tb):=by
 obtain ⟨r,h1,h2⟩:=ho
 obtain ⟨te,p1,l1⟩:=ha
 obtain ⟨tf,p2,l2⟩:=hb
 exact ⟨_,cm h1 p1 p2 hm,V2 l1 l2 h2⟩
def ue (t:DTE):DTT:=fun ρ Q=>t ρ fun d=>∃ k,d=.bl k∧Q k
theorem pj {te:TE} {t:DTE} (h:LiE K Z te t):LiT K Z (jA te) (ue t):=fun ρ σ H Q r q R k=>
 h ρ σ H _ r q _ fun d v H1 s1 i1 ⟨b,e,qb⟩=>by
  subst e
  exact ⟨b,is_bl.mp i1,k b H1 s1 qb⟩
theorem zp {op:CmpOp} {g:Dt→Dt→(Dt→Prop)→Prop} (ho:DOp X (compareOp op) g) (ha:DE X a ta) (hb:DE X b tb) (hm:behindInMarks op b=false):DT X (.Compare a [op] [b] pos) (ue (dOp g ta tb)):=by
 obtain ⟨r,h1,h2⟩:=ho
 obtain ⟨te,p1,l1⟩:=ha
 obtain ⟨tf,p2,l2⟩:=hb
 exact ⟨_,d8 h1 p1 p2 hm,pj (V2 l1 l2 h2)⟩
theorem zX {e:Expr} {t:DTE} (h:DE X e t) (he:∀ yK,isTrue e X.env yK=(do let v ← yK; standAt e.pos; holding [v] (truthy v)):=by intro _; rfl):DT X e (ue t):=by
 obtain ⟨te,p,l⟩:=h
 exact ⟨_,YQ p he,pj l⟩
def eU (g g':Dt→Dt→(Dt→Prop)→Prop) (ta tb tc:DTE):DTE:=fun ρ Q=>ta ρ fun d=>tb ρ fun e=>g d e fun z=>∃ k,z=.bl k∧(if k=true then tc ρ fun w=>g' e w Q else Q (.bl false))
theorem Zp {te tf tg:TE} {r r':R2} {g g':Dt→Dt→(Dt→Prop)→Prop} (ha:LiE K Z te ta) (hb:LiE K Z tf tb) (hc:LiE K Z tg tc)
  (hg:∀ (H:Vw) (x y:V) (d e:Dt) (Q:Dt→Prop),Is K H.g d x→Is K H.g e y→g d e Q→∀ R:VK,(∀ d v H',Le H H'→Is K H'.g d v→Q d→R v H'.h)→r x y H.h R)
  (hg':∀ (H:Vw) (x y:V) (d e:Dt) (Q:Dt→Prop),Is K H.g d x→Is K H.g e y→g' d e Q→∀ R:VK,(∀ d v H',Le H H'→Is K H'.g d v→Q d→R v H'.h)→r' x y H.h R):LiE K Z (jD r r' te tf tg) (eU g g' ta tb tc):=
 fun ρ σ H Q rl h R k=>ha ρ σ H _ rl h _ fun d v H1 s1 i1 q1=>hb ρ σ H1 _ (rl.mono s1) q1 _ fun e u H2 s2 i2 q2=>
  hg H2 v u d e _ (i1.mono s2) i2 q2 _ fun d' v' H3 s3 i3 ⟨z,ez,q3⟩=>by
   subst ez
   refine ⟨z,is_bl.mp i3,?_⟩
   cases z with
   | false=>exact k _ _ H3 ((s1.trans s2).trans s3) (is_bl.mpr rfl) q3
   | true=>exact hc ρ σ H3 _ (rl.mono ((s1.trans s2).trans s3)) q3 _ fun w x H4 s4 i4 q4=>hg' H4 u x e w Q (i2.mono (s3.trans s4)) i4 q4 R fun d5 v5 H5 s5 i5 q5=>k d5 v5 H5 (((s1.trans s2).trans (s3.trans s4)).trans s5) i5 q5
theorem eh {op op':CmpOp} {g g':Dt→Dt→(Dt→Prop)→Prop} (ho:DOp X (compareOp op) g) (ho':DOp X (compareOp op') g') (ha:DE X a ta) (hb:DE X b tb) (hc:DE X c tc)
  (hm:lastMarks [op,op'] [b,c]=false:=by with_unfolding_all rfl):DT X (.Compare a [op,op'] [b,c] pos) (ue (eU g g' ta tb tc)):=by
 obtain ⟨r,h1,h2⟩:=ho
 obtain ⟨r',h3,h4⟩:=ho'
 obtain ⟨te,p1,l1⟩:=ha
 obtain ⟨tf,p2,l2⟩:=hb
 obtain ⟨tg,p3,l3⟩:=hc
 exact ⟨_,jT h1 h3 p1 p2 p3 hm,pj (Zp l1 l2 l3 h2 h4)⟩
variable {tA tB:DTT} {yB:List Expr}
def UB (t u:DTT):DTT:=fun ρ Q=>t ρ fun c=>if c=true then u ρ Q else Q false
def dOr (t u:DTT):DTT:=fun ρ Q=>t ρ fun c=>if c=true then Q true else u ρ Q
def R_ (t:DTT):DTT:=fun ρ Q=>t ρ fun c=>Q (!c)
theorem z_ (ha:DT X a tA):DW X (.BoolOp .And [a] pos) tA:=let ⟨_,p,l⟩:=ha; ⟨_,d7 p,l⟩
theorem uU (ha:DT X a tA):DW X (.BoolOp .Or [a] pos) tA:=let ⟨_,p,l⟩:=ha; ⟨_,YN p,l⟩
theorem yd (ha:DT X a tA) (hb:DW X (.BoolOp .And (b::yB) pos) tB):DW X (.BoolOp .And (a::b::yB) pos) (UB tA tB):=by
 obtain ⟨te,p1,l1⟩:=ha
 obtain ⟨tf,p2,l2⟩:=hb
 refine ⟨_,YO p1 p2,fun ρ σ H Q r h R k=>l1 ρ σ H _ r h _ fun c H1 s1 q1=>?_⟩
 cases c with
 | true=>exact l2 ρ σ H1 Q (r.mono s1) q1 R fun d H2 s2 q2=>k d H2 (s1.trans s2) q2
 | false=>exact k _ H1 s1 q1
theorem ua (ha:DT X a tA) (hb:DW X (.BoolOp .Or (b::yB) pos) tB):DW X (.BoolOp .Or (a::b::yB) pos) (dOr tA tB):=by
 obtain ⟨te,p1,l1⟩:=ha
 obtain ⟨tf,p2,l2⟩:=hb
 refine ⟨_,Tc p1 p2,fun ρ σ H Q r h R k=>l1 ρ σ H _ r h _ fun c H1 s1 q1=>?_⟩
 cases c with
 | false=>exact l2 ρ σ H1 Q (r.mono s1) q1 R fun d H2 s2 q2=>k d H2 (s1.trans s2) q2
 | true=>exact k _ H1 s1 q1
theorem xq (ha:DT X a tA):DT X (.UnaryOp .Not a pos) (R_ tA):=by
 obtain ⟨te,p1,l1⟩:=ha
 exact ⟨_,YR p1,fun ρ σ H Q r h R k=>l1 ρ σ H _ r h _ fun c H1 s1 q1=>k _ H1 s1 q1⟩
def S8 (ta tb:DTE):DTE:=fun ρ Q=>ta ρ fun d=>∃ c,d=.bl c∧if c=true then tb ρ Q else Q (.bl false)
def R9 (ta tb:DTE):DTE:=fun ρ Q=>ta ρ fun d=>∃ c,d=.bl c∧if c=true then Q (.bl true) else tb ρ Q
def SK (ta:DTE):DTE:=fun ρ Q=>ta ρ fun d=>∃ c,d=.bl c∧Q (.bl (!c))
theorem uX {op} {t:DTE} (h:DE X a t):DE X (.BoolOp op [a] pos) t:=let ⟨_,p,l⟩:=h; ⟨_,Y7 p,l⟩
theorem vE (ha:DE X a ta) (hb:DE X (.BoolOp .And (b::yB) pos) tb):DE X (.BoolOp .And (a::b::yB) pos) (S8 ta tb):=by
 obtain ⟨te,p1,l1⟩:=ha
 obtain ⟨tf,p2,l2⟩:=hb
 refine ⟨_,Xb p1 p2,fun ρ σ H Q r h R k=>l1 ρ σ H _ r h _ fun d v H1 s1 i1 ⟨c,e,q1⟩=>?_⟩
 subst e
 refine ⟨c,is_bl.mp i1,?_⟩
 cases c with
 | true=>exact l2 ρ σ H1 Q (r.mono s1) q1 R fun d v H2 s2 i2 q2=>k d v H2 (s1.trans s2) i2 q2
 | false=>exact k _ _ H1 s1 (is_bl.mpr rfl) q1
theorem SA (ha:DE X a ta) (hb:DE X (.BoolOp .Or (b::yB) pos) tb):DE X (.BoolOp .Or (a::b::yB) pos) (R9 ta tb):=by
 obtain ⟨te,p1,l1⟩:=ha
 obtain ⟨tf,p2,l2⟩:=hb
 refine ⟨_,Tf p1 p2,fun ρ σ H Q r h R k=>l1 ρ σ H _ r h _ fun d v H1 s1 i1 ⟨c,e,q1⟩=>?_⟩
 subst e
 refine ⟨c,is_bl.mp i1,?_⟩
 cases c with
 | false=>exact l2 ρ σ H1 Q (r.mono s1) q1 R fun d v H2 s2 i2 q2=>k d v H2 (s1.trans s2) i2 q2
 | true=>exact k _ _ H1 s1 (is_bl.mpr rfl) q1
theorem eM (ha:DE X a ta):DE X (.UnaryOp .Not a pos) (SK ta):=by
 obtain ⟨te,p1,l1⟩:=ha
 refine ⟨_,Y8 p1,fun ρ σ H Q r h R k=>l1 ρ σ H _ r h _ fun d v H1 s1 i1 ⟨c,e,q1⟩=>?_⟩
 subst e
 exact ⟨c,is_bl.mp i1,k _ _ H1 s1 (is_bl.mpr rfl) q1⟩
end
section
variable {X:Cx} {a b c:Expr} {ta tb tc:DTE} {pos:Pos}
def gI (g:Int→Int→Dt):Dt→Dt→(Dt→Prop)→Prop:=fun d e Q=>∃ i j,d=.int i∧e=.int j∧Q (g i j)
def gIC (C:Int→Int→Prop) (g:Int→Int→Dt):Dt→Dt→(Dt→Prop)→Prop:=fun d e Q=>∃ i j,d=.int i∧e=.int j∧C i j∧Q (g i j)
theorem eE {f:Value→Value→Sem Value} {g:Int→Int→Int} (h:OpR X f (rI0 fun i j=>.int (g i j))):DOp X f (gI fun i j=>.int (g i j)):=by
 refine ⟨_,h,fun H x y d e Q i1 i2 q R k=>?_⟩
 obtain ⟨i,j,rfl,rfl,q⟩:=q
 exact ⟨i,j,is_int.mp i1,is_int.mp i2,k _ _ H (Le.refl H) (is_int.mpr rfl) q⟩
theorem pJ {f:Value→Value→Sem Value} {g:Int→Int→Bool} (h:OpR X f (rI0 fun i j=>.bl (g i j))):DOp X f (gI fun i j=>.bl (g i j)):=by
 refine ⟨_,h,fun H x y d e Q i1 i2 q R k=>?_⟩
 obtain ⟨i,j,rfl,rfl,q⟩:=q
 exact ⟨i,j,is_int.mp i1,is_int.mp i2,k _ _ H (Le.refl H) (is_bl.mpr rfl) q⟩
theorem mJ {f:Value→Value→Sem Value} {C:Int→Int→Prop} {g:Int→Int→Int} (h:OpR X f (rI C fun i j=>.int (g i j))):DOp X f (gIC C fun i j=>.int (g i j)):=by
 refine ⟨_,h,fun H x y d e Q i1 i2 q R k=>?_⟩
 obtain ⟨i,j,rfl,rfl,hc,q⟩:=q
 exact ⟨i,j,is_int.mp i1,is_int.mp i2,hc,k _ _ H (Le.refl H) (is_int.mpr rfl) q⟩
theorem cq:OpR X (binaryOp .Mult) (rI IntMulOk fun i j=>.int (i*j)):=opI fun _ _ _ _ _ _ _ hc q=>mul_int q hc
theorem zT:DOp X (binaryOp .Add) (gI fun i j=>.int (i+j)):=eE Xi
theorem zM:DOp X (binaryOp .Sub) (gI fun i j=>.int (i - j)):=eE Xf
theorem yf:DOp X (binaryOp .Mult) (gIC IntMulOk fun i j=>.int (i*j)):=mJ cq
theorem wa:DOp X (binaryOp .FloorDiv) (gIC kh fun i j=>.int (i.fdiv j)):=mJ ii
def dH (_ j:Int):Prop:=j≠0
theorem xL:DOp X (binaryOp .Mod) (gIC dH fun i j=>.int (i.fmod j)):=mJ (C:=dH) cr
theorem e8 {c n:Int} (h:(n != 0 && decide (n.natAbs<1073741824))=true):kh c n:=by
 rw [Bool.and_eq_true,bne_iff_ne,decide_eq_true_iff] at h
 exact h
theorem e7 {c n:Int} (h:(n != 0)=true):dH c n:=bne_iff_ne.mp h
theorem S9 {c n:Int} (h:(decide (0≤n) && (decide (n≤1000000) && decide (c.natAbs<18446744073709551616)))=true):Qo c n:=by
 rw [Bool.and_eq_true,Bool.and_eq_true,decide_eq_true_iff,decide_eq_true_iff,decide_eq_true_iff] at h
 exact h
theorem Sd {c n:Int} (h:decide (n.natAbs<9223372036854775808)=true):IntMulOk c n:=by
 rw [decide_eq_true_iff] at h
 exact .of_right (intBits_le_64 (by omega) (by omega))
theorem Zl {c n:Int} (h:decide (n.natAbs<9223372036854775808)=true):IntMulOk n c:=by
 rw [decide_eq_true_iff] at h
 exact .of_left (intBits_le_64 (by omega) (by omega))
theorem rW:DOp X (compareOp .Lt) (gI fun i j=>.bl (decide (i<j))):=pJ Ti
theorem Ts:DOp X (compareOp .LtE) (gI fun i j=>.bl (decide (i≤j))):=pJ Tj
theorem sU:DOp X (compareOp .Gt) (gI fun i j=>.bl (decide (j<i))):=pJ Tk
theorem cy:DOp X (compareOp .GtE) (gI fun i j=>.bl (decide (j≤i))):=pJ Tl
def Uv (ta:DTE):DTE:=fun ρ Q=>ta ρ fun d=>∃ i,d=.int i∧Q (.int (-i))
theorem yj (ha:DE X a ta):DE X (.UnaryOp .USub a pos) (Uv ta):=by
 obtain ⟨te,p1,l1⟩:=ha
 refine ⟨_,Te YB p1,fun ρ σ H Q r h R k=>l1 ρ σ H _ r h _ fun d v H1 s1 i1 ⟨i,e,q1⟩=>?_⟩
 subst e
 exact ⟨i,is_int.mp i1,k _ _ H1 s1 (is_int.mpr rfl) q1⟩
theorem sV:DOp X (binaryOp .Add) (fun d e Q=>∃ ds es,d=.lst ds∧e=.lst es∧ds.length+es.length≤100000∧Q (.lst (ds++es))):=by
 refine ⟨_,Xh,fun H x y d e Q i1 i2 q R k=>?_⟩
 obtain ⟨ds,es,rfl,rfl,hl,q⟩:=q
 obtain ⟨l,xs,rfl,h1,a1⟩:=is_lst.mp i1
 obtain ⟨m,ys,rfl,h2,a2⟩:=is_lst.mp i2
 refine ⟨l,m,xs,ys,rfl,rfl,H.sub _ _ h1,H.sub _ _ h2,by rw [← a1.length,← a2.length]; exact Nat.le_trans hl (by decide),fun p hp=>?_⟩
 have s:=wd hp (.lst (xs++ys))
 exact k _ _ _ s (is_lst.mpr ⟨p,_,rfl,zt,(a1.mono s).append (a2.mono s)⟩) q
def SL:DTA:=fun _ Q=>Q []
def lV (te:DTE) (t:DTA):DTA:=fun ρ Q=>te ρ fun d=>t ρ fun ds=>Q (d::ds)
variable {es:List Expr} {t:DTA}
theorem zd:DA X [] SL:=⟨_,z4,fun ρ σ H Q r h R k=>k [] [] H (Le.refl H) (allIs_nil.mpr rfl) h⟩
theorem za (ha:DE X a ta) (hr:DA X es t) (hs:starEach (a::es) X.env=(false,eval a X.env)::starEach es X.env:=by rfl):DA X (a::es) (lV ta t):=by
 obtain ⟨te,p1,l1⟩:=ha
 obtain ⟨tf,p2,l2⟩:=hr
 exact ⟨_,zC p1 p2 hs,fun ρ σ H Q r h R k=>l1 ρ σ H _ r h _ fun d v H1 s1 i1 q1=>l2 ρ σ H1 _ (r.mono s1) q1 _ fun ds vs H2 s2 i2 q2=>
  k (d::ds) (v::vs) H2 (s1.trans s2) (allIs_cons.mpr ⟨v,vs,rfl,i1.mono s2,i2⟩) q2⟩
def R3 (t:DTA):DTE:=fun ρ Q=>t ρ fun ds=>Nat.ble ds.length 1000=true∧Q (.tup ds)
def SQ (t:DTA):DTE:=fun ρ Q=>t ρ fun ds=>Nat.ble ds.length 1000=true∧Q (.lst ds)
theorem zx {x1} (h:DA X es t):DE X (.Tuple es x1 pos) (R3 t):=by
 obtain ⟨te,p1,l1⟩:=h
 refine ⟨_,qX p1,fun ρ σ H Q r h R k=>l1 ρ σ H _ r h _ fun ds vs H1 s1 i1 ⟨hl,q1⟩=>⟨?_,fun p hp=>?_⟩⟩
 ·rw [← i1.length]; exact Nat.le_trans (Nat.le_of_ble_eq_true hl) (by decide)
 ·have s:=wd hp (.tup vs)
  exact k _ _ _ (s1.trans s) (is_tup.mpr ⟨p,vs,rfl,zt,i1.mono s⟩) q1
theorem zP (h:DA X es t):DE X (.List es pos) (SQ t):=by
 obtain ⟨te,p1,l1⟩:=h
 refine ⟨_,j5 p1,fun ρ σ H Q r h R k=>l1 ρ σ H _ r h _ fun ds vs H1 s1 i1 ⟨hl,q1⟩=>⟨?_,fun p hp=>?_⟩⟩
 ·rw [← i1.length]; exact Nat.le_trans (Nat.le_of_ble_eq_true hl) (by decide)
 ·have s:=wd hp (.lst vs)
  exact k _ _ _ (s1.trans s) (is_lst.mpr ⟨p,vs,rfl,zt,i1.mono s⟩) q1
def oi:Dt→Option (List Dt)
 | .tup ds=>some ds
 | .lst ds=>some ds
 | .scr ns=>some (ns.map .int)
 | _=>none
theorem qN {H:Vw} {d:Dt} {v:V} {ds:List Dt} (h:Is K H.g d v) (e:oi d=some ds):∃ a xs,v=.ref a∧(SqL K H.h a xs∨SqT K H.h a xs)∧AllIs K H.g ds xs:=by
 cases d with
 | tup es=>
  obtain rfl:es=ds:=Option.some.inj e
  obtain ⟨a,xs,rfl,h1,h2⟩:=is_tup.mp h
  exact ⟨a,xs,rfl,.inr (.of (H.sub _ _ h1)),h2⟩
 | lst es=>
  obtain rfl:es=ds:=Option.some.inj e
  obtain ⟨a,xs,rfl,h1,h2⟩:=is_lst.mp h
  exact ⟨a,xs,rfl,.inl (.of (H.sub _ _ h1)),h2⟩
 | scr ns=>
  obtain rfl:ns.map Dt.int=ds:=Option.some.inj e
  obtain ⟨a,rfl,h1⟩:=is_scr.mp h
  exact ⟨a,_,rfl,.inl (H.sub.seq h1),AllIs.ints⟩
 | _=>cases e
def dIx (ta tb:DTE):DTE:=fun ρ Q=>ta ρ fun d=>tb ρ fun e=>∃ ds i d',oi d=some ds∧e=.int i∧atI ds i=some d'∧Q d'
theorem zu (ha:DE X a ta) (hb:DE X b tb) (hs:se b):DE X (.Subscript a b pos) (dIx ta tb):=by
 obtain ⟨te,p1,l1⟩:=ha
 obtain ⟨tf,p2,l2⟩:=hb
 refine ⟨_,j6 fE p1 p2 hs,fun ρ σ H Q r h R k=>l1 ρ σ H _ r h _ fun d v H1 s1 i1 q1=>l2 ρ σ H1 _ (r.mono s1) q1 _ fun e u H2 s2 i2 q2=>?_⟩
 obtain ⟨ds,i,d',e1,e2,e3,q⟩:=q2
 subst e2
 obtain ⟨p,xs,e4,h1,h2⟩:=qN (i1.mono s2) e1
 obtain ⟨w,e5,h3⟩:=h2.atI e3
 rcases h1 with h1 | h1
 ·exact .inl ⟨p,xs,i,w,e4,is_int.mp i2,h1,e5,k d' w H2 (s1.trans s2) h3 q⟩
 ·exact .inr (.inl ⟨p,xs,i,w,e4,is_int.mp i2,h1,e5,k d' w H2 (s1.trans s2) h3 q⟩)
def ST (t:DTE):DTE:=fun ρ Q=>t ρ fun d=>∃ ds,oi d=some ds∧Q (.int ds.length)
theorem yk {p:Pos} (hg:Gl X "len") (hm:X.mg "len"=none) (ha:DE X a ta) (hs:starEach [a] X.env=(false,eval a X.env)::starEach [] X.env:=by rfl) (hpl:(backTo pos (starEach [] X.env)).any (·.1)=false:=by rfl):
  DE X (.Call (.Name "len" p) [a] [] pos) (ST ta):=by
 obtain ⟨te,p1,l1⟩:=ha
 refine ⟨_,yH wo hg hm PySem.boot_len (zC p1 z4 hs) (by decide) (by decide) hs hpl,fun ρ σ H Q r h R k=>l1 ρ σ H _ r h _ fun d v H1 s1 i1 ⟨ds,e,q⟩=>?_⟩
 obtain ⟨a,xs,rfl,h1,h2⟩:=qN i1 e
 exact ⟨a,xs,rfl,h1,by rw [← h2.length]; exact k _ _ H1 s1 (is_int.mpr rfl) q⟩
def qa (xs:List Dt) (lo hi:Option Int):List Dt:=(xs.drop (HT.sIx xs.length 0 lo)).take (HT.sIx xs.length xs.length hi - HT.sIx xs.length 0 lo)
theorem AllIs.cut {G:Hp} {ds:List Dt} {xs:List V} (h:AllIs K G ds xs) (lo hi:Option Int):AllIs K G (qa ds lo hi) (mP xs lo hi):=by
 unfold qa mP
 rw [← h.length]
 exact (h.drop _).take _
abbrev DTO:=DS→(Option Int→Prop)→Prop
def DO (X:Cx) (e:Option Expr) (t:DTO):Prop:=∃ te,PO X e te∧∀ {F:Hp} (ρ:DS) (σ:St) (H:Vw) (Q:Option Int→Prop),Rl X.K (Zx X) F H ρ σ→t ρ Q→∀ R:Option Int→Hp→Prop,(∀ o H',Le H H'→Q o→R o H'.h)→te σ H.h R
def ZQ:DTO:=fun _ Q=>Q none
def SI (t:DTE):DTO:=fun ρ Q=>t ρ fun d=>∃ i,d=.int i∧Q (some i)
theorem ZL:DO X none ZQ:=⟨_,cf,fun ρ σ H Q r h R k=>k none H (Le.refl H) h⟩
theorem pK (ha:DE X a ta):DO X (some a) (SI ta):=by
 obtain ⟨te,p1,l1⟩:=ha
 refine ⟨_,ce p1,fun ρ σ H Q r h R k=>l1 ρ σ H _ r h _ fun d v H1 s1 i1 ⟨i,e,q⟩=>?_⟩
 subst e
 exact ⟨i,is_int.mp i1,k _ H1 s1 q⟩
def wc:Dt→Option (List Dt)
 | .lst ds=>some ds
 | .scr ns=>some (ns.map .int)
 | _=>none
theorem lA {H:Vw} {d:Dt} {v:V} {ds:List Dt} (h:Is K H.g d v) (e:wc d=some ds):∃ a xs,v=.ref a∧SqL K H.h a xs∧AllIs K H.g ds xs:=by
 cases d with
 | lst es=>
  obtain rfl:es=ds:=Option.some.inj e
  obtain ⟨a,xs,rfl,h1,h2⟩:=is_lst.mp h
  exact ⟨a,xs,rfl,.of (H.sub _ _ h1),h2⟩
 | scr ns=>
  obtain rfl:ns.map Dt.int=ds:=Option.some.inj e
  obtain ⟨a,rfl,h1⟩:=is_scr.mp h
  exact ⟨a,_,rfl,H.sub.seq h1,AllIs.ints⟩
 | _=>cases e
def dSl (te:DTE) (tl th:DTO):DTE:=fun ρ Q=>te ρ fun d=>tl ρ fun l=>th ρ fun u=>∃ ds,wc d=some ds∧Q (.lst (qa ds l u))
theorem ng {lo hi:Option Expr} {tl th:DTO} {p2:Pos} (ha:DE X a ta) (hl:DO X lo tl) (hu:DO X hi th):DE X (.Subscript a (.Slice lo hi none p2) pos) (dSl ta tl th):=by
 obtain ⟨te,p1,l1⟩:=ha
 obtain ⟨tf,p2,l2⟩:=hl
 obtain ⟨tg,p3,l3⟩:=hu
 refine ⟨_,j0 dO p1 p2 p3,fun ρ σ H Q r h R k=>l1 ρ σ H _ r h _ fun d v H1 s1 i1 q1=>l2 ρ σ H1 _ (r.mono s1) q1 _ fun l H2 s2 q2=>l3 ρ σ H2 _ (r.mono (s1.trans s2)) q2 _ fun u H3 s3 ⟨ds,e,q⟩=>?_⟩
 obtain ⟨a,xs,rfl,h1,h2⟩:=lA (i1.mono (s2.trans s3)) e
 refine ⟨a,xs,rfl,h1,fun p hp=>?_⟩
 have s:=wd hp (.lst (mP xs l u))
 exact k _ _ _ (((s1.trans s2).trans s3).trans s) (is_lst.mpr ⟨p,_,rfl,zt,(h2.cut l u).mono s⟩) q
end
def LiF (K:PySem.W.Frag) (Z:Hp) (te:TE) (t:DTE):Prop:=
 ∀ {F:Hp} (ρ:DS) (σ:St) (H:Vw) (Q:Dt→Prop),Rl K Z F H ρ σ→t ρ Q→∀ R:VK,
  (∀ es p xs H',Le H H'→H.h p=none→H'.h p=some (.lst xs)→H'.g p=none→AllIs K H'.g es xs→Q (.lst es)→R (.ref p) H'.h)→te σ H.h R
def DF (X:Cx) (e:Expr) (t:DTE):Prop:=∃ te,PE X e te∧LiF X.K (Zx X) te t
theorem uO {H H':Vw} {p:Addr} {o:HO} (s:Le H H') (h0:H.h p=none) (h1:H'.h p=some o) (h2:H'.g p=none):Le H (H'.frz p o h1):=
 ⟨s.g.trans (zL h2 o),s.h,fun a z1 z2=>by
  have:a≠p:=fun e=>z1 (e ▸ h0)
  show upd H'.g p o a=none
  rw [zw this]; exact s.n a z1 z2⟩
section
variable {X:Cx} {a b c e:Expr} {ta tb tc:DTE} {t:DTA} {pos p0 p1 p2:Pos} {es:List Expr}
theorem DF.de {t:DTE} (h:DF X e t):DE X e t:=by
 obtain ⟨te,p,l⟩:=h
 exact ⟨te,p,fun ρ σ H Q r h R k=>l ρ σ H Q r h R fun es q xs H' s h0 h1 h2 i z=>k (.lst es) (.ref q) (H'.frz q _ h1) (uO s h0 h1 h2) (is_lst.mpr ⟨q,xs,rfl,zt,AllIs.mono0 (zL h2 _) i⟩) z⟩
theorem rg (h:DA X es t):DF X (.List es pos) (SQ t):=by
 obtain ⟨te,p1,l1⟩:=h
 refine ⟨_,j5 p1,fun ρ σ H Q r h R k=>l1 ρ σ H _ r h _ fun ds vs H1 s1 i1 ⟨hl,q1⟩=>⟨?_,fun p hp=>?_⟩⟩
 ·rw [← i1.length]; exact Nat.le_trans (Nat.le_of_ble_eq_true hl) (by decide)
 ·exact k ds p vs (H1.mine p (.lst vs) (H1.sub.free hp)) (s1.trans (tW hp _)) (s1.h.free hp) zt (H1.sub.free hp) i1 q1
theorem AllIs.rep {G:Hp} {ds:List Dt} {xs:List V} (h:AllIs K G ds xs):∀ k:Nat,AllIs K G (List.replicate k ds).flatten (List.replicate k xs).flatten
 | 0=>allIs_nil.mpr rfl
 | k+1=>by
  rw [List.replicate_succ,List.replicate_succ,List.flatten_cons,List.flatten_cons]
  exact h.append (h.rep k)
def RZ:Dt→Dt→(Dt→Prop)→Prop:=fun d e Q=>∃ ds k,d=.lst ds∧e=.int k∧-16000000≤k∧k≤16000000∧ds.length*k.toNat≤16000000∧Q (.lst (List.replicate k.toNat ds).flatten)
theorem Uj (ha:DE X a ta) (hb:DE X b tb):DF X (.BinOp a .Mult b pos) (dOp RZ ta tb):=by
 obtain ⟨te,p1,l1⟩:=ha
 obtain ⟨tf,p2,l2⟩:=hb
 refine ⟨_,Z7 Xg p1 p2,fun ρ σ H Q r h R k=>l1 ρ σ H _ r h _ fun d v H1 s1 i1 q1=>l2 ρ σ H1 _ (r.mono s1) q1 _ fun e u H2 s2 i2 q2=>?_⟩
 obtain ⟨ds,n,rfl,rfl,hn1,hn2,hl,q⟩:=q2
 obtain ⟨l,xs,rfl,h1,a1⟩:=is_lst.mp (i1.mono s2)
 refine ⟨l,n,xs,rfl,is_int.mp i2,H2.sub _ _ h1,by omega,by omega,by rw [← a1.length]; exact Nat.le_trans hl (by decide),fun p hp=>?_⟩
 exact k _ p _ (H2.mine p _ (H2.sub.free hp)) ((s1.trans s2).trans (tW hp _)) ((s1.trans s2).h.free hp) zt (H2.sub.free hp) (a1.rep _) q
def SR (ta:DTE):DTE:=fun ρ Q=>ta ρ fun d=>∃ ds,oi d=some ds∧Q (.lst ds)
theorem y8 (hg:Gl X "list") (hm:X.mg "list"=none) (ha:DE X a ta) (hs:starEach [a] X.env=(false,eval a X.env)::starEach [] X.env:=by rfl) (hpl:(backTo pos (starEach [] X.env)).any (·.1)=false:=by rfl):
  DF X (.Call (.Name "list" p0) [a] [] pos) (SR ta):=by
 obtain ⟨te,p1,l1⟩:=ha
 refine ⟨_,qi uf hg hm PyProof.Rows.boot_list (zC p1 z4 hs) (by decide) (by decide) hs hpl,fun ρ σ H Q r h R k=>l1 ρ σ H _ r h _ fun d v H1 s1 i1 ⟨ds,e,q⟩=>?_⟩
 obtain ⟨a,xs,rfl,h1,h2⟩:=qN i1 e
 exact ⟨a,xs,rfl,h1,fun p hp=>k _ p _ (H1.mine p _ (H1.sub.free hp)) (s1.trans (tW hp _)) (s1.h.free hp) zt (H1.sub.free hp) h2 q⟩
variable {i:Nat} {x:Str}
def Yp (i:Nat):DTE:=fun ρ Q=>∃ ds,ρ[i]? = some (.own ds)∧Q (.int ds.length)
theorem wm (i:Nat) (hg:Gl X "len") (hm:X.mg "len"=none) (hN:X.N[i]? = some x:=by rfl) (hv:Vis X.env.scope x:=by first | exact Or.inl rfl | exact Or.inr (Or.inl rfl) | exact Or.inr (Or.inr rfl)) (hd:(x == ("__debug__":Str))=false:=by decide)
  (hcd:(x == ("__classdict__":Str))=false:=by decide) (hs:starEach [.Name x p1] X.env=(false,eval (.Name x p1) X.env)::starEach [] X.env:=by rfl) (hpl:(backTo pos (starEach [] X.env)).any (·.1)=false:=by rfl):
  DE X (.Call (.Name "len" p0) [.Name x p1] [] pos) (Yp i):=by
 refine ⟨_,yH wo hg hm PySem.boot_len (zC (z5 hN hv hd hcd) z4 hs) (by decide) (by decide) hs hpl,fun ρ σ H Q r h R k=>?_⟩
 obtain ⟨ds,e,q⟩:=h
 obtain ⟨a,xs,e1,e2,e3,e4,e5⟩:=r.ow i ds e
 exact ⟨.ref a,e1,a,xs,rfl,.inl (.of e2),by rw [← e5.length]; exact k _ _ H (Le.refl H) (is_int.mpr rfl) q⟩
def Uy (i:Nat) (tb:DTE):DTE:=fun ρ Q=>∃ ds,ρ[i]? = some (.own ds)∧tb ρ fun e=>∃ k d,e=.int k∧atI ds k=some d∧Q d
theorem pM (i:Nat) (hb:DE X b tb) (hs:se b) (hN:X.N[i]? = some x:=by rfl) (hv:Vis X.env.scope x:=by first | exact Or.inl rfl | exact Or.inr (Or.inl rfl) | exact Or.inr (Or.inr rfl)) (hd:(x == ("__debug__":Str))=false:=by decide)
  (hcd:(x == ("__classdict__":Str))=false:=by decide):DE X (.Subscript (.Name x p1) b pos) (Uy i tb):=by
 obtain ⟨tf,p2,l2⟩:=hb
 refine ⟨_,j6 ix_list (z5 hN hv hd hcd) p2 hs,fun ρ σ H Q r h R k=>?_⟩
 obtain ⟨ds,e,h⟩:=h
 obtain ⟨a,xs,e1,e2,e3,e4,e5⟩:=r.ow i ds e
 refine ⟨.ref a,e1,l2 ρ σ H _ r h _ fun e u H2 s2 i2 ⟨n,d,en,ed,q⟩=>?_⟩
 subst en
 obtain ⟨v,ev,iv⟩:=e5.atI ed
 exact ⟨a,xs,n,v,rfl,is_int.mp i2,.of (s2.h _ _ e2),ev,k d v H2 s2 (iv.mono s2) q⟩
def Ux (i:Nat):DTE:=fun ρ Q=>∃ ds,ρ[i]? = some (.own ds)∧Q (.lst ds)
theorem eJ (i:Nat) (hg:Gl X "list") (hm:X.mg "list"=none) (hN:X.N[i]? = some x:=by rfl) (hv:Vis X.env.scope x:=by first | exact Or.inl rfl | exact Or.inr (Or.inl rfl) | exact Or.inr (Or.inr rfl)) (hd:(x == ("__debug__":Str))=false:=by decide)
  (hcd:(x == ("__classdict__":Str))=false:=by decide) (hs:starEach [.Name x p1] X.env=(false,eval (.Name x p1) X.env)::starEach [] X.env:=by rfl) (hpl:(backTo pos (starEach [] X.env)).any (·.1)=false:=by rfl):
  DF X (.Call (.Name "list" p0) [.Name x p1] [] pos) (Ux i):=by
 refine ⟨_,qi uf hg hm PyProof.Rows.boot_list (zC (z5 hN hv hd hcd) z4 hs) (by decide) (by decide) hs hpl,fun ρ σ H Q r h R k=>?_⟩
 obtain ⟨ds,e,q⟩:=h
 obtain ⟨a,xs,e1,e2,e3,e4,e5⟩:=r.ow i ds e
 exact ⟨.ref a,e1,a,xs,rfl,.inl (.of e2),fun p hp=>k _ p _ (H.mine p _ (H.sub.free hp)) (tW hp _) hp zt (H.sub.free hp) e5 q⟩
def Yn (i:Nat):DTT:=fun ρ Q=>∃ ds,ρ[i]? = some (.own ds)∧Q (!ds.isEmpty)
theorem tm {G:Hp} {ds:List Dt} {xs:List V} (h:AllIs K G ds xs):(!xs.isEmpty)=!ds.isEmpty:=by
 cases ds with
 | nil=>rw [allIs_nil.mp h]; rfl
 | cons d ds=>obtain ⟨x,r,rfl,_⟩:=allIs_cons.mp h; rfl
theorem ZE (i:Nat) (hN:X.N[i]? = some x:=by rfl) (hv:Vis X.env.scope x:=by first | exact Or.inl rfl | exact Or.inr (Or.inl rfl) | exact Or.inr (Or.inr rfl)) (hd:(x == ("__debug__":Str))=false:=by decide)
  (hcd:(x == ("__classdict__":Str))=false:=by decide) (he:∀ yK,isTrue (.Name x p1) X.env yK=(do let v ← yK; standAt (Expr.Name x p1).pos; holding [v] (truthy v)):=by intro _; rfl):DT X (.Name x p1) (Yn i):=by
 refine ⟨_,oA (z5 hN hv hd hcd) he,fun ρ σ H Q r h R k=>?_⟩
 obtain ⟨ds,e,q⟩:=h
 obtain ⟨a,xs,e1,e2,e3,e4,e5⟩:=r.ow i ds e
 exact ⟨.ref a,e1,!ds.isEmpty,.inl ⟨xs,.of e2,(tm e5).symm⟩,k _ H (Le.refl H) q⟩
def R4 (ta:DTE):DTT:=fun ρ Q=>ta ρ fun d=>∃ ds,wc d=some ds∧Q (!ds.isEmpty)
theorem Ue (ha:DE X a ta) (he:∀ yK,isTrue a X.env yK=(do let v ← yK; standAt a.pos; holding [v] (truthy v)):=by intro _; rfl):DT X a (R4 ta):=by
 obtain ⟨te,p1,l1⟩:=ha
 refine ⟨_,oA p1 he,fun ρ σ H Q r h R k=>l1 ρ σ H _ r h _ fun d v H1 s1 i1 ⟨ds,e,q⟩=>?_⟩
 obtain ⟨a,xs,rfl,h1,h2⟩:=lA i1 e
 exact ⟨!ds.isEmpty,.inl ⟨xs,h1,(tm h2).symm⟩,k _ H1 s1 q⟩
def fz:Sl→Sl
 | .own ds=>.some (.lst ds)
 | .arg _ ds=>.some (.lst ds)
 | s=>s
open Classical in
theorem Rl.bor {ρ:DS} {σ:St} (r:Rl K Z F W ρ σ):∃ W':Vw,W'.h=W.h∧Same W.g W'.g∧Rl K Z F W' (ρ.map fz) σ∧∀ a o,W'.g a=some o→W.g a=some o∨∃ xs,o=.lst xs:=by
 let ow:Addr→Prop:=fun a=>∃ (i:Nat) (ds:List Dt),(ρ[i]? = some (Sl.own ds)∧σ[i]? = some (some (V.ref a)))∨ρ[i]? = some (Sl.arg a ds)
 have own_at:∀ a,ow a→W.g a=none:=fun a ⟨i,ds,h⟩=>by
  rcases h with ⟨e,ea⟩ | e
  ·obtain ⟨b,xs,e1,_,e3,_⟩:=r.ow i ds e
   rw [ea] at e1
   cases e1
   exact e3
  ·exact (r.ar i a ds e).1.choose_spec.2.2.1
 let g:Hp:=fun a=>if ow a then W.h a else W.g a
 have gs:Same W.g g:=fun b o q=>by
  show (if ow b then W.h b else W.g b)=some o
  by_cases hb:ow b
  ·rw [own_at b hb] at q; cases q
  ·rw [if_neg hb]; exact q
 have sub:Same g W.h:=fun b o q=>by
  have q':(if ow b then W.h b else W.g b)=some o:=q
  by_cases hb:ow b
  ·rw [if_pos hb] at q'; exact q'
  ·rw [if_neg hb] at q'; exact W.sub _ _ q'
 have cls:∀ (i:Nat) (y:Sl),(ρ.map fz)[i]? = some y→(∃ d,ρ[i]? = some (.some d)∧y=.some d)∨(∃ ds,(ρ[i]? = some (.own ds)∨∃ a,ρ[i]? = some (.arg a ds))∧y=.some (.lst ds))∨y=.none:=fun i y e=>by
  rw [List.getElem?_map] at e
  cases q:ρ[i]? with
  | none=>rw [q] at e; cases e
  | some z=>
   rw [q] at e
   have e':=(Option.some.inj e).symm
   cases z with
   | none=>exact .inr (.inr e')
   | some d=>exact .inl ⟨d,rfl,e'⟩
   | own ds=>exact .inr (.inl ⟨ds,.inl rfl,e'⟩)
   | arg a ds=>exact .inr (.inl ⟨ds,.inr ⟨a,rfl⟩,e'⟩)
 have gl:∀ a o,g a=some o→W.g a=some o∨∃ xs,o=HO.lst xs:=fun a o q=>by
  have q':(if ow a then W.h a else W.g a)=some o:=q
  by_cases hb:ow a
  ·rw [if_pos hb] at q'
   obtain ⟨i,ds,h⟩:=hb
   rcases h with ⟨e,ea⟩ | e
   ·obtain ⟨b,xs,e1,e2,_⟩:=r.ow i ds e
    rw [ea] at e1
    cases e1
    rw [e2] at q'
    exact .inr ⟨xs,(Option.some.inj q').symm⟩
   ·obtain ⟨⟨xs,_,e2,_⟩,_,_⟩:=r.ar i a ds e
    rw [e2] at q'
    exact .inr ⟨xs,(Option.some.inj q').symm⟩
  ·rw [if_neg hb] at q'
   exact .inl q'
 refine ⟨⟨g,W.h,sub⟩,rfl,gs,⟨by rw [List.length_map]; exact r.len,fun i d e=>?_,fun i ds e=>?_,fun i j ds es _ e _=>?_,r.fr,r.z,fun i a ds e=>?_⟩,gl⟩
 ·rcases cls i _ e with ⟨d',q,e1⟩ | ⟨ds,q,e1⟩ | e1
  ·cases e1
   obtain ⟨v,h1,h2⟩:=r.at_ i d q
   exact ⟨v,h1,Is.mono0 gs h2⟩
  ·cases e1
   rcases q with q | ⟨b,q⟩
   ·obtain ⟨b,xs,e1,e2,e3,e4,e5⟩:=r.ow i ds q
    have hb:ow b:=⟨i,ds,.inl ⟨q,e1⟩⟩
    exact ⟨_,e1,is_lst.mpr ⟨b,xs,rfl,(if_pos hb).trans e2,AllIs.mono0 gs e5⟩⟩
   ·obtain ⟨⟨xs,e1,e2,e3,e4,e5⟩,_,_⟩:=r.ar i b ds q
    have hb:ow b:=⟨i,ds,.inr q⟩
    exact ⟨_,e1,is_lst.mpr ⟨b,xs,rfl,(if_pos hb).trans e2,AllIs.mono0 gs e5⟩⟩
  ·cases e1
 ·rcases cls i _ e with ⟨d',q,e1⟩ | ⟨ds,q,e1⟩ | e1 <;> cases e1
 ·rcases cls i _ e with ⟨d',q,e1⟩ | ⟨ds,q,e1⟩ | e1 <;> cases e1
 ·rcases cls i _ e with ⟨d',q,e1⟩ | ⟨ds,q,e1⟩ | e1 <;> cases e1
theorem rk {H W' H1:Vw} (e:W'.h=H.h) (s1:Le W' H1) (sg:Same H.g W'.g):∃ H2:Vw,H2.h=H1.h∧H2.g=H.g∧Le H H2:=
 ⟨⟨H.g,H1.h,(sg.trans s1.g).trans H1.sub⟩,rfl,rfl,Same.refl _,e ▸ s1.h,fun _ _ h=>h⟩
def S3 (t:DTT):DTT:=fun ρ Q=>t (ρ.map fz) Q
theorem Uf {t:DTT} (h:DT X e t):DT X e (S3 t):=by
 obtain ⟨te,p,l⟩:=h
 refine ⟨te,p,fun ρ σ H Q r hq R k=>?_⟩
 obtain ⟨W',e,sg,r',_⟩:=r.bor
 have:=l (ρ.map fz) σ W' Q r' hq R fun b H1 s1 q1=>by
  obtain ⟨H2,e2,_,s2⟩:=rk e s1 sg
  rw [← e2]
  exact k b H2 s2 q1
 rw [e] at this
 exact this
def u8:Dt→Bool
 | .non=>true | .bl _=>true | .int _=>true | .str _=>true | _=>false
theorem qO {G G':Hp} {d:Dt} {v:V} (h:u8 d=true) (i:Is K G d v):Is K G' d v:=by
 cases d with
 | non=>exact is_non.mpr (is_non.mp i)
 | bl b=>exact is_bl.mpr (is_bl.mp i)
 | int b=>exact is_int.mpr (is_int.mp i)
 | str b=>exact is_str.mpr (is_str.mp i)
 | _=>cases h
def Qi (t:DTE):DTE:=fun ρ Q=>t (ρ.map fz) fun d=>u8 d=true∧Q d
theorem Um {t:DTE} (h:DE X e t):DE X e (Qi t):=by
 obtain ⟨te,p,l⟩:=h
 refine ⟨te,p,fun ρ σ H Q r hq R k=>?_⟩
 obtain ⟨W',e,sg,r',_⟩:=r.bor
 have:=l (ρ.map fz) σ W' _ r' hq R fun d v H1 s1 i1 ⟨hs,q1⟩=>by
  obtain ⟨H2,e2,_,s2⟩:=rk e s1 sg
  rw [← e2]
  exact k d v H2 s2 (qO hs i1) q1
 rw [e] at this
 exact this
end
abbrev DSp:=List Dt→(Dt→Prop)→Prop
def zr (K:PySem.W.Frag) (S:DSp):Sp:=fun vs H Q _=>∃ (W:Vw) (ds:List Dt) (Qd:Dt→Prop),W.h=H∧AllIs K W.g ds vs∧S ds Qd∧∀ d v W',Le W W'→Is K W'.g d v→Qd d→Q v W'.h
def uk (K:PySem.W.Frag) (S:DSp):Sp:=fun vs H Q _=>∃ (W:Vw) (ds:List Dt) (Qd:Dt→Prop),W.h=H∧AllIs K W.g ds vs∧S ds Qd∧
 ∀ es p xs W',Le W W'→W.h p=none→W'.h p=some (.lst xs)→W'.g p=none→AllIs K W'.g es xs→Qd (.lst es)→Q (.ref p) W'.h
structure DOk (P:Program) (w:World) (K:PySem.W.Frag) (mg:Str→Option Value) (base:Heap) (n:Nat) (x:Str) (S:DSp):Prop where
 ex:∃ f fd ps,mg x=some (.ref f)∧PySem.W.keepIn K (.ref f)=true∧Binds K fd ps []∧FnOk P w K mg base CX0 n f fd ps (zr K S)
structure FOk (P:Program) (w:World) (K:PySem.W.Frag) (mg:Str→Option Value) (base:Heap) (n:Nat) (x:Str) (S:DSp):Prop where
 ex:∃ f fd ps,mg x=some (.ref f)∧PySem.W.keepIn K (.ref f)=true∧Binds K fd ps []∧FnOk P w K mg base CX0 n f fd ps (uk K S)
structure MOk (P:Program) (w:World) (K:PySem.W.Frag) (mg:Str→Option Value) (base:Heap) (n:Nat) (C:Addr) (m:Str) (S:DSp):Prop where
 cl:Cls K C
 ex:∃ f fd ps,ZX K C m f∧Binds K fd ps []∧FnOk P w K mg base CX0 n f fd ps (zr K S)
structure FMOk (P:Program) (w:World) (K:PySem.W.Frag) (mg:Str→Option Value) (base:Heap) (n:Nat) (C:Addr) (m:Str) (S:DSp):Prop where
 cl:Cls K C
 ex:∃ f fd ps,ZX K C m f∧Binds K fd ps []∧FnOk P w K mg base CX0 n f fd ps (uk K S)
section
variable {X:Cx} {a b c e o:Expr} {ta tb tc:DTE} {pos p apos:Pos} {es:List Expr} {t:DTA} {n:Nat} {x m:Str} {S:DSp}
def eV (S:DSp) (t:DTA):DTE:=fun ρ Q=>t ρ fun ds=>S ds Q
theorem zk (G:DOk X.prog X.w X.K X.mg X.base n x S) (hr:Room n X.A) (hg:Gl X x) (ha:DA X (e::es) t) (hdb:(x == ("__debug__":Str))=false:=by decide)
  (he:starEach (e::es) X.env=(false,eval e X.env)::starEach es X.env:=by rfl) (hpl:(backTo pos (starEach es X.env)).any (·.1)=false:=by rfl):DE X (.Call (.Name x p) (e::es) [] pos) (eV S t):=by
 obtain ⟨f,fd,ps,hm,hk,hb,F⟩:=G.ex
 obtain ⟨te,p1,l1⟩:=ha
 refine ⟨_,x6 F hr hg hm hk hb .nil sK p1 hdb he hpl,fun ρ σ H Q r h R k=>l1 ρ σ H _ r h _ fun ds vs H1 s1 i1 q1=>?_⟩
 rw [List.append_nil]
 exact ⟨H1,ds,Q,rfl,i1,q1,fun d v H2 s2 i2 q2=>k d v H2 (s1.trans s2) i2 q2⟩
theorem lS (G:FOk X.prog X.w X.K X.mg X.base n x S) (hr:Room n X.A) (hg:Gl X x) (ha:DA X (e::es) t) (hdb:(x == ("__debug__":Str))=false:=by decide)
  (he:starEach (e::es) X.env=(false,eval e X.env)::starEach es X.env:=by rfl) (hpl:(backTo pos (starEach es X.env)).any (·.1)=false:=by rfl):DF X (.Call (.Name x p) (e::es) [] pos) (eV S t):=by
 obtain ⟨f,fd,ps,hm,hk,hb,F⟩:=G.ex
 obtain ⟨te,p1,l1⟩:=ha
 refine ⟨_,x6 F hr hg hm hk hb .nil sK p1 hdb he hpl,fun ρ σ H Q r h R k=>l1 ρ σ H _ r h _ fun ds vs H1 s1 i1 q1=>?_⟩
 rw [List.append_nil]
 exact ⟨H1,ds,Q,rfl,i1,q1,fun es p xs H2 s2 h0 h1 h2 i2 q2=>k es p xs H2 (s1.trans s2) (s1.h.free h0) h1 h2 i2 q2⟩
def jB (X:Cx) (n:Nat) (m:Str) (ta:TE) (t:TA):TE:=fun σ H Q=>ta σ H fun x H1=>∃ a dx fs C f fd ps sp,x=.ref a∧H1 a=some (.ins C dx fs)∧fs.lookup m=none∧Cls X.K C∧ZX X.K C m f∧Binds X.K fd ps []∧
 FnOk X.prog X.w X.K X.mg X.base CX0 n f fd ps sp∧t σ H1 fun vs H2=>sp (x::vs) H2 Q E0
theorem j4 {pl:Sem Bool} {te:TE} {tt:TA} (he:PE X o te) (hr:Room n X.A) (ha:PA X (e::es) tt)
  (hst:starEach (e::es) X.env=(false,eval e X.env)::starEach es X.env:=by rfl) (hpl:(backTo pos (starEach es X.env)).any (·.1)=false:=by rfl)
  (ht:eval (.Call (.Attribute o m apos) (e::es) [] pos) X.env=(do
   let ov ← eval o X.env
   standAt apos.atName
   let (f,first) ← holding [ov] (getMethod ov m pl)
   callWith pos f first (backTo pos (starEach (e::es) X.env)) (backToKw pos (keywordEach [] X.env))):=by rfl):
  PE X (.Call (.Attribute o m apos) (e::es) [] pos) (jB X n m te tt):=by
 intro pins s σ H Q I h
 refine PySem.W.methodCall_KW (pl:=pl) (thn (he pins s σ H _ I h) fun u s1 ⟨x,H1,I1,rx,a,dx,fs,C,f,fd,ps,sp,ex,ea,l,c,hm,hb,F,q⟩=>?_) ht
 subst ex
 obtain rfl:u=Value.ref a:=rx
 refine s_ I1 ea c hm l ?_
 refine PySem.W.callWith_K (first:=[.ref a]) (h₀:=X.base) I.ok.mod.kin hm.kp (thn (ha pos pins s1 σ H1 _ I1 q) fun us s2 ⟨vs,H2,I2,r,q2⟩=>⟨I2.kIn,?_⟩) hst hpl
 exact nW (us:=.ref a::us) (vs:=.ref a::vs) (dvs:=[]) (E:=E0) F hr hb .nil sK I2 (.cons rfl r) (by rw [List.append_nil]; exact q2)
theorem kD {pl:Sem Bool} {te:TE} (he:PE X o te) (hr:Room n X.A)
  (ht:eval (.Call (.Attribute o m apos) [] [] pos) X.env=(do
   let ov ← eval o X.env
   standAt apos.atName
   let (f,first) ← holding [ov] (getMethod ov m pl)
   callWith pos f first (backTo pos (starEach [] X.env)) (backToKw pos (keywordEach [] X.env))):=by rfl):
  PE X (.Call (.Attribute o m apos) [] [] pos) (jB X n m te UN):=by
 intro pins s σ H Q I h
 refine PySem.W.methodCall_KW (pl:=pl) (thn (he pins s σ H _ I h) fun u s1 ⟨x,H1,I1,rx,a,dx,fs,C,f,fd,ps,sp,ex,ea,l,c,hm,hb,F,q⟩=>?_) ht
 subst ex
 obtain rfl:u=Value.ref a:=rx
 refine s_ I1 ea c hm l ?_
 exact PySem.W.callWith_K0 (first:=[.ref a]) I1.kIn hm.kp (nW (us:=[.ref a]) (vs:=[.ref a]) (dvs:=[]) (E:=E0) F hr hb .nil sK I1 (.cons rfl .nil) q)
def SN (X:Cx) (n:Nat) (m:Str) (ta:DTE) (t:DTA):DTE:=fun ρ Q=>ta ρ fun d=>∃ C f k S,d=.way C f k∧(m == f)=false∧MOk X.prog X.w X.K X.mg X.base n C m S∧t ρ fun ds=>S (d::ds) Q
theorem wl {pl:Sem Bool} (hr:Room n X.A) (he:DE X o ta) (ha:DA X (e::es) t)
  (hst:starEach (e::es) X.env=(false,eval e X.env)::starEach es X.env:=by rfl) (hpl:(backTo pos (starEach es X.env)).any (·.1)=false:=by rfl)
  (ht:eval (.Call (.Attribute o m apos) (e::es) [] pos) X.env=(do
   let ov ← eval o X.env
   standAt apos.atName
   let (f,first) ← holding [ov] (getMethod ov m pl)
   callWith pos f first (backTo pos (starEach (e::es) X.env)) (backToKw pos (keywordEach [] X.env))):=by rfl):
  DE X (.Call (.Attribute o m apos) (e::es) [] pos) (SN X n m ta t):=by
 obtain ⟨te,p0,l0⟩:=he
 obtain ⟨tt,p1,l1⟩:=ha
 refine ⟨_,j4 (pl:=pl) p0 hr p1 hst hpl ht,fun ρ σ H Q r h R k=>l0 ρ σ H _ r h _ fun d v H1 s1 i1 ⟨C,f,z,S,ed,hne,M,q1⟩=>?_⟩
 subst ed
 obtain ⟨a,dx,rfl,ha⟩:=is_way.mp i1
 obtain ⟨g,fd,ps,hm,hb,F⟩:=M.ex
 refine ⟨a,dx,_,C,g,fd,ps,_,rfl,H1.sub _ _ ha,by simp [List.lookup,hne],M.cl,hm,hb,F,l1 ρ σ H1 _ (r.mono s1) q1 _ fun ds vs H2 s2 i2 q2=>?_⟩
 exact ⟨H2,_,Q,rfl,allIs_cons.mpr ⟨_,_,rfl,i1.mono s2,i2⟩,q2,fun d v H3 s3 i3 q3=>k d v H3 ((s1.trans s2).trans s3) i3 q3⟩
def Uw (X:Cx) (n:Nat) (m:Str) (ta:DTE):DTE:=fun ρ Q=>ta ρ fun d=>∃ C f k S,d=.way C f k∧(m == f)=false∧MOk X.prog X.w X.K X.mg X.base n C m S∧S [d] Q
theorem nh {pl:Sem Bool} (hr:Room n X.A) (he:DE X o ta)
  (ht:eval (.Call (.Attribute o m apos) [] [] pos) X.env=(do
   let ov ← eval o X.env
   standAt apos.atName
   let (f,first) ← holding [ov] (getMethod ov m pl)
   callWith pos f first (backTo pos (starEach [] X.env)) (backToKw pos (keywordEach [] X.env))):=by rfl):
  DE X (.Call (.Attribute o m apos) [] [] pos) (Uw X n m ta):=by
 obtain ⟨te,p0,l0⟩:=he
 refine ⟨_,kD (pl:=pl) p0 hr ht,fun ρ σ H Q r h R k=>l0 ρ σ H _ r h _ fun d v H1 s1 i1 ⟨C,f,z,S,ed,hne,M,q1⟩=>?_⟩
 subst ed
 obtain ⟨a,dx,rfl,ha⟩:=is_way.mp i1
 obtain ⟨g,fd,ps,hm,hb,F⟩:=M.ex
 refine ⟨a,dx,_,C,g,fd,ps,_,rfl,H1.sub _ _ ha,by simp [List.lookup,hne],M.cl,hm,hb,F,?_⟩
 exact ⟨H1,_,Q,rfl,allIs_cons.mpr ⟨_,_,rfl,i1,allIs_nil.mpr rfl⟩,q1,fun d v H3 s3 i3 q3=>k d v H3 (s1.trans s3) i3 q3⟩
def Qg (K:PySem.W.Frag) (f:Str) (ta:DTE):DTE:=fun ρ Q=>ta ρ fun d=>∃ C g k,d=.way C g k∧(f == g)=true∧Cls K C∧NoAttr K C f∧Q (.int k)
theorem zJ {f:Str} (ha:DE X a ta) (hb:attributeBase a f X.env (eval a X.env)=eval a X.env:=by rfl):DE X (.Attribute a f pos) (Qg X.K f ta):=by
 obtain ⟨te,p1,l1⟩:=ha
 refine ⟨_,Y_ p1 hb,fun ρ σ H Q r h R k=>l1 ρ σ H _ r h _ fun d v H1 s1 i1 ⟨C,g,z,ed,hfg,hc,hn,q1⟩=>?_⟩
 subst ed
 obtain ⟨p,dx,rfl,hp⟩:=is_way.mp i1
 exact ⟨p,C,dx,_,.int z,rfl,H1.sub _ _ hp,hc,hn,by simp [List.lookup,hfg],k _ _ H1 s1 (is_int.mpr rfl) q1⟩
def xu (C:Addr) (f:Str) (ok:Int→Prop):Sp:=fun vs H Q _=>∃ p dx i,vs=[.ref p,.int i]∧H p=some (.ins C dx [])∧ok i∧∀ H':Hp,H' p=some (.ins C dx [(f,.int i)])→(∀ b o,H b=some o→b≠p→H' b=some o)→Q .non H'
structure KOk (P:Program) (w:World) (K:PySem.W.Frag) (mg:Str→Option Value) (base:Heap) (n:Nat) (x:Str) (C:Addr) (f:Str) (ok:Int→Prop):Prop where
 ex:∃ g fd ps,mg x=some (.ref C)∧Mk K C g∧Binds K fd ps []∧FnOk P w K mg base CX0 n g fd ps (xu C f ok)
def SO (C:Addr) (f:Str) (ok:Int→Prop) (t:DTA):DTE:=fun ρ Q=>t ρ fun ds=>∃ i,ds=[.int i]∧ok i∧Q (.way C f i)
theorem vf {C:Addr} {f:Str} {ok:Int→Prop} (G:KOk X.prog X.w X.K X.mg X.base n x C f ok) (hr:Room (n+1) X.A) (hg:Gl X x) (ha:DA X (e::es) t) (hdb:(x == ("__debug__":Str))=false:=by decide)
  (he:starEach (e::es) X.env=(false,eval e X.env)::starEach es X.env:=by rfl) (hpl:(backTo pos (starEach es X.env)).any (·.1)=false:=by rfl):DE X (.Call (.Name x p) (e::es) [] pos) (SO C f ok t):=by
 obtain ⟨g,fd,ps,hm,M,hb,F⟩:=G.ex
 obtain ⟨te,p1,l1⟩:=ha
 refine ⟨_,cj M F hr hg hm hb .nil sK p1 hdb he hpl,fun ρ σ H Q r h R k=>l1 ρ σ H _ r h _ fun ds vs H1 s1 i1 ⟨i,ed,hok,q1⟩ y dy ny ndy ne=>?_⟩
 subst ed
 obtain ⟨v,rfl,hv⟩:=i1.one
 obtain rfl:=is_int.mp hv
 refine ⟨y,dy,i,rfl,zt,hok,fun H' e1 e2=>⟨rfl,?_⟩⟩
 have keep:Same H1.h H':=fun b o hb=>e2 b o (by rw [zw (zW hb ny),zw (zW hb ndy)]; exact hb) (zW hb ny)
 have gy:H1.g y=none:=H1.sub.free ny
 exact k _ _ ⟨upd H1.g y (.ins C dy [(f,.int i)]),H',fun b u q=>by
   by_cases e:b=y
   ·subst e; rw [zt] at q; rw [e1]; exact q
   ·rw [zw e] at q; exact keep _ _ (H1.sub _ _ q)⟩
  (s1.trans ⟨zL gy _,keep,fun a z1 z2=>by
   have:a≠y:=fun e=>z1 (e ▸ ny)
   show upd H1.g y _ a=none
   rw [zw this]; exact z2⟩) (is_way.mpr ⟨y,dy,rfl,zt⟩) q1
structure ZY (K:PySem.W.Frag):Prop where
 ib:PySem.W.kitOne K (.type "int") (.type "bool")=some false
 it:PySem.W.kitOne K (.type "int") (.type "tuple")=some false
 il:PySem.W.kitOne K (.type "int") (.type "list")=some false
 bi:PySem.W.kitOne K (.type "bool") (.type "int")=some true
 bt:PySem.W.kitOne K (.type "bool") (.type "tuple")=some false
 bl:PySem.W.kitOne K (.type "bool") (.type "list")=some false
 ti:PySem.W.kitOne K (.type "tuple") (.type "int")=some false
 tb:PySem.W.kitOne K (.type "tuple") (.type "bool")=some false
 tl:PySem.W.kitOne K (.type "tuple") (.type "list")=some false
 li:PySem.W.kitOne K (.type "list") (.type "int")=some false
 lb:PySem.W.kitOne K (.type "list") (.type "bool")=some false
 lt:PySem.W.kitOne K (.type "list") (.type "tuple")=some false
theorem vS {K:PySem.W.Frag} {t:Value}:PySem.W.kitOne K t t=some true:=by
 unfold PySem.W.kitOne
 rw [if_pos (beq_self_eq_true t)]
theorem V3 {K:PySem.W.Frag} {t c:String} {b:Bool} (h1:(Value.type t == Value.type c)=false) (h2:PySem.W.kitMeta c=true) (h3:(fastBuiltinMro t).map (·.contains (Value.type c))=some b):PySem.W.kitOne K (.type t) (.type c)=some b:=by
 unfold PySem.W.kitOne PySem.W.kitCls
 rw [if_neg (by rw [h1]; decide)]
 show (if PySem.W.kitMeta c=true then PySem.W.subIn K (.type t) (.type c) else none)=some b
 rw [if_pos h2]
 exact h3
theorem RT (K:PySem.W.Frag):ZY K:=by
 constructor <;> exact V3 (by decide +kernel) (by decide +kernel) (by decide +kernel)
inductive TyN where | int | bool | tuple | list
def TyN.str:TyN→String
 | .int=>"int" | .bool=>"bool" | .tuple=>"tuple" | .list=>"list"
def Si:Dt→TyN→Option Bool
 | .int _,.int=>some true | .int _,.bool=>some false | .int _,.tuple=>some false | .int _,.list=>some false
 | .bl _,.int=>some true | .bl _,.bool=>some true | .bl _,.tuple=>some false | .bl _,.list=>some false
 | .tup _,.int=>some false | .tup _,.bool=>some false | .tup _,.tuple=>some true | .tup _,.list=>some false
 | .lst _,.int=>some false | .lst _,.bool=>some false | .lst _,.tuple=>some false | .lst _,.list=>some true
 | _,_=>none
theorem V_ {H:Vw} {d:Dt} {v:V} {T:TyN} {b:Bool} (kt:ZY K) (h:Is K H.g d v) (e:Si d T=some b):∃ tv,vH K H.h v tv∧PySem.W.kitOne K tv (.type T.str)=some b:=by
 cases d with
 | int i=>
  obtain rfl:=is_int.mp h
  refine ⟨_,.int i,?_⟩
  cases T <;> (obtain rfl:=Option.some.inj e; first | exact vS | exact kt.ib | exact kt.it | exact kt.il)
 | bl i=>
  obtain rfl:=is_bl.mp h
  refine ⟨_,.bl i,?_⟩
  cases T <;> (obtain rfl:=Option.some.inj e; first | exact vS | exact kt.bi | exact kt.bt | exact kt.bl)
 | tup ds=>
  obtain ⟨a,xs,rfl,h1,_⟩:=is_tup.mp h
  refine ⟨_,.tup (H.sub _ _ h1),?_⟩
  cases T <;> (obtain rfl:=Option.some.inj e; first | exact vS | exact kt.ti | exact kt.tb | exact kt.tl)
 | lst ds=>
  obtain ⟨a,xs,rfl,h1,_⟩:=is_lst.mp h
  refine ⟨_,.lst (H.sub _ _ h1),?_⟩
  cases T <;> (obtain rfl:=Option.some.inj e; first | exact vS | exact kt.li | exact kt.lb | exact kt.lt)
 | _=>cases T <;> cases e
theorem db:CallR X (.builtin "isinstance") (fun xs H Q=>∃ v T tv b,xs=[v,.ty T]∧vH X.K H v tv∧PySem.W.kitOne X.K tv (.type T)=some b∧Q (.bl b) H):=by
 intro pins s σ H xs us Q I r h
 obtain ⟨v,T,tv,b,rfl,hty,hk,q⟩:=h
 cases r with
 | cons r1 r2=>
  cases r2 with
  | cons r3 r4=>
   cases r4
   cases r3
   exact qm I r1 hty hk fun tk=>⟨.bl b,H,I.tok _,rfl,q⟩
def Qc (T:TyN) (ta:DTE):DTE:=fun ρ Q=>ta ρ fun d=>∃ b,Si d T=some b∧Q (.bl b)
theorem uY {T:TyN} {y:Str} {p':Pos} (kt:ZY X.K) (hm:X.mg "isinstance"=none) (hmc:X.mg y=none) (hv:bootBuiltins y=some (.type T.str)) (ha:DE X a ta)
  (hg:Gl X "isinstance":=by rfl) (hgc:Gl X y:=by rfl) (hny:y≠"__name__":=by decide) (hdy:(y == ("__debug__":Str))=false:=by decide)
  (hs:starEach [a,.Name y p'] X.env=(false,eval a X.env)::starEach [.Name y p'] X.env:=by rfl) (hs2:starEach [.Name y p'] X.env=(false,eval (.Name y p') X.env)::starEach [] X.env:=by rfl)
  (hpl:(backTo pos (starEach [.Name y p'] X.env)).any (·.1)=false:=by rfl):
  DE X (.Call (.Name "isinstance" p) [a,.Name y p'] [] pos) (Qc T ta):=by
 obtain ⟨te,p1,l1⟩:=ha
 have pc:PE X (.Name y p') (tC (.ty T.str)):=cn hgc hmc hv rfl hny hdy
 refine ⟨_,yH db hg hm boot_isinstance (zC p1 (zC pc z4 hs2) hs) (by decide) (by decide) hs hpl,fun ρ σ H Q r h R k=>l1 ρ σ H _ r h _ fun d v H1 s1 i1 ⟨b,e,q⟩=>?_⟩
 obtain ⟨tv,h1,h2⟩:=V_ kt i1 e
 exact ⟨v,T.str,tv,b,rfl,h1,h2,k _ _ H1 s1 (is_bl.mpr rfl) q⟩
end
structure DEnds where
 nx:DS→Prop
 rt:Dt→Prop
 bk:DS→Prop:=fun _=>False
 ct:DS→Prop:=fun _=>False
abbrev DTS:=DEnds→DS→Prop
structure At (K:PySem.W.Frag) (Z:Hp) (W0:Vw) (G:Hp) (W:Vw) (ρ:DS) (σ:St):Prop where
 le:Le W0 W
 gs:Same G W.g
 rl:Rl K Z W0.h W ρ σ
inductive Fr where | d | l | t (a b:Bool)
def NewL (K:PySem.W.Frag) (F:Hp) (W:Vw) (d:Dt) (v:V):Prop:=∃ es p xs,d=.lst es∧v=.ref p∧F p=none∧W.h p=some (.lst xs)∧W.g p=none∧AllIs K W.g es xs
def Prt (K:PySem.W.Frag) (F:Hp) (W:Vw) (b:Bool) (d:Dt) (v:V):Prop:=match b with
 | false=>Is K W.g d v
 | true=>NewL K F W d v∨u8 d=true∧Is K W.g d v
def Tld (K:PySem.W.Frag) (F:Hp) (W:Vw):Fr→Dt→V→Prop
 | .d,d,v=>Is K W.g d v
 | .l,d,v=>NewL K F W d v
 | .t a b,d,v=>∃ d1 d2 q u1 u2,d=.tup [d1,d2]∧v=.ref q∧W.g q=some (.tup [u1,u2])∧Prt K F W a d1 u1∧Prt K F W b d2 u2∧(∀ es fs,a=true→b=true→d1=.lst es→d2=.lst fs→u1≠u2)
structure Sim (K:PySem.W.Frag) (Z:Hp) (fr:Fr) (W0:Vw) (G:Hp) (D:DEnds) (D':Ends):Prop where
 nx:∀ ρ σ W',At K Z W0 G W' ρ σ→D.nx ρ→D'.nx σ W'.h
 tl:∀ d v W',Le W0 W'→Tld K W0.h W' fr d v→D.rt d→D'.rt v W'.h
 bk:∀ ρ σ W',At K Z W0 G W' ρ σ→D.bk ρ→D'.bk σ W'.h
 ct:∀ ρ σ W',At K Z W0 G W' ρ σ→D.ct ρ→D'.ct σ W'.h
theorem NewL.le {F G:Hp} {W:Vw} {d:Dt} {v:V} (h:NewL K F W d v) (z:∀ p,F p=none→G p=none):NewL K G W d v:=
 let ⟨es,p,xs,h1,h2,h3,h4⟩:=h; ⟨es,p,xs,h1,h2,z p h3,h4⟩
theorem Sim.rf {Z:Hp} {fr:Fr} {W0:Vw} {G:Hp} {D:DEnds} {D':Ends} (s:Sim K Z fr W0 G D D') (hf:fr=.d∨fr=.l) (es:List Dt) (p:Addr) (xs:List V) (W':Vw) (le:Le W0 W') (h0:W0.h p=none) (h1:W'.h p=some (.lst xs)) (h2:W'.g p=none) (h3:AllIs K W'.g es xs) (q:D.rt (.lst es)):D'.rt (.ref p) W'.h:=by
 rcases hf with rfl | rfl
 ·exact s.tl (.lst es) (.ref p) (W'.frz p _ h1) (uO le h0 h1 h2) (is_lst.mpr ⟨p,xs,rfl,zt,AllIs.mono0 (zL h2 _) h3⟩) q
 ·exact s.tl (.lst es) (.ref p) W' le ⟨es,p,xs,rfl,rfl,h0,h1,h2,h3⟩ q
section
variable {W0:Vw} {G G':Hp} {ρ:DS} {σ:St} {fr:Fr}
theorem At.step (a:At K Z W0 G W ρ σ) (s:Le W W'):At K Z W0 G W' ρ σ:=⟨a.le.trans s,a.gs.trans s.g,a.rl.mono s⟩
theorem At.set (a:At K Z W0 G W ρ σ) {d:Dt} {v:V} (i:Nat) (h:Is K W.g d v):At K Z W0 G W (ρ.set i (.some d)) (σ.set i (some v)):=⟨a.le,a.gs,a.rl.set i h⟩
theorem At.weak (a:At K Z W0 G W ρ σ) (s:Same G' G):At K Z W0 G' W ρ σ:=⟨a.le,s.trans a.gs,a.rl⟩
theorem At.own (a:At K Z W0 G W ρ σ) (s:Le W W') {p:Addr} {xs:List V} {ds:List Dt} (i:Nat) (h0:W.h p=none) (h1:W'.h p=some (.lst xs)) (h2:W'.g p=none) (h3:AllIs K W'.g ds xs):
  At K Z W0 G W' (ρ.set i (.own ds)) (σ.set i (some (.ref p))):=⟨a.le.trans s,a.gs.trans s.g,a.rl.own s i h0 h1 h2 h3⟩
theorem At.put (at_:At K Z W0 G W ρ σ) {i:Nat} {ds es:List Dt} {a:Addr} {ys:List V} (hi:ρ[i]? = some (.own ds)) (ha:σ[i]? = some (some (.ref a))) (hg:W.g a=none) (hF:W0.h a=none) (h3:AllIs K W.g es ys):
  At K Z W0 G (W.mine a (.lst ys) hg) (ρ.set i (.own es)) σ:=
 ⟨⟨at_.le.g,fun b o q=>by
   have:b≠a:=fun e=>by rw [e,hF] at q; cases q
   show upd W.h a _ b=some o
   rw [zw this]; exact at_.le.h _ _ q,at_.le.n⟩,at_.gs,at_.rl.put hi ha hg hF h3⟩
theorem At.frz (at_:At K Z W0 G W ρ σ) {i:Nat} {ds:List Dt} {a:Addr} {xs:List V} (hi:ρ[i]? = some (.own ds)) (ha:σ[i]? = some (some (.ref a))) (hh:W.h a=some (.lst xs)) (hg:W.g a=none) (hF:W0.h a=none) (h3:AllIs K W.g ds xs):
  At K Z W0 G (W.frz a _ hh) (ρ.set i (.some (.lst ds))) σ:=
 ⟨uO at_.le hF hh hg,at_.gs.trans (zL hg _),at_.rl.frz hi ha hh hg h3⟩
theorem Sim.weak {D:DEnds} {D':Ends} (h:Sim K Z fr W0 G' D D') (s:Same G' G):Sim K Z fr W0 G D D':=
 ⟨fun ρ σ W' a=>h.nx ρ σ W' (a.weak s),h.tl,fun ρ σ W' a=>h.bk ρ σ W' (a.weak s),fun ρ σ W' a=>h.ct ρ σ W' (a.weak s)⟩
end
def LiS (K:PySem.W.Frag) (Z:Hp) (fr:Fr) (ts:TS) (t:DTS):Prop:=∀ (W0:Vw) (G:Hp) (ρ:DS) (σ:St) (W:Vw) (D:DEnds) (D':Ends),At K Z W0 G W ρ σ→Sim K Z fr W0 G D D'→t D ρ→ts D' σ W.h
def DSt (X:Cx) (fr:Fr) (st:Stmt) (t:DTS):Prop:=∃ ts,PS X st ts∧LiS X.K (Zx X) fr ts t
def DSs (X:Cx) (fr:Fr) (sts:List Stmt) (t:DTS):Prop:=∃ ts,PSs X sts ts∧LiS X.K (Zx X) fr ts t
def SM:DTS:=fun D ρ=>D.nx ρ
def R7 (t u:DTS):DTS:=fun D ρ=>t { D with nx:=u D } ρ
def SH (te:DTE):DTS:=fun D ρ=>te ρ D.rt
def SG (i:Nat):DTS:=fun D ρ=>∃ ds,ρ[i]? = some (.own ds)∧D.rt (.lst ds)
def R6 (i:Nat) (te:DTE):DTS:=fun D ρ=>te ρ fun d=>D.nx (ρ.set i (.some d))
def SD (i:Nat) (te:DTE):DTS:=fun D ρ=>te ρ fun d=>∃ ds,d=.lst ds∧D.nx (ρ.set i (.own ds))
def Qe (c:DTT) (t u:DTS):DTS:=fun D ρ=>c ρ fun b=>if b=true then t D ρ else u D ρ
def S2 (te:DTE):DTS:=fun D ρ=>te ρ fun _=>D.nx ρ
def Uu:DTS:=fun _ _=>False
def R1 (i j:Nat) (te:DTE):DTS:=fun D ρ=>te ρ fun d=>∃ a b,d=.tup [a,b]∧D.nx ((ρ.set i (.some a)).set j (.some b))
def SY (j:Nat) (te:DTE) (tb:DTS):DTS:=fun D ρ=>te ρ fun d=>∃ (ds:List Dt) (Pv:Nat→DS→Prop),wc d=some ds∧Pv 0 ρ∧
 (∀ i e ρ',ds[i]? = some e→Pv i ρ'→tb { D with nx:=Pv (i+1),ct:=Pv (i+1),bk:=D.nx } (ρ'.set j (.some e)))∧∀ ρ',Pv ds.length ρ'→D.nx ρ'
def SW (j:Nat) (te:DTE) (tb:DTS):DTS:=fun D ρ=>te ρ fun d=>∃ (n:Int) (Pv:Nat→DS→Prop),d=.int n∧-(2 ^ 62)≤n∧n<2 ^ 62∧Pv 0 ρ∧
 (∀ (i:Nat) ρ',i<n.toNat→Pv i ρ'→tb { D with nx:=Pv (i+1),ct:=Pv (i+1),bk:=D.nx } (ρ'.set j (.some (.int i))))∧∀ ρ',Pv n.toNat ρ'→D.nx ρ'
def Uz (j:Nat) (ta:DTA) (tb:DTS):DTS:=fun D ρ=>ta ρ fun ds=>∃ (m n:Int) (Pv:Nat→DS→Prop),ds=[.int m,.int n]∧-(2 ^ 62)≤m∧m<2 ^ 62∧-(2 ^ 62)≤n∧n<2 ^ 62∧Pv 0 ρ∧
 (∀ (i:Nat) ρ',i<(n - m).toNat→Pv i ρ'→tb { D with nx:=Pv (i+1),ct:=Pv (i+1),bk:=D.nx } (ρ'.set j (.some (.int (m+i)))))∧∀ ρ',Pv (n - m).toNat ρ'→D.nx ρ'
def mK (c:DTT) (tb:DTS):DTS:=fun D ρ=>∃ Pv:Nat→DS→Prop,(∃ m,Pv m ρ)∧∀ m ρ',Pv m ρ'→
 c ρ' fun b=>if b=true then tb { D with nx:=fun ρ2=>∃ m',m'<m∧Pv m' ρ2,ct:=fun ρ2=>∃ m',m'<m∧Pv m' ρ2,bk:=D.nx } ρ' else D.nx ρ'
section
variable {X:Cx} {fr:Fr} {st:Stmt} {yB:List Stmt} {t u:DTS} {e:Expr} {te:DTE} {pos p0 p1 p2:Pos}
theorem zn:DSs X fr [] SM:=⟨_,d9,fun W0 G ρ σ W D D' a s h=>s.nx ρ σ W a h⟩
theorem zf (h1:DSt X fr st t) (h2:DSs X fr yB u):DSs X fr (st::yB) (R7 t u):=by
 obtain ⟨ts,p1,l1⟩:=h1
 obtain ⟨us,p2,l2⟩:=h2
 exact ⟨_,oB p1 p2,fun W0 G ρ σ W D D' a s h=>l1 W0 G ρ σ W { D with nx:=u D } { D' with nx:=us D' } a ⟨fun ρ' σ' W' a' q=>l2 W0 G ρ' σ' W' D D' a' s q,s.tl,s.bk,s.ct⟩ h⟩
theorem ze (h:DSt X fr st t):DSs X fr [st] t:=let ⟨_,p,l⟩:=h; ⟨_,xZ p,l⟩
def Qf (i:Nat) (t:DTS):DTS:=fun D ρ=>∃ ds,ρ[i]? = some (.own ds)∧t D (ρ.set i (.some (.lst ds)))
theorem ZF (i:Nat) (h:DSs X fr yB t):DSs X fr yB (Qf i t):=by
 obtain ⟨ts,p,l⟩:=h
 refine ⟨ts,p,fun W0 G ρ σ W D D' a s h=>?_⟩
 obtain ⟨ds,e,q⟩:=h
 obtain ⟨b,xs,e1,e2,e3,e4,e5⟩:=a.rl.ow i ds e
 exact l W0 G _ σ (W.frz b _ e2) D D' (a.frz e e1 e2 e3 e4 e5) s q
theorem zj (h:DE X e te):DSt X .d (.Return (some e) pos) (SH te):=by
 obtain ⟨tt,p,l⟩:=h
 exact ⟨_,uF p,fun W0 G ρ σ W D D' a s h=>l ρ σ W _ a.rl h _ fun d v W1 s1 i1 q1=>s.tl d v W1 (a.le.trans s1) i1 q1⟩
theorem ve (h:DF X e te) (hf:fr=.d∨fr=.l:=by first | exact .inl rfl | exact .inr rfl):DSt X fr (.Return (some e) pos) (SH te):=by
 obtain ⟨tt,p,l⟩:=h
 exact ⟨_,uF p,fun W0 G ρ σ W D D' a s h=>l ρ σ W _ a.rl h _ fun es q xs W1 s1 h0 h1 h2 i1 q1=>s.rf hf es q xs W1 (a.le.trans s1) (a.le.h.free h0) h1 h2 i1 q1⟩
theorem t_ (i:Nat) {x:Str} (hN:X.N[i]? = some x:=by rfl) (hv:Vis X.env.scope x:=by first | exact Or.inl rfl | exact Or.inr (Or.inl rfl) | exact Or.inr (Or.inr rfl)) (hd:(x == ("__debug__":Str))=false:=by decide)
  (hcd:(x == ("__classdict__":Str))=false:=by decide) (hf:fr=.d∨fr=.l:=by first | exact .inl rfl | exact .inr rfl):DSt X fr (.Return (some (.Name x p0)) pos) (SG i):=by
 refine ⟨_,uF (z5 hN hv hd hcd),fun W0 G ρ σ W D D' a s h=>?_⟩
 obtain ⟨ds,e,q⟩:=h
 obtain ⟨b,xs,e1,e2,e3,e4,e5⟩:=a.rl.ow i ds e
 exact ⟨.ref b,e1,s.rf hf ds b xs W a.le e4 e2 e3 e5 q⟩
theorem lP (h:DE X e te) (hs:swapsWith e none pos.line X.env=pure false:=by rfl):DSt X fr (.Expr e pos) (S2 te):=by
 obtain ⟨tt,p,l⟩:=h
 exact ⟨_,w9 p hs,fun W0 G ρ σ W D D' a s h=>l ρ σ W _ a.rl h _ fun d v W1 s1 i1 q1=>s.nx ρ σ W1 (a.step s1) q1⟩
theorem zq {i:Nat} {x:Str} {pos':Pos} (hN:X.N.Nodup) (hi:X.N[i]? = some x) (hx:Loc X.env.scope x) (h:DE X e te) (hs:swapsWith e (some (.Name x pos')) pos.line X.env=pure false:=by rfl) (hf:X.fn x=true∨X.env.scope.names.lookup x=some .local:=by first | exact .inl rfl | exact .inr rfl | assumption):
  DSt X fr (.Assign [.Name x pos'] e pos) (R6 i te):=by
 obtain ⟨tt,p,l⟩:=h
 exact ⟨_,jV hN hi hx p hs hf,fun W0 G ρ σ W D D' a s h=>l ρ σ W _ a.rl h _ fun d v W1 s1 i1 q1=>s.nx _ _ W1 ((a.step s1).set i i1) q1⟩
theorem xx {i:Nat} {x:Str} {pos':Pos} (hN:X.N.Nodup) (hi:X.N[i]? = some x) (hx:Loc X.env.scope x) (h:DF X e te) (hs:swapsWith e (some (.Name x pos')) pos.line X.env=pure false:=by rfl) (hf:X.fn x=true∨X.env.scope.names.lookup x=some .local:=by first | exact .inl rfl | exact .inr rfl | assumption):
  DSt X fr (.Assign [.Name x pos'] e pos) (SD i te):=by
 obtain ⟨tt,p,l⟩:=h
 refine ⟨_,jV hN hi hx p hs hf,fun W0 G ρ σ W D D' a s h=>l ρ σ W _ a.rl h _ fun es q xs W1 s1 h0 h1 h2 i1 ⟨ds,ed,q1⟩=>?_⟩
 cases ed
 exact s.nx _ _ W1 (a.own s1 i h0 h1 h2 i1) q1
theorem zy {c:Expr} {a b:List Stmt} {tc:DTT} (hc:DT X c tc) (ha:DSs X fr a t) (hb:DSs X fr b u):DSt X fr (.If c a b pos) (Qe tc t u):=by
 obtain ⟨t0,p0,l0⟩:=hc
 obtain ⟨t1,p1,l1⟩:=ha
 obtain ⟨t2,p2,l2⟩:=hb
 refine ⟨_,Td p0 p1 p2,fun W0 G ρ σ W D D' a s h=>l0 ρ σ W _ a.rl h _ fun k W1 s1 q1=>?_⟩
 cases k with
 | true=>exact l1 W0 G ρ σ W1 D D' (a.step s1) s q1
 | false=>exact l2 W0 G ρ σ W1 D D' (a.step s1) s q1
theorem ub:DSt X fr st Uu:=⟨_,jX,fun _ _ _ _ _ _ _ _ _ h=>h.elim⟩
theorem pH {i j:Nat} {x y:Str} {px py pt:Pos} {kt:Nat} (hc:X.calm=true) (hN:X.N.Nodup) (hi:X.N[i]? = some x) (hj:X.N[j]? = some y) (hx:Loc X.env.scope x) (hy:Loc X.env.scope y) (h:DE X e te)
  (hf:X.fn x=true∨X.env.scope.names.lookup x=some .local:=by first | exact .inl rfl | exact .inr rfl | assumption) (hf2:X.fn y=true∨X.env.scope.names.lookup y=some .local:=by first | exact .inl rfl | exact .inr rfl | assumption)
  (hs:swapsWithSole [.Tuple [.Name x px,.Name y py] kt pt] e pos.line X.env=pure false:=by rfl) (hw:swappedStores [.Tuple [.Name x px,.Name y py] kt pt] e X.env=pure none:=by rfl):
  DSt X fr (.Assign [.Tuple [.Name x px,.Name y py] kt pt] e pos) (R1 i j te):=by
 obtain ⟨tt,p,l⟩:=h
 refine ⟨_,nY p (sI hc (yl (zR hN hi hx hf) (yl (zR hN hj hy hf2) vQ))) hs hw,fun W0 G ρ σ W D D' at_ s h=>l ρ σ W _ at_.rl h _ fun d v W1 s1 i1 ⟨a,b,ed,q1⟩=>?_⟩
 subst ed
 obtain ⟨q,xs,rfl,hq,ha⟩:=is_tup.mp i1
 obtain ⟨v1,v2,rfl,h1,h2⟩:=ha.two
 refine ⟨q,_,rfl,.of (W1.sub _ _ hq),rfl,v1,[v2],rfl,v2,[],rfl,rfl,?_⟩
 exact s.nx _ _ W1 (((at_.step s1).set i h1).set j h2) q1
def InL (K:PySem.W.Frag) (Z:Hp) (W0 W1:Vw) (Pv:DS→Prop) (σ:St) (H:Hp):Prop:=∃ (ρ:DS) (W:Vw),W.h=H∧At K Z W0 W1.g W ρ σ∧Pv ρ
theorem xa {K:PySem.W.Frag} {W0 W1:Vw} {G:Hp} {D:DEnds} {D':Ends} {Pv:DS→Prop} (s:Sim K Z fr W0 G D D') (hg:Same G W1.g):
  Sim K Z fr W0 W1.g { D with nx:=Pv,ct:=Pv,bk:=D.nx } { D' with nx:=InL K Z W0 W1 Pv,ct:=InL K Z W0 W1 Pv,bk:=D'.nx }:=
 ⟨fun ρ3 σ3 W3 a3 q3=>⟨ρ3,W3,rfl,a3,q3⟩,s.tl,fun ρ3 σ3 W3 a3 q3=>s.nx ρ3 σ3 W3 (a3.weak hg) q3,fun ρ3 σ3 W3 a3 q3=>⟨ρ3,W3,rfl,a3,q3⟩⟩
theorem At.now {K:PySem.W.Frag} {W0:Vw} {G:Hp} {W:Vw} {ρ:DS} {σ:St} (a:At K Z W0 G W ρ σ):At K Z W0 W.g W ρ σ:=⟨a.le,Same.refl _,a.rl⟩
theorem eB {j:Nat} {x:Str} {iter:Expr} {body:List Stmt} {tb:DTS} {px:Pos} (hc:X.calm=true) (hN:X.N.Nodup) (hi:X.N[j]? = some x) (hx:Loc X.env.scope x) (hp:PassesOwn (model X.prog X.w) X.A X.env X.xe)
  (h:DE X iter te) (hb:DSs X fr body tb) (hs:∀ x,foldedSetIterable iter X.env x=pure x:=by intro _; rfl)
  (hf:X.fn x=true∨X.env.scope.names.lookup x=some .local:=by first | exact .inl rfl | exact .inr rfl | assumption):DSt X fr (.For (.Name x px) iter body [] pos) (SY j te tb):=by
 obtain ⟨tt,p,l⟩:=h
 obtain ⟨tbs,p2,l2⟩:=hb
 refine ⟨_,uG hp hc (qW p) (zR hN hi hx hf) p2 hs,fun W0 G ρ σ W D D' at_ s h=>l ρ σ W _ at_.rl h _ fun d v W1 s1 i1 ⟨ds,Pv,el,h0,ht,hd⟩=>?_⟩
 have hg:Same G W1.g:=at_.gs.trans s1.g
 have hq:∃ a xs,v=.ref a∧(∀ W2:Vw,Same W1.g W2.g→SqL X.K W2.h a xs)∧AllIs X.K W1.g ds xs:=by
  cases d with
  | lst es=>
   obtain rfl:es=ds:=Option.some.inj el
   obtain ⟨a,xs,rfl,h1,h2⟩:=is_lst.mp i1
   exact ⟨a,xs,rfl,fun W2 s2=>.of (W2.sub _ _ (s2 _ _ h1)),h2⟩
  | scr ns=>
   obtain rfl:ns.map Dt.int=ds:=Option.some.inj el
   obtain ⟨a,rfl,h1⟩:=is_scr.mp i1
   exact ⟨a,_,rfl,fun W2 s2=>W2.sub.seq (s2.seq h1),AllIs.ints⟩
  | _=>cases el
 obtain ⟨a,xs,rfl,hq,ha⟩:=hq
 refine ⟨a,rfl,⟨xs,hq W1 (Same.refl _)⟩,o3 (K:=X.K) (a:=a) (xs:=xs) (fun i=>InL X.K (Zx X) W0 W1 (Pv i)) ⟨ρ,W1,rfl,(at_.step s1).now,h0⟩ (fun i σ' H' _ ⟨_,W2,e2,a2,_⟩=>e2 ▸ hq W2 a2.gs) ?_ ?_⟩
 ·rintro i x σ' _ hi ⟨ρ',W2,rfl,a2,hp2⟩
  obtain ⟨e,he,ie⟩:=ha.get' hi
  exact l2 W0 W1.g _ _ W2 { D with nx:=Pv (i+1),ct:=Pv (i+1),bk:=D.nx } _ (a2.set j (Is.mono0 a2.gs ie)) (xa s hg) (ht i e ρ' he hp2)
 ·rintro σ' _ ⟨ρ',W2,rfl,a2,hp2⟩
  exact s.nx ρ' σ' W2 (a2.weak hg) (hd ρ' (by rw [ha.length]; exact hp2))
theorem pI {j:Nat} {x:Str} {a:Expr} {body:List Stmt} {tb:DTS} {px p0 pos1:Pos} (hc:X.calm=true) (hN:X.N.Nodup) (hi:X.N[j]? = some x) (hx:Loc X.env.scope x) (hp:PassesOwn (model X.prog X.w) X.A X.env X.xe)
  (hg:Gl X "range") (hm:X.mg "range"=none) (h:DE X a te) (hb:DSs X fr body tb) (hs:∀ x,foldedSetIterable (.Call (.Name "range" p0) [a] [] pos1) X.env x=pure x:=by intro _; rfl)
  (hst:starEach [a] X.env=[(false,eval a X.env)]:=by rfl) (hst2:starEach [a] X.env=(false,eval a X.env)::starEach [] X.env:=by rfl)
  (hf:X.fn x=true∨X.env.scope.names.lookup x=some .local:=by first | exact .inl rfl | exact .inr rfl | assumption):DSt X fr (.For (.Name x px) (.Call (.Name "range" p0) [a] [] pos1) body [] pos) (SW j te tb):=by
 obtain ⟨tt,p,l⟩:=h
 obtain ⟨tbs,p2,l2⟩:=hb
 refine ⟨_,uG hp hc (qh hg hm (zC p z4 hst2) hst) (zR hN hi hx hf) p2 hs,fun W0 G ρ σ W D D' at_ s h=>l ρ σ W _ at_.rl h _ fun d v W1 s1 i1 ⟨n,Pv,ed,n1,n2,h0,ht,hd⟩=>?_⟩
 subst ed
 have hg:Same G W1.g:=at_.gs.trans s1.g
 refine ⟨n,by rw [is_int.mp i1],n1,n2,qo (lo:=0) (n:=n.toNat) (fun i=>InL X.K (Zx X) W0 W1 (Pv i)) ⟨ρ,W1,rfl,(at_.step s1).now,h0⟩ ?_ ?_⟩
 ·rintro i σ' _ hi ⟨ρ',W2,rfl,a2,hp2⟩
  have ez:(0:Int)+(i:Int)=(i:Int):=Int.zero_add _
  rw [ez]
  exact l2 W0 W1.g _ _ W2 { D with nx:=Pv (i+1),ct:=Pv (i+1),bk:=D.nx } _ (a2.set j (is_int.mpr rfl)) (xa s hg) (ht i ρ' hi hp2)
 ·rintro σ' _ ⟨ρ',W2,rfl,a2,hp2⟩
  exact s.nx ρ' σ' W2 (a2.weak hg) (hd ρ' hp2)
theorem xN {c:Expr} {body:List Stmt} {tc:DTT} {tb:DTS} (hp:PassesOwn (model X.prog X.w) X.A X.env X.xe) (hc:DT X c tc) (hb:DSs X fr body tb):DSt X fr (.While c body [] pos) (mK tc tb):=by
 obtain ⟨t0,p0,l0⟩:=hc
 obtain ⟨tbs,p2,l2⟩:=hb
 refine ⟨_,jU hp p0 p2,fun W0 G ρ σ W D D' at_ s h=>?_⟩
 obtain ⟨Pv,⟨m0,h0⟩,ht⟩:=h
 refine ⟨fun m=>InL X.K (Zx X) W0 W (Pv m),⟨m0,ρ,W,rfl,at_.now,h0⟩,?_⟩
 rintro m σ' _ ⟨ρ',W2,rfl,a2,hp2⟩
 refine l0 ρ' σ' W2 _ a2.rl (ht m ρ' hp2) _ fun b W3 s3 q3=>?_
 have a3:=a2.step s3
 cases b with
 | true=>
  refine ⟨InL X.K (Zx X) W0 W (fun ρ2=>∃ m',m'<m∧Pv m' ρ2),fun σ4 H4 ⟨ρ4,W4,e4,a4,m',hm,p4⟩=>⟨m',hm,ρ4,W4,e4,a4,p4⟩,?_⟩
  exact l2 W0 W.g _ _ W3 { D with nx:=fun ρ2=>∃ m',m'<m∧Pv m' ρ2,ct:=fun ρ2=>∃ m',m'<m∧Pv m' ρ2,bk:=D.nx } _ a3 (xa s at_.gs) q3
 | false=>exact s.nx ρ' σ' W3 (a3.weak at_.gs) q3
variable {i:Nat} {x:Str}
def Qj (i:Nat) (te:DTE):DTS:=fun D ρ=>∃ ds,ρ[i]? = some (.own ds)∧te ρ fun d=>ds.length≤100000∧D.nx (ρ.set i (.own (ds++[d])))
theorem wU (i:Nat) (h:DE X e te) (hN:X.N[i]? = some x:=by rfl) (hv:Vis X.env.scope x:=by first | exact Or.inl rfl | exact Or.inr (Or.inl rfl) | exact Or.inr (Or.inr rfl)) (hd:(x == ("__debug__":Str))=false:=by decide)
  (hcd:(x == ("__classdict__":Str))=false:=by decide) (hst:starEach [e] X.env=(false,eval e X.env)::starEach [] X.env:=by rfl) (hpl:(backTo p2 (starEach [] X.env)).any (·.1)=false:=by rfl)
  (hfew:((backTo p2 (starEach [e] X.env)).all (fun x=>!x.1) && (backToKw p2 (keywordEach [] X.env)).all (fun x=>x.1.isSome)
   && decide ([e].length+([]:List Keyword).length+(if ([]:List Keyword).isEmpty then 0 else 1)<30))=true:=by rfl)
  (hbase:attributeBase (.Name x p0) "append" X.env (eval (.Name x p0) X.env)=eval (.Name x p0) X.env:=by rfl) (hline:(p1.endLine == p2.line)=true:=by rfl)
  (hs:swapsWith (.Call (.Attribute (.Name x p0) "append" p1) [e] [] p2) none pos.line X.env=pure false:=by rfl):
  DSt X fr (.Expr (.Call (.Attribute (.Name x p0) "append" p1) [e] [] p2) pos) (Qj i te):=by
 obtain ⟨tt,p,l⟩:=h
 refine ⟨_,w9 (j9 PySem.F.plainAttrs_list PySem.F.slot_list_append PySem.F.type_list_append uM (z5 hN hv hd hcd) (zC p z4 hst) hbase hfew hline hst hpl) hs,fun W0 G ρ σ W D D' at_ s h=>?_⟩
 obtain ⟨ds,ei,h⟩:=h
 obtain ⟨b,xs,e1,e2,e3,e4,e5⟩:=at_.rl.ow i ds ei
 refine ⟨.ref b,e1,.inl ⟨rfl,xs,.of e2⟩,l ρ σ W _ at_.rl h _ fun d v W1 s1 i1 ⟨hl,q1⟩=>?_⟩
 have a1:=at_.step s1
 have hg1:W1.g b=none:=s1.n b (by rw [e2]; intro z; cases z) e3
 refine ⟨b,xs,v,rfl,rfl,s1.h _ _ e2,by rw [← e5.length]; exact Nat.lt_of_le_of_lt hl (by decide),?_⟩
 exact s.nx _ _ _ (a1.put ei e1 hg1 e4 ((e5.mono s1).append (allIs_cons.mpr ⟨v,[],rfl,i1,allIs_nil.mpr rfl⟩))) q1
theorem AllIs.dropLast {G:Hp} {ds:List Dt} {xs:List V} (h:AllIs K G ds xs):AllIs K G ds.dropLast xs.dropLast:=by
 rw [List.dropLast_eq_take,List.dropLast_eq_take,h.length]
 exact h.take _
theorem AllIs.reverse {G:Hp}:∀ {ds:List Dt} {xs:List V},AllIs K G ds xs→AllIs K G ds.reverse xs.reverse
 | [],_,h=>by rw [allIs_nil.mp h]; exact allIs_nil.mpr rfl
 | d::ds,_,h=>by
  obtain ⟨x,r,rfl,h1,h2⟩:=allIs_cons.mp h
  rw [List.reverse_cons,List.reverse_cons]
  exact (AllIs.reverse h2).append (allIs_cons.mpr ⟨x,[],rfl,h1,allIs_nil.mpr rfl⟩)
theorem AllIs.set {G:Hp}:∀ {ds:List Dt} {xs:List V} {d:Dt} {v:V} (j:Nat),AllIs K G ds xs→Is K G d v→AllIs K G (ds.set j d) (xs.set j v)
 | [],_,_,_,_,h,_=>by rw [allIs_nil.mp h]; exact allIs_nil.mpr rfl
 | d::ds,_,_,_,0,h,i=>by
  obtain ⟨x,r,rfl,h1,h2⟩:=allIs_cons.mp h
  exact allIs_cons.mpr ⟨_,_,rfl,i,h2⟩
 | d::ds,_,_,_,j+1,h,i=>by
  obtain ⟨x,r,rfl,h1,h2⟩:=allIs_cons.mp h
  exact allIs_cons.mpr ⟨_,_,rfl,h1,AllIs.set j h2 i⟩
def Us (i:Nat):DTS:=fun D ρ=>∃ ds,ρ[i]? = some (.own ds)∧ds.isEmpty=false∧D.nx (ρ.set i (.own ds.dropLast))
theorem eA (i:Nat) (hN:X.N[i]? = some x:=by rfl) (hv:Vis X.env.scope x:=by first | exact Or.inl rfl | exact Or.inr (Or.inl rfl) | exact Or.inr (Or.inr rfl)) (hd:(x == ("__debug__":Str))=false:=by decide)
  (hcd:(x == ("__classdict__":Str))=false:=by decide)
  (hbase:attributeBase (.Name x p0) "pop" X.env (eval (.Name x p0) X.env)=eval (.Name x p0) X.env:=by rfl) (hline:(p1.endLine == p2.line)=true:=by rfl)
  (hs:swapsWith (.Call (.Attribute (.Name x p0) "pop" p1) [] [] p2) none pos.line X.env=pure false:=by rfl):
  DSt X fr (.Expr (.Call (.Attribute (.Name x p0) "pop" p1) [] [] p2) pos) (Us i):=by
 refine ⟨_,w9 (Xa PySem.F.plainAttrs_list PySem.F.slot_list_pop PySem.F.type_list_pop V1 (z5 hN hv hd hcd) hbase hline) hs,fun W0 G ρ σ W D D' at_ s h=>?_⟩
 obtain ⟨ds,ei,hne,q1⟩:=h
 obtain ⟨b,xs,e1,e2,e3,e4,e5⟩:=at_.rl.ow i ds ei
 have hx:xs≠[]:=fun z=>by
  have:=e5.length
  rw [z] at this
  rw [List.length_eq_zero_iff.mp this] at hne
  cases hne
 have hlt:xs.length - 1<xs.length:=by
  have:=List.length_pos_iff.mpr hx
  omega
 exact ⟨.ref b,e1,.inl ⟨rfl,xs,.of e2⟩,b,xs,xs[xs.length - 1],rfl,rfl,e2,List.getElem?_eq_getElem hlt,s.nx _ _ _ (at_.put ei e1 e3 e4 e5.dropLast) q1⟩
def R8 (i:Nat) (ti te:DTE):DTS:=fun D ρ=>∃ ds,ρ[i]? = some (.own ds)∧te ρ fun d=>ti ρ fun z=>∃ n j,z=.int n∧ixN ds.length n=some j∧D.nx (ρ.set i (.own (ds.set j d)))
theorem Ug (i:Nat) {k:Expr} {ti:DTE} (hk:DE X k ti) (h:DE X e te) (hN:X.N[i]? = some x:=by rfl) (hv:Vis X.env.scope x:=by first | exact Or.inl rfl | exact Or.inr (Or.inl rfl) | exact Or.inr (Or.inr rfl)) (hd:(x == ("__debug__":Str))=false:=by decide)
  (hcd:(x == ("__classdict__":Str))=false:=by decide)
  (ha:∀ v,assign (.Subscript (.Name x p0) k p1) X.env v=(do
   let ov ← holding [v] (eval (.Name x p0) X.env)
   let iv ← holding [v,ov] (eval k X.env)
   standAt p1
   holding [v,ov,iv] (setItem ov iv v)
   release [v,ov,iv] []):=by intro _; rfl)
  (hs:swapsWithSole [.Subscript (.Name x p0) k p1] e pos.line X.env=pure false:=by rfl) (hw:swappedStores [.Subscript (.Name x p0) k p1] e X.env=pure none:=by rfl)
  (h1:(assignEach [.Subscript (.Name x p0) k p1] X.env).map (·.2)=[assign (.Subscript (.Name x p0) k p1) X.env]:=by rfl):
  DSt X fr (.Assign [.Subscript (.Name x p0) k p1] e pos) (R8 i ti te):=by
 obtain ⟨tt,p,l⟩:=h
 obtain ⟨tk,pk,lk⟩:=hk
 refine ⟨_,nY p (YY (z5 hN hv hd hcd) pk og ha) hs hw h1,fun W0 G ρ σ W D D' at_ s h=>?_⟩
 obtain ⟨ds,ei,h⟩:=h
 refine l ρ σ W _ at_.rl h _ fun d v W1 s1 i1 q1=>?_
 have a1:=at_.step s1
 obtain ⟨b,xs,e1,e2,e3,e4,e5⟩:=a1.rl.ow i ds ei
 refine ⟨.ref b,e1,lk ρ σ W1 _ a1.rl q1 _ fun z u W2 s2 i2 ⟨n,j,ez,ej,q2⟩=>?_⟩
 subst ez
 have a2:=a1.step s2
 have hg2:W2.g b=none:=s2.n b (by rw [e2]; intro z; cases z) e3
 refine ⟨b,xs,n,j,rfl,is_int.mp i2,s2.h _ _ e2,by rw [← e5.length]; exact ej,?_⟩
 exact s.nx _ _ _ (a2.put ei e1 hg2 e4 ((e5.mono s2).set j (i1.mono s2))) q2
end
section
variable {P:Program} {w:World} {K:PySem.W.Frag} {mg:Str→Option Value} {base:Heap}
theorem xO {W:Vw} {N:List Str} {ds:List Dt} {vs:List V} (ia:AllIs K W.g ds vs) (hz:Z=W.h):At K Z W W.g W (ye N.length ds) (start N vs):=⟨Le.refl W,Same.refl _,Rl.start ia (hz ▸ Same.refl _)⟩
theorem okD {x qual:Str} {st:Stmt} {f:Addr} {fd:FuncData} {N ps:List Str} {k:Nat} {S:DSp} (F:Fun K x qual st f fd) (sc:zh N ps (defScope st)) (len:∀ ds Q,S ds Q→ds.length=ps.length)
  (hbody:∀ (cdv:Value) (A:Around) (outer:List Env) (s:Shared) (H:Hp) (E:XK),Room k (A.deeper (envOfC qual (defScope st) s.heap.objs.size f cdv))→∀ (ds:List Dt) (Q:Dt→Prop),S ds Q→
   ∃ t,DSs (yu CX0 P w K mg base N qual (defScope st) f cdv A outer s H E).nox .d (defBody st) t∧t { nx:=fun _=>Q .non,rt:=Q } (ye N.length ds)):FnOk P w K mg base CX0 (k+1) f fd ps (zr K S):=by
 refine F.ok sc (fun vs H Q E h=>?_) (fun cdv A outer s H vs Q E hr h=>?_)
 ·obtain ⟨W,ds,Qd,_,ia,hS,_⟩:=h
  rw [← ia.length]
  exact len ds Qd hS
 obtain ⟨W,ds,Qd,rfl,ia,hS,kk⟩:=h
 obtain ⟨t,⟨ts,p,l⟩,ht⟩:=hbody cdv A outer s W.h E hr ds Qd hS
 refine ⟨ts,p,l W W.g (ye N.length ds) (start N vs) W { nx:=fun _=>Qd .non,rt:=Qd } _ (xO ia (ul (Nat.succ_ne_self _))) ⟨fun ρ σ W' a q=>kk .non .non W' a.le (is_non.mpr rfl) q,fun d v W' s' i' q=>kk d v W' s' i' q,fun _ _ _ _ q=>q.elim,fun _ _ _ _ q=>q.elim⟩ ht⟩
theorem okF {x qual:Str} {st:Stmt} {f:Addr} {fd:FuncData} {N ps:List Str} {k:Nat} {S:DSp} (F:Fun K x qual st f fd) (sc:zh N ps (defScope st)) (len:∀ ds Q,S ds Q→ds.length=ps.length)
  (hbody:∀ (cdv:Value) (A:Around) (outer:List Env) (s:Shared) (H:Hp) (E:XK),Room k (A.deeper (envOfC qual (defScope st) s.heap.objs.size f cdv))→∀ (ds:List Dt) (Q:Dt→Prop),S ds Q→
   ∃ t,DSs (yu CX0 P w K mg base N qual (defScope st) f cdv A outer s H E).nox .l (defBody st) t∧t { nx:=fun _=>False,rt:=Q } (ye N.length ds)):FnOk P w K mg base CX0 (k+1) f fd ps (uk K S):=by
 refine F.ok sc (fun vs H Q E h=>?_) (fun cdv A outer s H vs Q E hr h=>?_)
 ·obtain ⟨W,ds,Qd,_,ia,hS,_⟩:=h
  rw [← ia.length]
  exact len ds Qd hS
 obtain ⟨W,ds,Qd,rfl,ia,hS,kk⟩:=h
 obtain ⟨t,⟨ts,p,l⟩,ht⟩:=hbody cdv A outer s W.h E hr ds Qd hS
 exact ⟨ts,p,l W W.g (ye N.length ds) (start N vs) W { nx:=fun _=>False,rt:=Qd } _ (xO ia (ul (Nat.succ_ne_self _))) ⟨fun ρ σ W' a q=>q.elim,fun d v W' s' ⟨es,p,xs,e1,e2,e3,e4,e5,e6⟩ q=>by subst e1; subst e2; exact kk es p xs W' s' e3 e4 e5 e6 q,fun _ _ _ _ q=>q.elim,fun _ _ _ _ q=>q.elim⟩ ht⟩
theorem DOk.mk' {x qual:Str} {st:Stmt} {f:Addr} {fd:FuncData} {ps:List Str} {n:Nat} {S:DSp} (F:Fun K x qual st f fd) (hm:mg x=some (.ref f)) (hb:Binds K fd ps []) (h:FnOk P w K mg base CX0 n f fd ps (zr K S)):DOk P w K mg base n x S:=
 ⟨f,fd,ps,hm,F.kp,hb,h⟩
theorem FOk.mk' {x qual:Str} {st:Stmt} {f:Addr} {fd:FuncData} {ps:List Str} {n:Nat} {S:DSp} (F:Fun K x qual st f fd) (hm:mg x=some (.ref f)) (hb:Binds K fd ps []) (h:FnOk P w K mg base CX0 n f fd ps (uk K S)):FOk P w K mg base n x S:=
 ⟨f,fd,ps,hm,F.kp,hb,h⟩
theorem DOk.mono {x:Str} {m n:Nat} {S:DSp} (h:DOk P w K mg base m x S) (hl:m≤n):DOk P w K mg base n x S:=
 let ⟨f,fd,ps,h1,h2,h3,h4⟩:=h.ex; ⟨f,fd,ps,h1,h2,h3,h4.mono hl⟩
theorem FOk.mono {x:Str} {m n:Nat} {S:DSp} (h:FOk P w K mg base m x S) (hl:m≤n):FOk P w K mg base n x S:=
 let ⟨f,fd,ps,h1,h2,h3,h4⟩:=h.ex; ⟨f,fd,ps,h1,h2,h3,h4.mono hl⟩
theorem MOk.mono {C:Addr} {x:Str} {m n:Nat} {S:DSp} (h:MOk P w K mg base m C x S) (hl:m≤n):MOk P w K mg base n C x S:=
 ⟨h.cl,let ⟨f,fd,ps,h1,h3,h4⟩:=h.ex; ⟨f,fd,ps,h1,h3,h4.mono hl⟩⟩
theorem FMOk.mono {C:Addr} {x:Str} {m n:Nat} {S:DSp} (h:FMOk P w K mg base m C x S) (hl:m≤n):FMOk P w K mg base n C x S:=
 ⟨h.cl,let ⟨f,fd,ps,h1,h3,h4⟩:=h.ex; ⟨f,fd,ps,h1,h3,h4.mono hl⟩⟩
theorem MOk.imp {C:Addr} {x:Str} {n:Nat} {S S':DSp} (h:MOk P w K mg base n C x S) (hi:∀ ds Q,S' ds Q→S ds Q):MOk P w K mg base n C x S':=
 ⟨h.cl,let ⟨f,fd,ps,h1,h3,h4⟩:=h.ex; ⟨f,fd,ps,h1,h3,h4.imp fun vs H Q E ⟨W,ds,Qd,a,b,c,d⟩=>⟨W,ds,Qd,a,b,hi _ _ c,d⟩⟩⟩
theorem FMOk.imp {C:Addr} {x:Str} {n:Nat} {S S':DSp} (h:FMOk P w K mg base n C x S) (hi:∀ ds Q,S' ds Q→S ds Q):FMOk P w K mg base n C x S':=
 ⟨h.cl,let ⟨f,fd,ps,h1,h3,h4⟩:=h.ex; ⟨f,fd,ps,h1,h3,h4.imp fun vs H Q E ⟨W,ds,Qd,a,b,c,d⟩=>⟨W,ds,Qd,a,b,hi _ _ c,d⟩⟩⟩
theorem DOk.imp {x:Str} {n:Nat} {S S':DSp} (h:DOk P w K mg base n x S) (hi:∀ ds Q,S' ds Q→S ds Q):DOk P w K mg base n x S':=
 let ⟨f,fd,ps,h1,h2,h3,h4⟩:=h.ex; ⟨f,fd,ps,h1,h2,h3,h4.imp fun vs H Q E ⟨W,ds,Qd,a,b,c,d⟩=>⟨W,ds,Qd,a,b,hi _ _ c,d⟩⟩
theorem w_ {qual:Str} {st:Stmt} {g C:Addr} {fd:FuncData} {y f:Str} {k:Nat} {ok:Int→Prop} (F:Fun K "__init__" qual st g fd) (sc:zh ["self",y] ["self",y] (defScope st)) (cl:Cls K C) (na:NoAttr K C f)
  (hbody:∀ (cdv:Value) (A:Around) (outer:List Env) (s:Shared) (H:Hp) (E:XK),Room k (A.deeper (envOfC qual (defScope st) s.heap.objs.size g cdv))→
   ∃ te t,PSs (yu CX0 P w K mg base ["self",y] qual (defScope st) g cdv A outer s H E).nox (defBody st) (UY K (dM 0) te f)∧LiE K (Zx (yu CX0 P w K mg base ["self",y] qual (defScope st) g cdv A outer s H E)) te t∧∀ i,ok i→t [.none,.some (.int i)] fun d=>d=.int i):
  FnOk P w K mg base CX0 (k+1) g fd ["self",y] (xu C f ok):=by
 refine F.ok sc (fun vs H Q E h=>?_) (fun cdv A outer s H vs Q E hr h=>?_)
 ·obtain ⟨p,dx,i,rfl,_⟩:=h
  rfl
 obtain ⟨p,dx,i,rfl,hp,hok,q⟩:=h
 obtain ⟨te,t,ps,l,ht⟩:=hbody cdv A outer s H E hr
 rw [jq] at l
 refine ⟨_,ps,l (F:=H) [.none,.some (.int i)] _ ⟨H,H,Same.refl H⟩ _ ⟨rfl,fun j d e=>?_,fun j ds e=>?_,fun j j' ds es _ e _=>?_,Same.refl H,Same.refl H,fun j a ds e=>?_⟩ (ht i hok) _ fun d v W1 s1 i1 ed=>?_⟩
 ·match j,e with
  | 0,e=>cases e
  | 1,e=>
   have e':Dt.int i=d:=by cases e; rfl
   subst e'
   exact ⟨.int i,rfl,is_int.mpr rfl⟩
  | j+2,e=>cases e
 ·match j,e with
  | 0,e=>cases e
  | 1,e=>cases e
  | j+2,e=>cases e
 ·match j,e with
  | 0,e=>cases e
  | 1,e=>cases e
  | j+2,e=>cases e
 ·match j,e with
  | 0,e=>cases e
  | 1,e=>cases e
  | j+2,e=>cases e
 ·subst ed
  obtain rfl:=is_int.mp i1
  refine ⟨.ref p,rfl,p,C,dx,[],rfl,s1.h _ _ hp,cl,na,(by show 0<1000; decide),?_⟩
  refine q _ zt fun b o hb hbp=>?_
  rw [zw hbp]
  exact s1.h _ _ hb
end
end OD
namespace OD
open PySem PySem.Spec PyProof.Rows L2
mutual
def eqD:Dt→Dt→Bool
 | .non,.non=>true
 | .bl a,.bl b=>a == b
 | .bl a,.int b=>(if a then (1:Int) else 0) == b
 | .int a,.bl b=>a == (if b then (1:Int) else 0)
 | .int a,.int b=>a == b
 | .str a,.str b=>a == b
 | .tup ds,.tup es=>wk ds es
 | .lst ds,.lst es=>wk ds es
 | _,_=>false
def wk:List Dt→List Dt→Bool
 | [],[]=>true
 | d::ds,e::es=>eqD d e && wk ds es
 | _,_=>false
end
def okE:Nat→Dt→Bool
 | _,.non=>true
 | _,.bl _=>true
 | _,.int _=>true
 | _,.str _=>true
 | n+1,.tup ds=>ds.all (okE n)
 | n+1,.lst ds=>ds.all (okE n)
 | _,_=>false
theorem y7 (a b:Int):eqD (.int a) (.int b)=(a == b):=by unfold eqD; rfl
theorem fY (a b:Bool):eqD (.bl a) (.bl b)=(a == b):=by unfold eqD; rfl
theorem lL (a b:Str):eqD (.str a) (.str b)=(a == b):=by unfold eqD; rfl
theorem vY (ds es:List Dt):eqD (.tup ds) (.tup es)=wk ds es:=by rw [eqD]
theorem tZ (ds es:List Dt):eqD (.lst ds) (.lst es)=wk ds es:=by rw [eqD]
theorem vX:wk [] []=true:=by unfold wk; rfl
theorem xM (d e:Dt) (ds es:List Dt):wk (d::ds) (e::es)=(eqD d e && wk ds es):=by rw [wk]
theorem rX (e:Dt) (es:List Dt):wk [] (e::es)=false:=by unfold wk; rfl
theorem rY (e:Dt) (es:List Dt):wk (e::es) []=false:=by unfold wk; rfl
theorem xo:∀ ds es:List Dt,(((List.range (min ds.length es.length)).all fun j=>eqD (ds.getD j .non) (es.getD j .non)) && (ds.length == es.length))=wk ds es
 | [],[]=>by rw [vX]; rfl
 | [],e::es=>by
  rw [rX]
  have h:((([]:List Dt).length == (e::es).length))=false:=by simp
  rw [h,Bool.and_false]
 | d::ds,[]=>by
  rw [rY]
  have h:(((d::ds).length == ([]:List Dt).length))=false:=by simp
  rw [h,Bool.and_false]
 | d::ds,e::es=>by
  have ih:=xo ds es
  rw [xM,← ih]
  have hm:min (d::ds).length (e::es).length=min ds.length es.length+1:=by
   rw [List.length_cons,List.length_cons]; omega
  rw [hm,List.range_succ_eq_map,List.all_cons,List.all_map,Bool.and_assoc]
  have hl:((d::ds).length == (e::es).length)=(ds.length == es.length):=by
   rw [List.length_cons,List.length_cons]
   rw [Bool.eq_iff_iff,beq_iff_eq,beq_iff_eq]
   omega
  rw [hl]
  rfl
theorem qu {ds es:List Dt} (h:ds.length≠es.length):wk ds es=false:=by
 rw [← xo ds es]
 have h:(ds.length == es.length)=false:=beq_eq_false_iff_ne.mpr h
 rw [h,Bool.and_false]
theorem o8 {ds es:List Dt} (h:ds.length=es.length):((List.range ds.length).all fun j=>eqD (ds.getD j .non) (es.getD j .non))=wk ds es:=by
 rw [← xo ds es]
 have h':(ds.length == es.length)=true:=beq_iff_eq.mpr h
 rw [h',Bool.and_true,← h,Nat.min_self]
theorem uT:∀ {ds:List Dt},(∀ d∈ds,eqD d d=true)→wk ds ds=true
 | [],_=>vX
 | d::ds,h=>by
  rw [xM,h d List.mem_cons_self,uT fun e he=>h e (List.mem_cons_of_mem _ he)]
  rfl
theorem xp:∀ (n:Nat) {d:Dt},okE n d=true→eqD d d=true:=by
 intro n
 induction n with
 | zero=>
  intro d h
  cases d with
  | non=>unfold eqD; rfl
  | bl b=>rw [fY]; exact beq_self_eq_true _
  | int b=>rw [y7]; exact beq_self_eq_true _
  | str b=>rw [lL]; exact beq_self_eq_true _
  | _=>simp [okE] at h
 | succ n ih=>
  intro d h
  cases d with
  | non=>unfold eqD; rfl
  | bl b=>rw [fY]; exact beq_self_eq_true _
  | int b=>rw [y7]; exact beq_self_eq_true _
  | str b=>rw [lL]; exact beq_self_eq_true _
  | tup ds=>
   rw [vY]
   have h':∀ d∈ds,okE n d=true:=by simpa [okE] using h
   exact uT fun d hd=>ih (h' d hd)
  | lst ds=>
   rw [tZ]
   have h':∀ d∈ds,okE n d=true:=by simpa [okE] using h
   exact uT fun d hd=>ih (h' d hd)
  | _=>simp [okE] at h
example:eqD (.int ((2:Nat):Int)) (.int 2)=true:=by rfl
section
variable {X:Cx} {pins:List (Addr × Obj)} {σ:St} {K:PySem.W.Frag} {H:Hp} {s:Shared}
theorem mH:∀ {ds es:List Dt} {xs:List V},(∀ d e v,d∈ds→e∈es→Is K H d v→Is K H e v→eqD d e=true)→AllIs K H ds xs→AllIs K H es xs→wk ds es=true
 | [],es,xs,ih,i1,i2=>by
  obtain rfl:=allIs_nil.mp i1
  cases es with
  | nil=>exact vX
  | cons e es=>obtain ⟨_,_,z,_⟩:=allIs_cons.mp i2; cases z
 | d::ds,es,xs,ih,i1,i2=>by
  obtain ⟨x,r,rfl,j1,j2⟩:=allIs_cons.mp i1
  cases es with
  | nil=>cases allIs_nil.mp i2
  | cons e es=>
   obtain ⟨y,r',z,k1,k2⟩:=allIs_cons.mp i2
   cases z
   rw [xM,ih d e x List.mem_cons_self List.mem_cons_self j1 k1,mH (fun d' e' v' hd he=>ih d' e' v' (List.mem_cons_of_mem _ hd) (List.mem_cons_of_mem _ he)) j2 k2]
   rfl
def wR:Dt→Bool
 | .non=>true
 | .bl _=>true
 | .int _=>true
 | .str _=>true
 | _=>false
def vD:Dt→V
 | .bl b=>.bl b
 | .int i=>.int i
 | .str x=>.str x
 | _=>.non
theorem zS {d:Dt} {v:V} (h:wR d=true) (i:Is K H d v):v=vD d:=by
 cases d <;> first | exact is_non.mp i | exact is_bl.mp i | exact is_int.mp i | exact is_str.mp i | cases h
theorem uS {d:Dt} (h:wR d=true):wQ (vD d)=true:=by cases d <;> first | rfl | cases h
theorem vV {d:Dt} {a:Addr} (h:wR d=true) (e:vD d=.ref a):False:=by cases d <;> first | cases e | cases h
theorem o7 {v:V} (h:wQ v=true):eqV v v=true:=by cases v <;> first | rfl | exact beq_self_eq_true _ | cases h
theorem vZ {d e:Dt} (h1:wR d=true) (h2:wR e=true):eqD d e=eqV (vD d) (vD e):=by cases d <;> first | exact absurd h1 Bool.false_ne_true | (cases e <;> first | exact absurd h2 Bool.false_ne_true | rfl)
theorem wT {d:Dt} {es:List Dt} (h:wR d=true):eqD d (.tup es)=false∧eqD (.tup es) d=false∧eqD d (.lst es)=false∧eqD (.lst es) d=false:=by
 cases d <;> first | exact ⟨rfl,rfl,rfl,rfl⟩ | cases h
theorem xb {n:Nat} {d:Dt} (h:okE n d=true):wR d=true∨∃ m ds,n=m+1∧(d=.tup ds∨d=.lst ds)∧∀ d∈ds,okE m d=true:=by
 cases d with
 | non=>exact .inl rfl
 | bl b=>exact .inl rfl
 | int b=>exact .inl rfl
 | str b=>exact .inl rfl
 | tup ds=>
  cases n with
  | zero=>simp [okE] at h
  | succ m=>exact .inr ⟨m,ds,rfl,.inl rfl,by simpa [okE] using h⟩
 | lst ds=>
  cases n with
  | zero=>simp [okE] at h
  | succ m=>exact .inr ⟨m,ds,rfl,.inr rfl,by simpa [okE] using h⟩
 | _=>cases n <;> simp [okE] at h
theorem lK:∀ (n:Nat) {d e:Dt} {v:V},okE n d=true→okE n e=true→Is K H d v→Is K H e v→eqD d e=true:=by
 intro n
 induction n with
 | zero=>
  intro d e v h1 h2 i1 i2
  rcases xb h1 with f1 | ⟨m,ds,z,_⟩
  ·rcases xb h2 with f2 | ⟨m,ds,z,_⟩
   ·rw [vZ f1 f2,← zS f1 i1,← zS f2 i2]
    exact o7 (by rw [zS f1 i1]; exact uS f1)
   ·cases z
  ·cases z
 | succ n ih=>
  intro d e v h1 h2 i1 i2
  rcases xb h1 with f1 | ⟨m,ds,z,hk,hd⟩
  ·rcases xb h2 with f2 | ⟨m,es,z,hk,he⟩
   ·rw [vZ f1 f2,← zS f1 i1,← zS f2 i2]
    exact o7 (by rw [zS f1 i1]; exact uS f1)
   ·obtain rfl:=zS f1 i1
    rcases hk with rfl | rfl
    ·obtain ⟨_,_,e,_⟩:=is_tup.mp i2; exact (vV f1 e).elim
    ·obtain ⟨_,_,e,_⟩:=is_lst.mp i2; exact (vV f1 e).elim
  ·cases z
   rcases xb h2 with f2 | ⟨m,es,z,hk2,he⟩
   ·obtain rfl:=zS f2 i2
    rcases hk with rfl | rfl
    ·obtain ⟨_,_,e,_⟩:=is_tup.mp i1; exact (vV f2 e).elim
    ·obtain ⟨_,_,e,_⟩:=is_lst.mp i1; exact (vV f2 e).elim
   ·cases z
    rcases hk with rfl | rfl
    ·obtain ⟨a,xs,rfl,hx,ha⟩:=is_tup.mp i1
     rcases hk2 with rfl | rfl
     ·obtain ⟨b,ys,eb,hy,hb⟩:=is_tup.mp i2
      cases eb
      rw [hx] at hy
      cases hy
      rw [vY]
      exact mH (fun d e v q1 q2=>ih (hd d q1) (he e q2)) ha hb
     ·obtain ⟨b,ys,eb,hy,hb⟩:=is_lst.mp i2
      cases eb
      rw [hx] at hy
      cases hy
    ·obtain ⟨a,xs,rfl,hx,ha⟩:=is_lst.mp i1
     rcases hk2 with rfl | rfl
     ·obtain ⟨b,ys,eb,hy,hb⟩:=is_tup.mp i2
      cases eb
      rw [hx] at hy
      cases hy
     ·obtain ⟨b,ys,eb,hy,hb⟩:=is_lst.mp i2
      cases eb
      rw [hx] at hy
      cases hy
      rw [tZ]
      exact mH (fun d e v q1 q2=>ih (hd d q1) (he e q2)) ha hb
section
variable {A:Around}
open SeqAt
theorem vb {d:Dt} {v:Value} {b:Addr} {its:Array Value} (f:wR d=true) (q:RelV (vD d) v) (t:s.heap.IsTuple b its) (hA:A.units<cLine):
  (EqAt A s v (.ref b) false∧EqAt A s (.ref b) v false)∧(RcAt A s v (.ref b) false∧RcNeAt A s v (.ref b) true)∧RcAt A s (.ref b) v false∧RcNeAt A s (.ref b) v true:=by
 cases d with
 | non=>cases q; exact ⟨⟨.none_tuple t hA,.tuple_none t hA⟩,⟨.none_tuple t hA,.none_tuple t hA⟩,.tuple_none t hA,.tuple_none t hA⟩
 | bl a=>cases q; exact ⟨⟨.bool_tuple a t hA,.tuple_bool a t hA⟩,⟨.bool_tuple a t hA,.bool_tuple a t hA⟩,.tuple_bool a t hA,.tuple_bool a t hA⟩
 | int a=>obtain ⟨u,rfl⟩:=q; exact ⟨⟨.int_tuple a u t hA,.tuple_int a u t hA⟩,⟨.int_tuple a u t hA,.int_tuple a u t hA⟩,.tuple_int a u t hA,.tuple_int a u t hA⟩
 | str a=>obtain ⟨u,rfl⟩:=q; exact ⟨⟨.str_tuple a u t hA,.tuple_str a u t hA⟩,⟨.str_tuple a u t hA,.str_tuple a u t hA⟩,.tuple_str a u t hA,.tuple_str a u t hA⟩
 | _=>cases f
theorem vd {d:Dt} {v:Value} {b:Addr} {its:Array Value} (f:wR d=true) (q:RelV (vD d) v) (t:s.heap.IsList b its) (hA:A.units<cLine):
  (EqAt A s v (.ref b) false∧EqAt A s (.ref b) v false)∧(RcAt A s v (.ref b) false∧RcNeAt A s v (.ref b) true)∧RcAt A s (.ref b) v false∧RcNeAt A s (.ref b) v true:=by
 cases d with
 | non=>cases q; exact ⟨⟨.none_list t hA,.list_none t hA⟩,⟨.none_list t hA,.none_list t hA⟩,.list_none t hA,.list_none t hA⟩
 | bl a=>cases q; exact ⟨⟨.bool_list a t hA,.list_bool a t hA⟩,⟨.bool_list a t hA,.bool_list a t hA⟩,.list_bool a t hA,.list_bool a t hA⟩
 | int a=>obtain ⟨u,rfl⟩:=q; exact ⟨⟨.int_list a u t hA,.list_int a u t hA⟩,⟨.int_list a u t hA,.int_list a u t hA⟩,.list_int a u t hA,.list_int a u t hA⟩
 | str a=>obtain ⟨u,rfl⟩:=q; exact ⟨⟨.str_list a u t hA,.list_str a u t hA⟩,⟨.str_list a u t hA,.str_list a u t hA⟩,.list_str a u t hA,.list_str a u t hA⟩
 | _=>cases f
theorem Zw {d e:Dt} {v u:Value} (f1:wR d=true) (f2:wR e=true) (q1:RelV (vD d) v) (q2:RelV (vD e) u):RcAt A s v u (eqD d e)∧RcNeAt A s v u (!eqD d e):=by
 cases d with
 | non=>
  cases q1
  cases e with
  | non=>cases q2; exact ⟨.none_none,.none_none⟩
  | bl b=>cases q2; exact ⟨.none_bool b,.none_bool b⟩
  | int b=>obtain ⟨t,rfl⟩:=q2; exact ⟨.none_int b t,.none_int b t⟩
  | str b=>obtain ⟨t,rfl⟩:=q2; exact ⟨.none_str b t,.none_str b t⟩
  | _=>cases f2
 | bl a=>
  cases q1
  cases e with
  | non=>cases q2; exact ⟨.bool_none a,.bool_none a⟩
  | bl b=>cases q2; exact ⟨.bool_bool a b,.bool_bool a b⟩
  | int b=>obtain ⟨t,rfl⟩:=q2; exact ⟨.bool_int a b t,.bool_int a b t⟩
  | str b=>obtain ⟨t,rfl⟩:=q2; exact ⟨.bool_str a b t,.bool_str a b t⟩
  | _=>cases f2
 | int a=>
  obtain ⟨ta,rfl⟩:=q1
  cases e with
  | non=>cases q2; exact ⟨.int_none a ta,.int_none a ta⟩
  | bl b=>cases q2; exact ⟨.int_bool a ta b,.int_bool a ta b⟩
  | int b=>obtain ⟨t,rfl⟩:=q2; exact ⟨.int_int a ta b t,.int_int a ta b t⟩
  | str b=>obtain ⟨t,rfl⟩:=q2; exact ⟨.int_str a ta b t,.int_str a ta b t⟩
  | _=>cases f2
 | str a=>
  obtain ⟨ta,rfl⟩:=q1
  cases e with
  | non=>cases q2; exact ⟨.str_none a ta,.str_none a ta⟩
  | bl b=>cases q2; exact ⟨.str_bool a ta b,.str_bool a ta b⟩
  | int b=>obtain ⟨t,rfl⟩:=q2; exact ⟨.str_int a ta b t,.str_int a ta b t⟩
  | str b=>obtain ⟨t,rfl⟩:=q2; exact ⟨.str_str a ta b t,.str_str a ta b t⟩
  | _=>cases f2
 | _=>cases f1
end
theorem vU {n:Nat} {A:Around} {ds es:List Dt} {xs ys:List V} {its its2:List Value}
  (ih:∀ {d e:Dt} {x y:V} {v u:Value},okE n d=true→okE n e=true→Is K H d x→Is K H e y→RelV x v→RelV y u→SeqAt.EqAt A s v u (eqD d e))
  (hd:∀ d∈ds,okE n d=true) (he:∀ d∈es,okE n d=true) (a1:AllIs K H ds xs) (a2:AllIs K H es ys) (r1:Vals xs its) (r2:Vals ys its2):
  ∀ j (h1:j<its.toArray.size) (h2:j<its2.toArray.size),SeqAt.EqAt A s its.toArray[j] its2.toArray[j] (eqD (ds.getD j .non) (es.getD j .non)):=by
 intro j h1 h2
 have l1:=a1.length.trans r1.length
 have l2:=a2.length.trans r2.length
 rw [List.size_toArray] at h1 h2
 have g1:ds[j]? = some ds[j]:=List.getElem?_eq_getElem (by omega)
 have g2:es[j]? = some es[j]:=List.getElem?_eq_getElem (by omega)
 obtain ⟨x,e1,i1⟩:=a1.get g1
 obtain ⟨y,e2,i2⟩:=a2.get g2
 obtain ⟨v,e3,q1⟩:=r1.get e1
 obtain ⟨u,e4,q2⟩:=r2.get e2
 have f1:ds.getD j .non=ds[j]:=by rw [List.getD_eq_getElem?_getD,g1]; rfl
 have f2:es.getD j .non=es[j]:=by rw [List.getD_eq_getElem?_getD,g2]; rfl
 have f3:its.toArray[j]=v:=by
  have z:its[j]? = some its[j]:=List.getElem?_eq_getElem h1
  rw [z] at e3
  simpa using Option.some.inj e3
 have f4:its2.toArray[j]=u:=by
  have z:its2[j]? = some its2[j]:=List.getElem?_eq_getElem h2
  rw [z] at e4
  simpa using Option.some.inj e4
 rw [f1,f2,f3,f4]
 exact ih (hd _ (List.mem_of_getElem? g1)) (he _ (List.mem_of_getElem? g2)) i1 i2 q1 q2
theorem Sv (I:Inv X pins σ H s):∀ (n:Nat) {A:Around} {d e:Dt} {x y:V} {v u:Value},A.units+n<cLine→okE n d=true→okE n e=true→Is X.K H d x→Is X.K H e y→RelV x v→RelV y u→SeqAt.EqAt A s v u (eqD d e):=by
 intro n
 induction n with
 | zero=>
  intro A d e x y v u hu h1 h2 i1 i2 q1 q2
  rcases xb h1 with f1 | ⟨m,ds,z,_⟩
  ·rcases xb h2 with f2 | ⟨m,ds,z,_⟩
   ·rw [vZ f1 f2]
    rw [zS f1 i1] at q1
    rw [zS f2 i2] at q2
    exact mI q1 q2 (uS f1) (uS f2)
   ·cases z
  ·cases z
 | succ n ih=>
  intro A d e x y v u hu h1 h2 i1 i2 q1 q2
  have hA:A.units<cLine:=by omega
  have hu':A.in1.units+n<cLine:=by show A.units+1+n<cLine; omega
  rcases xb h1 with f1 | ⟨m,ds,z,hk,hd⟩
  ·rw [zS f1 i1] at q1
   rcases xb h2 with f2 | ⟨m,es,z,rfl | rfl,he⟩
   ·rw [vZ f1 f2]
    rw [zS f2 i2] at q2
    exact mI q1 q2 (uS f1) (uS f2)
   ·obtain ⟨b,ys,rfl,hy,hb⟩:=is_tup.mp i2
    obtain ⟨its2,r2,t2,_⟩:=I.tuple (.of hy)
    cases q2
    rw [(wT f1).1]
    exact (vb f1 q1 t2 hA).1.1
   ·obtain ⟨b,ys,rfl,hy,hb⟩:=is_lst.mp i2
    obtain ⟨its2,r2,t2,_⟩:=I.list (.of hy)
    cases q2
    rw [(wT f1).2.2.1]
    exact (vd f1 q1 t2.isList hA).1.1
  ·cases z
   rcases hk with rfl | rfl
   ·obtain ⟨a,xs,rfl,hx,ha⟩:=is_tup.mp i1
    obtain ⟨its,r1,t1,_⟩:=I.tuple (.of hx)
    cases q1
    rcases xb h2 with f2 | ⟨m,es,z,rfl | rfl,he⟩
    ·rw [zS f2 i2] at q2
     rw [(wT f2).2.1]
     exact (vb f2 q2 t1 hA).1.2
    ·cases z
     have i2':=i2
     obtain ⟨b,ys,rfl,hy,hb⟩:=is_tup.mp i2
     obtain ⟨its2,r2,t2,_⟩:=I.tuple (.of hy)
     cases q2
     by_cases hab:a=b
     ·subst hab
      rw [lK _ h1 h2 i1 i2']
      exact SeqAt.EqAt.same _
     ·have q:=SeqAt.RcAt.tuples t1 t2 hA (vU (fun {d e x y v u}=>ih (A:=A.in1) hu') hd he ha hb r1 r2)
      rw [List.size_toArray,List.size_toArray,← r1.length,← r2.length,← ha.length,← hb.length,xo] at q
      rw [vY]
      exact .of_refs hab q
    ·obtain ⟨b,ys,rfl,hy,hb⟩:=is_lst.mp i2
     obtain ⟨its2,r2,t2,_⟩:=I.list (.of hy)
     cases q2
     exact SeqAt.EqAt.tuple_list t1 t2.isList hA
   ·obtain ⟨a,xs,rfl,hx,ha⟩:=is_lst.mp i1
    obtain ⟨its,r1,t1,_⟩:=I.list (.of hx)
    cases q1
    rcases xb h2 with f2 | ⟨m,es,z,rfl | rfl,he⟩
    ·rw [zS f2 i2] at q2
     rw [(wT f2).2.2.2]
     exact (vd f2 q2 t1.isList hA).1.2
    ·obtain ⟨b,ys,rfl,hy,hb⟩:=is_tup.mp i2
     obtain ⟨its2,r2,t2,_⟩:=I.tuple (.of hy)
     cases q2
     exact SeqAt.EqAt.list_tuple t1.isList t2 hA
    ·cases z
     have i2':=i2
     obtain ⟨b,ys,rfl,hy,hb⟩:=is_lst.mp i2
     obtain ⟨its2,r2,t2,_⟩:=I.list (.of hy)
     cases q2
     by_cases hab:a=b
     ·subst hab
      rw [lK _ h1 h2 i1 i2']
      exact SeqAt.EqAt.same _
     ·rw [tZ]
      have l1:=ha.length.trans r1.length
      have l2:=hb.length.trans r2.length
      by_cases hl:ds.length=es.length
      ·have q:=SeqAt.RcAt.lists t1.isList t2.isList (by rw [List.size_toArray,List.size_toArray]; omega) hA (vU (fun {d e x y v u}=>ih (A:=A.in1) hu') hd he ha hb r1 r2)
       rw [List.size_toArray,← l1,o8 hl] at q
       exact .of_refs hab q
      ·have q:=SeqAt.RcAt.lists_lengths t1.isList t2.isList (by rw [List.size_toArray,List.size_toArray,bne_iff_ne]; omega) hA
       rw [qu hl]
       exact .of_refs hab q
theorem Z6 (I:Inv X pins σ H s) {n:Nat} {A:Around} {d e:Dt} {x y:V} {v u:Value} (hu:A.units+(n+1)<cLine) (h1:okE (n+1) d=true) (h2:okE (n+1) e=true) (i1:Is X.K H d x) (i2:Is X.K H e y) (q1:RelV x v) (q2:RelV y u):
  SeqAt.RcAt A s v u (eqD d e)∧SeqAt.RcNeAt A s v u (!eqD d e):=by
 have hA:A.units<cLine:=by omega
 have hu':A.in1.units+n<cLine:=by show A.units+1+n<cLine; omega
 have ih:=fun {d e:Dt} {x y:V} {v u:Value}=>Sv I n (A:=A.in1) (d:=d) (e:=e) (x:=x) (y:=y) (v:=v) (u:=u) hu'
 rcases xb h1 with f1 | ⟨m,ds,z,hk,hd⟩
 ·rw [zS f1 i1] at q1
  rcases xb h2 with f2 | ⟨m,es,z,rfl | rfl,he⟩
  ·rw [zS f2 i2] at q2
   exact Zw f1 f2 q1 q2
  ·obtain ⟨b,ys,rfl,hy,hb⟩:=is_tup.mp i2
   obtain ⟨its2,r2,t2,_⟩:=I.tuple (.of hy)
   cases q2
   rw [(wT f1).1]
   exact (vb f1 q1 t2 hA).2.1
  ·obtain ⟨b,ys,rfl,hy,hb⟩:=is_lst.mp i2
   obtain ⟨its2,r2,t2,_⟩:=I.list (.of hy)
   cases q2
   rw [(wT f1).2.2.1]
   exact (vd f1 q1 t2.isList hA).2.1
 ·cases z
  rcases hk with rfl | rfl
  ·obtain ⟨a,xs,rfl,hx,ha⟩:=is_tup.mp i1
   obtain ⟨its,r1,t1,_⟩:=I.tuple (.of hx)
   cases q1
   rcases xb h2 with f2 | ⟨m,es,z,rfl | rfl,he⟩
   ·rw [zS f2 i2] at q2
    rw [(wT f2).2.1]
    exact (vb f2 q2 t1 hA).2.2
   ·cases z
    obtain ⟨b,ys,rfl,hy,hb⟩:=is_tup.mp i2
    obtain ⟨its2,r2,t2,_⟩:=I.tuple (.of hy)
    cases q2
    have it:=vU (A:=A.in1) ih hd he ha hb r1 r2
    have q:=SeqAt.RcAt.tuples t1 t2 hA it
    have q':=SeqAt.RcNeAt.tuples t1 t2 hA it
    rw [List.size_toArray,List.size_toArray,← r1.length,← r2.length,← ha.length,← hb.length,xo] at q q'
    rw [vY]
    exact ⟨q,q'⟩
   ·obtain ⟨b,ys,rfl,hy,hb⟩:=is_lst.mp i2
    obtain ⟨its2,r2,t2,_⟩:=I.list (.of hy)
    cases q2
    exact ⟨SeqAt.RcAt.tuple_list t1 t2.isList hA,SeqAt.RcNeAt.tuple_list t1 t2.isList hA⟩
  ·obtain ⟨a,xs,rfl,hx,ha⟩:=is_lst.mp i1
   obtain ⟨its,r1,t1,_⟩:=I.list (.of hx)
   cases q1
   rcases xb h2 with f2 | ⟨m,es,z,rfl | rfl,he⟩
   ·rw [zS f2 i2] at q2
    rw [(wT f2).2.2.2]
    exact (vd f2 q2 t1.isList hA).2.2
   ·obtain ⟨b,ys,rfl,hy,hb⟩:=is_tup.mp i2
    obtain ⟨its2,r2,t2,_⟩:=I.tuple (.of hy)
    cases q2
    exact ⟨SeqAt.RcAt.list_tuple t1.isList t2 hA,SeqAt.RcNeAt.list_tuple t1.isList t2 hA⟩
   ·cases z
    obtain ⟨b,ys,rfl,hy,hb⟩:=is_lst.mp i2
    obtain ⟨its2,r2,t2,_⟩:=I.list (.of hy)
    cases q2
    rw [tZ]
    have l1:=ha.length.trans r1.length
    have l2:=hb.length.trans r2.length
    by_cases hl:ds.length=es.length
    ·have it:=vU (A:=A.in1) ih hd he ha hb r1 r2
     have q:=SeqAt.RcAt.lists t1.isList t2.isList (by rw [List.size_toArray,List.size_toArray]; omega) hA it
     have q':=SeqAt.RcNeAt.lists t1.isList t2.isList (by rw [List.size_toArray,List.size_toArray]; omega) hA it
     rw [List.size_toArray,← l1,o8 hl] at q q'
     exact ⟨q,q'⟩
    ·have q:=SeqAt.RcAt.lists_lengths t1.isList t2.isList (by rw [List.size_toArray,List.size_toArray,bne_iff_ne]; omega) hA
     have q':=SeqAt.RcNeAt.lists_lengths t1.isList t2.isList (by rw [List.size_toArray,List.size_toArray,bne_iff_ne]; omega) hA
     rw [qu hl]
     exact ⟨q,q'⟩
def gEq:Dt→Dt→(Dt→Prop)→Prop:=fun d e Q=>okE 40 d=true∧okE 40 e=true∧Q (.bl (eqD d e))
def gNe:Dt→Dt→(Dt→Prop)→Prop:=fun d e Q=>okE 40 d=true∧okE 40 e=true∧Q (.bl (!eqD d e))
theorem z6 {k:Nat} (hr:Room k X.A):DOp X (compareOp .Eq) gEq:=by
 refine ⟨fun x y H Q=>∃ d e,Is X.K H d x∧Is X.K H e y∧okE 40 d=true∧okE 40 e=true∧Q (.bl (eqD d e)) H,fun pins s σ H x y v u Q I rx ry h=>?_,fun H x y d e Q i1 i2 q R k=>⟨d,e,Is.mono0 H.sub i1,Is.mono0 H.sub i2,q.1,q.2.1,k _ _ H (Le.refl H) (is_bl.mpr rfl) q.2.2⟩⟩
 obtain ⟨d,e,i1,i2,h1,h2,q⟩:=h
 have hu:=hr.units
 exact (Z6 (n:=39) I (A:=X.A) (by omega) h1 h2 i1 i2 rx ry).1 _ _ _ _ ⟨.bl _,H,I,rfl,q⟩
theorem mj {k:Nat} (hr:Room k X.A):DOp X (compareOp .NotEq) gNe:=by
 refine ⟨fun x y H Q=>∃ d e,Is X.K H d x∧Is X.K H e y∧okE 40 d=true∧okE 40 e=true∧Q (.bl (!eqD d e)) H,fun pins s σ H x y v u Q I rx ry h=>?_,fun H x y d e Q i1 i2 q R k=>⟨d,e,Is.mono0 H.sub i1,Is.mono0 H.sub i2,q.1,q.2.1,k _ _ H (Le.refl H) (is_bl.mpr rfl) q.2.2⟩⟩
 obtain ⟨d,e,i1,i2,h1,h2,q⟩:=h
 have hu:=hr.units
 exact (Z6 (n:=39) I (A:=X.A) (by omega) h1 h2 i1 i2 rx ry).2 _ _ _ _ ⟨.bl _,H,I,rfl,q⟩
def sd:List Dt→Option (List Int)
 | []=>some []
 | .int i::r=>(sd r).map (i::·)
 | _=>none
theorem rn:∀ {ds:List Dt} {ns:List Int} {xs:List V},sd ds=some ns→AllIs K H ds xs→xs=ns.map V.int
 | [],ns,xs,e,h=>by
  cases e
  exact allIs_nil.mp h
 | d::ds,ns,xs,e,h=>by
  cases d with
  | int i=>
   obtain ⟨ms,e1,e2⟩:=Option.map_eq_some_iff.mp (show (sd ds).map (i::·)=some ns from e)
   obtain ⟨x,r,rfl,h1,h2⟩:=allIs_cons.mp h
   rw [rn e1 h2,is_int.mp h1,← e2]
   rfl
  | _=>cases e
theorem oW (i:Int):∀ ns:List Int,inV (.int i) (ns.map V.int)=ns.any fun a=>a == i
 | []=>rfl
 | n::ns=>by
  have ih:=oW i ns
  unfold inV at ih ⊢
  rw [List.map_cons,List.any_cons,List.any_cons,ih]
  rfl
theorem qr:∀ ns:List Int,(ns.map V.int).all wQ=true
 | []=>rfl
 | n::ns=>by rw [List.map_cons,List.all_cons,qr ns]; rfl
theorem RI:DOp X (compareOp .In) (fun d e Q=>∃ i ds ns,d=.int i∧oi e=some ds∧sd ds=some ns∧Q (.bl (ns.any fun a=>a == i))):=by
 refine ⟨_,kF,fun H x y d e Q i1 i2 q R k=>?_⟩
 obtain ⟨i,ds,ns,rfl,e1,e2,q⟩:=q
 obtain ⟨p,xs,rfl,h1,h2⟩:=qN i2 e1
 obtain rfl:=rn e2 h2
 obtain rfl:=is_int.mp i1
 refine ⟨p,_,rfl,h1,rfl,qr ns,?_⟩
 show R (.bl (inV (.int i) (ns.map V.int))) H.h
 rw [oW]
 exact k _ _ H (Le.refl H) (is_bl.mpr rfl) q
end
end OD
namespace OD
open PySem PySem.Spec PyProof.Rows L2
section
variable {X:Cx} {pins:List (Addr × Obj)} {σ:St} {H:Hp} {s:Shared} {scope:Scope} {x:Str} {fp:List Addr}
end
end OD
namespace OD
variable {Z:Hp}
open PySem PySem.Spec PyProof.Rows L2
section
variable {X:Cx} {pins:List (Addr × Obj)} {σ:St} {H:Hp} {s:Shared} {h':Heap}
theorem Yh {ch:List Addr} (hn:∀ b∈ch,vK X pins H b):∀ b∈ch,(b∈X.ex∨X.s₀.heap.objs.size≤b)∧b≠X.env.locals∧(∀ x c,X.env.cells.lookup x=some c→c≠b)∧∀ p∈X.pn++pins,p.1≠b:=fun b hb=>by
 obtain ⟨_,h2,_,h4,h5,h6⟩:=hn b hb
 exact ⟨h4,h2,h5,h6⟩
theorem mw {ch:List Addr} {t':Nat} (I:Inv X pins σ H s) (hn:∀ b∈ch,vK X pins H b) (k:∀ b o,b∉ch→s.heap.get? b=some o→h'.get? b=some o):Inv X pins σ H { s with heap:=h',toks:=t' }:=by
 have nit:∀ b u,H b=some u→b∉ch:=fun b u e z=>by rw [(hn b z).1] at e; cases e
 refine I.step (g':=s.gens) (d':=s.drawn) (ch:=ch) (Yh hn) (fun b o _ _ hc e _=>k b o hc e) (fun b o _ _ hc e _=>⟨o.slots,k b o hc e⟩) (fun _ _ _ _ n=>n)
  (fun b o hc e=>⟨o,k b o hc e⟩) (fun _ _ e=>e) (fun _ _ _ e=>e) (fun b ps e=>⟨#[],by rw [e]; simp⟩) (fun m hm=>?_) (fun b u e=>?_) I.bare
 ·obtain ⟨o,es,ep,ho,r⟩:=hm
  exact ⟨o,es,ep,k _ o (fun z=>(hn _ z).2.1 rfl) ho,r⟩
 ·refine (I.hok b u e).stay (fun c v hc q=>k c v ?_ q) (fun _ q=>q) fun _ _ q=>q
  rcases hc with z | z
  ·rw [z]; exact nit b u e
  ·exact nit c _ z
theorem oV {ch:List Addr} {t':Nat} {T:Addr} {xs:List V} (I:Inv X pins σ H s) (hn:∀ b∈ch,vK X pins H b) (k:∀ b o,b∉ch→s.heap.get? b=some o→h'.get? b=some o) (hT:s.heap.objs.size≤T)
  (new:ObjOk X.prog X.w (upd H T (.tup xs)) h' T (.tup xs)):Inv X pins σ (upd H T (.tup xs)) { s with heap:=h',toks:=t' }:=by
 have nit:∀ b u,H b=some u→b∉ch:=fun b u e z=>by rw [(hn b z).1] at e; cases e
 have fT:H T=none:=I.hok.fresh hT
 have old:∀ b o,s.heap.get? b=some o→b≠T:=fun b o e=>Nat.ne_of_lt (Nat.lt_of_lt_of_le (Heap.lt_size e) hT)
 have up:∀ b u,H b=some u→upd H T (.tup xs) b=some u:=fun b u e=>(zw (zW e fT)).trans e
 refine I.step (g':=s.gens) (d':=s.drawn) (ch:=ch) (Yh hn) (fun b o _ _ hc e _=>k b o hc e) (fun b o _ _ hc e _=>⟨o.slots,k b o hc e⟩) (fun b o _ e n=>(zw (old b o e)).trans n)
  (fun b o hc e=>⟨o,k b o hc e⟩) (fun b xs e=>up b _ e) (fun b o u e=>up b _ e) (fun b ps e=>⟨#[],by rw [up b _ e]; simp⟩) (fun m hm=>?_) (fun b u e=>?_) I.bare
 ·obtain ⟨o,es,ep,ho,r⟩:=hm
  exact ⟨o,es,ep,k _ o (fun z=>(hn _ z).2.1 rfl) ho,r⟩
 ·by_cases hb:b=T
  ·subst hb
   rw [zt] at e
   cases e
   exact new
  ·rw [zw hb] at e
   refine (I.hok b u e).stay (fun c v hc q=>k c v ?_ q) (fun c q=>up c _ q) fun c ys q=>up c _ q
   rcases hc with z | z
   ·rw [z]; exact nit b u e
   ·exact nit c _ z
end
section
variable {X:Cx}
end
section
variable {X:Cx} {fr:Fr} {ta:DTA} {tb:DTS} {pos:Pos}
theorem mt {K:PySem.W.Frag} {W1:Vw} {d:Dt} {v:V} {ds:List Dt} (i1:Is K W1.g d v) (el:wc d=some ds):∃ a xs,v=.ref a∧(∀ W2:Vw,Same W1.g W2.g→SqL K W2.h a xs)∧AllIs K W1.g ds xs:=by
 cases d with
 | lst es=>
  obtain rfl:es=ds:=Option.some.inj el
  obtain ⟨a,xs,rfl,h1,h2⟩:=is_lst.mp i1
  exact ⟨a,xs,rfl,fun W2 s2=>.of (W2.sub _ _ (s2 _ _ h1)),h2⟩
 | scr ns=>
  obtain rfl:ns.map Dt.int=ds:=Option.some.inj el
  obtain ⟨a,rfl,h1⟩:=is_scr.mp i1
  exact ⟨a,_,rfl,fun W2 s2=>W2.sub.seq (s2.seq h1),AllIs.ints⟩
 | _=>cases el
def Yc (K:PySem.W.Frag) (t:DTE):TE:=fun σ H R=>∃ (F:Hp) (ρ:DS) (W:Vw) (Q:Dt→Prop),W.h=H∧Rl K (fun _=>none) F W ρ σ∧t ρ Q∧∀ d v W',Le W W'→Is K W'.g d v→Q d→R v W'.h
theorem DE.up {e:Expr} {t:DTE} (h:DE X e t) (hz:X.stack.length=X.outer.length:=by rfl):PE X e (Yc X.K t):=by
 obtain ⟨te,p,l⟩:=h
 intro pins s σ H R I q
 obtain ⟨F,ρ,W,Q,rfl,r,h,k⟩:=q
 have r':Rl X.K (Zx X) F W ρ σ:=by unfold Zx; rw [if_pos (Or.inl hz)]; exact r
 exact p pins s σ W.h R I (l ρ σ W Q r' h R k)
theorem Zo {K:PySem.W.Frag} {t:DTE}:LiE K (fun _=>none) (Yc K t) t:=fun ρ σ H Q r h R k=>⟨_,ρ,H,Q,rfl,r,h,k⟩
theorem LiF.le {K:PySem.W.Frag} {te:TE} {t:DTE} (l:LiF K Z te t):LiE K Z te t:=fun ρ σ H Q r h R k=>l ρ σ H Q r h R fun es q xs H' s h0 h1 h2 i z=>k (.lst es) (.ref q) (H'.frz q _ h1) (uO s h0 h1 h2) (is_lst.mpr ⟨q,xs,rfl,zt,AllIs.mono0 (zL h2 _) i⟩) z
variable {scope:Scope} {x:Str} {elt iter:Expr} {px:Pos} {tl te:DTE}
end
end OD
namespace OD
variable {Z:Hp}
open PySem PySem.Spec PyProof.Rows L2
def Ite (K:PySem.W.Frag) (l:Addr):It:=
 ⟨fun i H=>∃ xs x,SqL K H l xs∧xs[i]? = some x,
  fun i H v H'=>∃ T x,v=.ref T∧H T=none∧H'=upd H T (.tup [.int i,x])∧∀ xs,SqL K H l xs→xs[i]? = some x,
  fun i H=>∃ xs,SqL K H l xs∧xs.length≤i⟩
def YD (l e it:Addr) (i:Nat) (h:Heap):Prop:=(∃ old,IsEnum h e it (i:Int) old)∧h.IsListIter it l i
theorem kj {P:Program} {w:World} {K:PySem.W.Frag} {elts:List Expr} {x1} {tpos:Pos} (l e it:Addr) (hne:e≠it):nu P w K (.Tuple elts x1 tpos) (Ite K l) [e,it] e (YD l e it) where
 mem:=by simp
 obj:=fun i h ⟨⟨old,h1⟩,⟨o4,e4,c4,d4⟩⟩ b hb=>by
  simp only [List.mem_cons,List.not_mem_nil,or_false] at hb
  rcases hb with rfl | rfl
  ·exact ⟨_,h1,fun v z=>by cases z⟩
  ·exact ⟨_,e4,fun v z=>by rw [d4] at z; cases z⟩
 keep:=fun i h h' ⟨⟨old,h1⟩,⟨o4,e4,c4⟩⟩ k=>⟨⟨old,k e (by simp) _ h1⟩,⟨o4,k it (by simp) _ e4,c4⟩⟩
 item:=fun X hP hw hK hc i pins s σ H E I hfp ⟨⟨old,h1⟩,h4⟩ ⟨xs,x,q1,e1⟩=>by
  subst hP hw hK
  obtain ⟨its1,r1,p1,z1⟩:=I.list q1
  obtain ⟨u,eu,ru⟩:=r1.get e1
  refine wpAny_pyNext_enum_item h1 h4 p1.isList (x:=u) (by simpa using eu) hne fun h' a1 a2 a3 a4 a5=>?_
  refine ⟨_,rfl,wpAny_letOwnedTupleGo_enum a1 fun h'' b1 b2=>?_⟩
  have ne:∀ b∈[e,it],b≠s.heap.objs.size:=fun b hb=>by
   simp only [List.mem_cons,List.not_mem_nil,or_false] at hb
   obtain ⟨o4,e4,_⟩:=id h4
   rcases hb with rfl | rfl
   ·exact Nat.ne_of_lt (Heap.lt_size h1)
   ·exact Nat.ne_of_lt (Heap.lt_size e4)
  have en:e≠s.heap.objs.size:=ne e (by simp)
  have aT:=b2.extBut _ _ (Ne.symm en) a3
  have I':Inv X pins σ (upd H s.heap.objs.size (.tup [.int i,x])) { s with heap:=h'',toks:=s.toks+1 }:=oV (ch:=[e,it]) (t':=s.toks+1) I hfp (fun b o hb q=>by
    simp only [List.mem_cons,List.not_mem_nil,or_false,not_or] at hb
    exact b2.extBut b o hb.1 (a5 b o hb.1 hb.2 q)) (Nat.le_refl _) ⟨by show 2≤sizeLine; rw [sizeLine_eq]; decide,[.int i s.toks,u],.cons ⟨_,rfl⟩ (.cons ru .nil),_,aT,rfl,_,rfl⟩
  refine ⟨.ref s.heap.objs.size,_,I',rfl,⟨_,x,rfl,I.fresh,rfl,fun xs' q=>?_⟩,⟨⟨u,?_⟩,a2.extBut b2.extBut (Ne.symm hne)⟩,fun b hb=>?_⟩
  ·rw [I.list_inj q q1]; exact e1
  ·have:((i+1:Nat):Int)=(i:Int)+1:=by omega
   show IsEnum h'' e it ((i+1:Nat):Int) u
   rw [this]
   exact b1
  ·exact (zw (ne b hb)).trans (hfp b hb).1
 done:=fun X hP hw hK hc i pins s σ H E I hfp ⟨⟨old,h1⟩,h4⟩ ⟨xs,q1,e1⟩=>by
  subst hP hw hK
  obtain ⟨its1,r1,p1,z1⟩:=I.list q1
  refine wpAny_pyNext_enum_end (I.ok.hd hc) h1 h4 p1.isList ?_ fun h' hk=>⟨rfl,?_⟩
  ·have:=r1.length
   simp; omega
  ·exact mw (ch:=[e,it]) (t':=s.toks) I hfp fun b o hb q=>by
    simp only [List.mem_cons,List.not_mem_nil,or_false,not_or] at hb
    exact hk b o hb.2 q
 self:=fun A i s Q E ⟨⟨old,h1⟩,_⟩ q=>wpAny_pyIter_enum h1 q
def So (K:PySem.W.Frag) (ta:TA):TI:=fun σ H R=>ta σ H fun vs H1=>∃ l xs,vs=[.ref l]∧SqL K H1 l xs∧R (Ite K l) H1
section
variable {X:Cx}
theorem jp:bootBuiltins "enumerate"=some (.type "enumerate"):=by decide +kernel
theorem cg {a:Expr} {ta:TA} {p pos:Pos} {elts:List Expr} {x1} {tpos:Pos} (hg:Gl X "enumerate") (hm:X.mg "enumerate"=none) (ha:PA X [a] ta) (hs:starEach [a] X.env=(false,eval a X.env)::starEach [] X.env:=by rfl)
  (hpl:(backTo pos (starEach [] X.env)).any (·.1)=false:=by rfl):PI X (.Tuple elts x1 tpos) (.Call (.Name "enumerate" p) [a] [] pos) (So X.K ta):=by
 intro pins s σ H R I h
 refine Call_ (xG I hg hm jp (PyProof.Rows.callWith_type1 (thn (ha pos pins s σ H _ I h) fun us s1 ⟨vs,H1,I1,r1,q1⟩=>?_) hs hpl))
 obtain ⟨l,xs,e,q1,q⟩:=q1
 subst e
 obtain ⟨u,rfl,ru⟩:=r1.one
 cases ru
 obtain ⟨its1,r1,p1,z1⟩:=I1.list q1
 refine call_enumerate_list p1.isList fun h' b1 b2 b3 b4=>?_
 have I2:Inv X pins σ H1 { s1 with heap:=h' }:=I1.kept (t':=s1.toks) b4
 refine wpAny_pyIter_enum b1 ⟨s1.heap.objs.size+1,[s1.heap.objs.size+1,s1.heap.objs.size],_,_,H1,rfl,I2,kj l (s1.heap.objs.size+1) s1.heap.objs.size (Nat.succ_ne_self _),⟨⟨_,b1⟩,b2⟩,fun b hb=>?_,q⟩
 have hb':s1.heap.objs.size≤b:=by
  simp only [List.mem_cons,List.not_mem_nil,or_false] at hb
  rcases hb with rfl | rfl
  ·exact Nat.le_add_right _ _
  ·exact Nat.le_refl _
 have f:=I1.fpOk hb' (I1.hok.fresh hb')
 exact f
theorem fO {K:PySem.W.Frag} {l:Addr} {xs:List V} {g:TG} {tb:TS} {D:Ends} {σ:St} {H:Hp} (Pv:Nat→St→Hp→Prop) (h0:Pv 0 σ H) (hl:∀ i σ H,Pv i σ H→SqL K H l xs)
  (hs:∀ (i:Nat) x T σ H,xs[i]? = some x→H T=none→Pv i σ H→g (.ref T) σ (upd H T (.tup [.int i,x])) fun σ2 H2=>tb { D with nx:=Pv (i+1),ct:=Pv (i+1),bk:=D.nx } σ2 H2) (hd:∀ σ H,Pv xs.length σ H→D.nx σ H):
  ∃ W:Nat→Nat→St→Hp→Prop,(∃ m,W 0 m σ H)∧∀ i m σ H,W i m σ H→
   ((Ite K l).stop i H∧D.nx σ H)∨((Ite K l).go i H∧∃ N:St→Hp→Prop,(∀ σ' H',N σ' H'→∃ m',m'<m∧W (i+1) m' σ' H')∧∀ x H',(Ite K l).yld i H x H'→g x σ H' fun σ2 H2=>tb { D with nx:=N,ct:=N,bk:=D.nx } σ2 H2):=by
 refine ⟨fun i m σ H=>m=xs.length - i∧i≤xs.length∧Pv i σ H,⟨_,rfl,Nat.zero_le _,h0⟩,?_⟩
 rintro i m σ H ⟨rfl,hi,p⟩
 have q1:=hl i σ H p
 by_cases hlt:i<xs.length
 ·have g1:xs[i]? = some xs[i]:=List.getElem?_eq_getElem hlt
  refine .inr ⟨⟨xs,xs[i],q1,g1⟩,Pv (i+1),fun σ' H' p'=>⟨xs.length - (i+1),by omega,rfl,hlt,p'⟩,fun v H' y=>?_⟩
  obtain ⟨T,x,rfl,hT,rfl,e1⟩:=y
  exact hs i x T σ H (e1 xs q1) hT p
 ·have e:i=xs.length:=by omega
  subst e
  exact .inl ⟨⟨xs,q1,Nat.le_refl _⟩,hd σ H p⟩
end
section
variable {X:Cx} {fr:Fr} {ta:DTA} {tb:DTS} {pos p0 p1 p2:Pos}
def SZ (i j:Nat) (ta:DTA) (tb:DTS):DTS:=fun D ρ=>ta ρ fun ds=>∃ (d:Dt) (xs:List Dt) (Pv:Nat→DS→Prop),ds=[d]∧wc d=some xs∧Pv 0 ρ∧
 (∀ (n:Nat) x ρ',xs[n]? = some x→Pv n ρ'→tb { D with nx:=Pv (n+1),ct:=Pv (n+1),bk:=D.nx } ((ρ'.set i (.some (.int n))).set j (.some x)))∧∀ ρ',Pv xs.length ρ'→D.nx ρ'
theorem uV {i j:Nat} {x y:Str} {a:Expr} {body:List Stmt} {px py pt p0 pos1:Pos} {kt:Nat} (hc:X.calm=true) (hN:X.N.Nodup) (hi:X.N[i]? = some x) (hj:X.N[j]? = some y) (hx:Loc X.env.scope x) (hy:Loc X.env.scope y) (hp:PassesOwn (model X.prog X.w) X.A X.env X.xe)
  (hg:Gl X "enumerate") (hm:X.mg "enumerate"=none) (ha:DA X [a] ta) (hb:DSs X fr body tb) (hs:∀ z,foldedSetIterable (.Call (.Name "enumerate" p0) [a] [] pos1) X.env z=pure z:=by intro _; rfl)
  (hst:starEach [a] X.env=(false,eval a X.env)::starEach [] X.env:=by rfl) (hpl:(backTo pos1 (starEach [] X.env)).any (·.1)=false:=by rfl)
  (hf:X.fn x=true∨X.env.scope.names.lookup x=some .local:=by first | exact .inl rfl | exact .inr rfl | assumption) (hf2:X.fn y=true∨X.env.scope.names.lookup y=some .local:=by first | exact .inl rfl | exact .inr rfl | assumption):
  DSt X fr (.For (.Tuple [.Name x px,.Name y py] kt pt) (.Call (.Name "enumerate" p0) [a] [] pos1) body [] pos) (SZ i j ta tb):=by
 obtain ⟨tt,p,l⟩:=ha
 obtain ⟨tbs,p2,l2⟩:=hb
 refine ⟨_,uG hp hc (cg hg hm p hst hpl) (sI hc (yl (zR hN hi hx hf) (yl (zR hN hj hy hf2) vQ))) p2 hs,fun W0 G ρ σ W D D' at_ s h=>l ρ σ W _ at_.rl h _ fun ds vs W1 s1 i1 ⟨d,xs,Pv,ed,el1,h0,ht,hd⟩=>?_⟩
 subst ed
 obtain ⟨v1,rfl,j1⟩:=i1.one
 have hg1:Same G W1.g:=at_.gs.trans s1.g
 obtain ⟨l1,us,rfl,hq1,ha1⟩:=mt j1 el1
 refine ⟨l1,us,rfl,hq1 W1 (Same.refl _),fO (K:=X.K) (xs:=us) (fun n=>InL X.K (Zx X) W0 W1 (Pv n)) ⟨ρ,W1,rfl,(at_.step s1).now,h0⟩ (fun n σ' H' ⟨_,W2,e2,a2,_⟩=>e2 ▸ hq1 W2 a2.gs) ?_ ?_⟩
 ·rintro n u T σ' _ hu hT ⟨ρ',W2,rfl,a2,hp2⟩
  obtain ⟨x',ex,ix⟩:=ha1.get' hu
  have s3:=wd hT (.tup [.int n,u])
  have a3:=a2.step s3
  refine ⟨T,_,rfl,.of zt,rfl,.int n,[u],rfl,u,[],rfl,rfl,?_⟩
  exact l2 W0 W1.g _ _ (W2.new T (.tup [.int n,u])) { D with nx:=Pv (n+1),ct:=Pv (n+1),bk:=D.nx } _ ((a3.set i (is_int.mpr rfl)).set j (Is.mono0 a3.gs ix)) (xa s hg1) (ht n x' ρ' ex hp2)
 ·rintro σ' _ ⟨ρ',W2,rfl,a2,hp2⟩
  exact s.nx ρ' σ' W2 (a2.weak hg1) (hd ρ' (by rw [ha1.length]; exact hp2))
theorem o9 {j:Nat} {x:Str} {a b:Expr} {body:List Stmt} {px p0 pos1:Pos} (hc:X.calm=true) (hN:X.N.Nodup) (hi:X.N[j]? = some x) (hx:Loc X.env.scope x) (hp:PassesOwn (model X.prog X.w) X.A X.env X.xe)
  (hg:Gl X "range") (hm:X.mg "range"=none) (h:DA X [a,b] ta) (hb:DSs X fr body tb) (hs:∀ x,foldedSetIterable (.Call (.Name "range" p0) [a,b] [] pos1) X.env x=pure x:=by intro _; rfl)
  (hst:starEach [a,b] X.env=[(false,eval a X.env),(false,eval b X.env)]:=by rfl) (hst2:starEach [b] X.env=[(false,eval b X.env)]:=by rfl)
  (hf:X.fn x=true∨X.env.scope.names.lookup x=some .local:=by first | exact .inl rfl | exact .inr rfl | assumption):DSt X fr (.For (.Name x px) (.Call (.Name "range" p0) [a,b] [] pos1) body [] pos) (Uz j ta tb):=by
 obtain ⟨tt,p,l⟩:=h
 obtain ⟨tbs,p2,l2⟩:=hb
 refine ⟨_,uG hp hc (kC hg hm p hst hst2) (zR hN hi hx hf) p2 hs,fun W0 G ρ σ W D D' at_ s h=>l ρ σ W _ at_.rl h _ fun ds vs W1 s1 i1 ⟨m,n,Pv,ed,m1,m2,n1,n2,h0,ht,hd⟩=>?_⟩
 subst ed
 obtain ⟨v1,v2,rfl,j1,j2⟩:=i1.two
 have hg1:Same G W1.g:=at_.gs.trans s1.g
 refine ⟨m,n,by rw [is_int.mp j1,is_int.mp j2],⟨m1,m2,n1,n2⟩,qo (lo:=m) (n:=(n - m).toNat) (fun i=>InL X.K (Zx X) W0 W1 (Pv i)) ⟨ρ,W1,rfl,(at_.step s1).now,h0⟩ ?_ ?_⟩
 ·rintro i σ' _ hi ⟨ρ',W2,rfl,a2,hp2⟩
  exact l2 W0 W1.g _ _ W2 { D with nx:=Pv (i+1),ct:=Pv (i+1),bk:=D.nx } _ (a2.set j (is_int.mpr rfl)) (xa s hg1) (ht i ρ' hi hp2)
 ·rintro σ' _ ⟨ρ',W2,rfl,a2,hp2⟩
  exact s.nx ρ' σ' W2 (a2.weak hg1) (hd ρ' hp2)
def Qa (ta:DTA):DTE:=fun ρ Q=>ta ρ fun ds=>∃ i j,ds=[.int i,.int j]∧Q (.int (if j<i then j else i))
theorem eN {a b:Expr} (hc:X.calm=true) (hg:Gl X "min") (hm:X.mg "min"=none) (ha:DA X [a,b] ta) (hs:starEach [a,b] X.env=(false,eval a X.env)::starEach [b] X.env:=by rfl) (hpl:(backTo pos (starEach [b] X.env)).any (·.1)=false:=by rfl):
  DE X (.Call (.Name "min" p0) [a,b] [] pos) (Qa ta):=by
 obtain ⟨te,p1,l1⟩:=ha
 refine ⟨_,yH (jl hc) hg hm (by decide +kernel) p1 (by decide) (by decide) hs hpl,fun ρ σ H Q r h R k=>l1 ρ σ H _ r h _ fun ds vs H1 s1 i1 ⟨i,j,ed,q⟩=>?_⟩
 subst ed
 obtain ⟨v1,v2,rfl,j1,j2⟩:=i1.two
 exact ⟨i,j,by rw [is_int.mp j1,is_int.mp j2],k _ _ H1 s1 (is_int.mpr rfl) q⟩
structure tq (K:PySem.W.Frag) (C:Addr):Prop where
 cl:Cls K C
 ha:PySem.W.findIn K (.ref C) "__class__"=some (some (.builtin "object.__class__"))
 hn:PySem.W.specialIn K (.builtin "object.__class__") "__get__"=some (some (.builtin "getset_descriptor.__get__"))
 htk:PySem.W.takesIn K (.builtin "object.__class__")=some true
 hm:PySem.W.mroIn K C (.type "object")=some true
theorem jn:CallR X (.builtin "isinstance") (fun xs H Q=>∃ v D tv b,xs=[v,.ref D]∧vH X.K H v tv∧PySem.W.kitOne X.K tv (.ref D)=some b∧Q (.bl b) H):=by
 intro pins s σ H xs us Q I r h
 obtain ⟨v,D,tv,b,rfl,hty,hk,q⟩:=h
 cases r with
 | cons r1 r2=>
  cases r2 with
  | cons r3 r4=>
   cases r4
   cases r3
   exact qm I r1 hty hk fun tk=>⟨.bl b,H,I.tok _,rfl,q⟩
def SU (K:PySem.W.Frag) (D:Addr) (ta:DTE):DTE:=fun ρ Q=>ta ρ fun d=>∃ C f n b,d=.way C f n∧tq K C∧PySem.W.kitOne K (.ref C) (.ref D)=some b∧Q (.bl b)
theorem ud {a:Expr} {t:DTE} {y:Str} {p':Pos} {D:Addr} (hm:X.mg "isinstance"=none) (hmc:X.mg y=some (.ref D)) (ha:DE X a t)
  (hg:Gl X "isinstance":=by rfl) (hgc:Gl X y:=by rfl) (hdy:(y == ("__debug__":Str))=false:=by decide)
  (hs:starEach [a,.Name y p'] X.env=(false,eval a X.env)::starEach [.Name y p'] X.env:=by rfl) (hs2:starEach [.Name y p'] X.env=(false,eval (.Name y p') X.env)::starEach [] X.env:=by rfl)
  (hpl:(backTo pos (starEach [.Name y p'] X.env)).any (·.1)=false:=by rfl):
  DE X (.Call (.Name "isinstance" p0) [a,.Name y p'] [] pos) (SU X.K D t):=by
 obtain ⟨te,p1,l1⟩:=ha
 have pc:PE X (.Name y p') (tC (.ref D)):=ly hgc hmc rfl hdy
 refine ⟨_,yH jn hg hm boot_isinstance (zC p1 (zC pc z4 hs2) hs) (by decide) (by decide) hs hpl,fun ρ σ H Q r h R k=>l1 ρ σ H _ r h _ fun d v H1 s1 i1 ⟨C,f,n,b,ed,ok,e,q⟩=>?_⟩
 subst ed
 obtain ⟨p,dx,rfl,hp⟩:=is_way.mp i1
 exact ⟨_,D,_,b,rfl,.ins (H1.sub _ _ hp) ok.cl ok.ha ok.hn ok.htk ok.hm,e,k _ _ H1 s1 (is_bl.mpr rfl) q⟩
def S5 (i:Nat) (g:Int→Int→Int) (te:DTE):DTS:=fun D ρ=>∃ d,ρ[i]? = some (.some d)∧te ρ fun e=>∃ m n,d=.int m∧e=.int n∧D.nx (ρ.set i (.some (.int (g m n))))
theorem ZI {i:Nat} {x:Str} {e:Expr} {te:DTE} {op:Operator} {g:Int→Int→Int} {pos':Pos} (ho:PIp X op (ipI g)) (hN:X.N.Nodup) (hi:X.N[i]? = some x) (hx:Loc X.env.scope x) (h:DE X e te)
  (hf:X.fn x=true∨X.env.scope.names.lookup x=some .local:=by first | exact .inl rfl | exact .inr rfl | assumption):DSt X fr (.AugAssign (.Name x pos') op e pos) (S5 i g te):=by
 obtain ⟨tt,p,l⟩:=h
 refine ⟨_,YU hN hi hx p ho hf,fun W0 G ρ σ W D D' a s h=>?_⟩
 obtain ⟨d,ed,h⟩:=h
 obtain ⟨v,ev,iv⟩:=a.rl.at_ i d ed
 refine ⟨v,ev,l ρ σ W _ a.rl h _ fun z u W1 s1 i1 ⟨m,n,em,en,q⟩=>?_⟩
 subst em
 subst en
 exact ⟨m,n,is_int.mp iv,is_int.mp i1,s.nx _ _ W1 ((a.step s1).set i (is_int.mpr rfl)) q⟩
end
end OD
namespace OD
variable {Z:Hp}
open PySem PySem.Spec PyProof.Rows L2
def Itd (lo:Int) (n:Nat):It:=⟨fun i _=>i<n,fun i H x H'=>H'=H∧x=.int (lo - i),fun i _=>n≤i⟩
theorem kl {P:Program} {w:World} {K:PySem.W.Frag} {tg:Expr} (it:Addr) (lo:Int) (n:Nat):nu P w K tg (Itd lo n) [it] it (fun i h=>IsRangeIter h it (lo+(i:Nat)*(-1)) ((n:Int) - (i:Nat)) (-1)) where
 mem:=by simp
 obj:=fun i h st b hb=>by
  have e:b=it:=by simpa using hb
  subst e
  exact ⟨_,st,fun v z=>by
   have z':Data.fields _=Data.cell v:=z
   cases z'⟩
 keep:=fun i h h' st k=>k it (by simp) _ st
 item:=by
  intro X hP hw hK hc i pins s σ H E I hf st hg
  subst hP hw hK
  obtain ⟨f0,f1,f2,f3,f4,f5⟩:=hf it (by simp)
  have W:=Walks.range (prog:=X.prog) (w:=X.w) (I.ok.hd hc) it lo (-1) n
  refine W.item i s _ _ hg st fun v h' tk hv st' kk=>?_
  obtain ⟨t,rfl⟩:=hv
  have I1:Inv X pins σ H { s with heap:=h',toks:=tk }:=I.turned (fun b o hb e=>kk b o (by simpa using hb) e) f0 f1 f3 f4 f5
  refine ⟨_,rfl,lH (s:={ s with heap:=h',toks:=tk }) (n:="range_iterator") st' rfl rfl (by decide) ⟨.int (lo - i),H,I1,⟨t,?_⟩,⟨rfl,rfl⟩,st',fun b hb=>(hf b hb).1⟩⟩
  rw [show lo+(i:Int)*(-1)=lo - i by omega]
 done:=by
  intro X hP hw hK hc i pins s σ H E I hf st hg
  subst hP hw hK
  obtain ⟨f0,f1,f2,f3,f4,f5⟩:=hf it (by simp)
  exact wpAny_pyNext_range_end (I.ok.hd hc) st (by have:n≤i:=hg; omega) fun h' eb=>⟨rfl,I.turned (t':=s.toks) (fun b o hb e=>eb b o hb e) f0 f1 f3 f4 f5⟩
 self:=fun _ _ _ _ _ st h=>wpAny_pyIter_rangeiter st h
theorem wK (a b:Int):Builtin.Range.rangeSize a b (-1)=if b<a then a - b else 0:=by
 unfold Builtin.Range.rangeSize
 rw [if_neg (by decide)]
 split
 ·rename_i h
  have:(a - b - 1) / (- -1)=a - b - 1:=by rw [show (- -1:Int)=1 by decide,Int.ediv_one]
  omega
 ·rfl
theorem nI {a b:Int} (ha:-(2 ^ 62)≤a) (ha':a<2 ^ 62) (hb:-(2 ^ 62)≤b) (hb':b<2 ^ 62):Builtin.Range.small a b (-1)=true:=by
 unfold Builtin.Range.small
 rw [wK]
 simp only [Builtin.Range.rangeFitsLong,Bool.and_eq_true,Bool.or_eq_true,decide_eq_true_eq,beq_iff_eq,show ¬ (-1:Int)>0 by decide,if_false]
 split <;> omega
section
variable {X:Cx} {tg:Expr}
def Sq (ta:TA):TI:=fun σ H R=>ta σ H fun vs H1=>∃ i j:Int,vs=[.int i,.int j,.int (-1)]∧(-(2 ^ 30)≤i∧i<2 ^ 30∧-(2 ^ 30)≤j∧j<2 ^ 30)∧R (Itd i (i - j).toNat) H1
theorem ci {a b c:Expr} {ta:TA} {p pos:Pos} (hg:Gl X "range") (hm:X.mg "range"=none) (ha:PA X [a,b,c] ta) (hs:starEach [a,b,c] X.env=(false,eval a X.env)::starEach [b,c] X.env:=by rfl)
  (hpl:(backTo pos (starEach [b,c] X.env)).any (·.1)=false:=by rfl):PI X tg (.Call (.Name "range" p) [a,b,c] [] pos) (Sq ta):=by
 intro pins s σ H R I h
 refine Call_ (xG I hg hm boot_range (PyProof.Rows.callWith_type1 (thn (ha pos pins s σ H _ I h) fun us s1 ⟨vs,H1,I1,r1,q1⟩=>?_) hs hpl))
 obtain ⟨i,j,e,⟨q1,q2,q3,q4⟩,q⟩:=q1
 subst e
 cases r1 with
 | cons r rr=>
 cases rr with
 | cons r' rr=>
 cases rr with
 | cons r'' rr=>
  cases rr
  obtain ⟨t,rfl⟩:=r
  obtain ⟨t',rfl⟩:=r'
  obtain ⟨t'',rfl⟩:=r''
  refine call_range_3 (by decide) ?_ (Or.inl (PyProof.noPylong_small (by omega)))
  refine wpAny_pyIter_range (IsRange.new ..) (nI (by omega) (by omega) (by omega) (by omega)) ?_
  have I2:Inv X pins σ H1 { s1 with heap:=s1.heap.push { cls:=.type "range",data:=.fields #[.int i t,.int j t',.int (-1) t''] },toks:=s1.toks }:=I1.kept fun b o e=>Heap.get?_push_of_some _ e
  refine ⟨(s1.heap.push { cls:=.type "range",data:=.fields #[.int i t,.int j t',.int (-1) t''] }).objs.size,[(s1.heap.push { cls:=.type "range",data:=.fields #[.int i t,.int j t',.int (-1) t''] }).objs.size],_,_,H1,rfl,
   I2.kept (t':=s1.toks) fun b o e=>Heap.get?_push_of_some _ e,kl _ i (i - j).toNat,?_,fun b hb=>?_,q⟩
  ·have e1:i+((0:Nat):Int)*(-1)=i:=by simp
   have e2:(((i - j).toNat:Nat):Int) - ((0:Nat):Int)=Builtin.Range.rangeSize i j (-1):=by rw [wK]; split <;> omega
   show IsRangeIter _ _ (i+((0:Nat):Int)*(-1)) ((((i - j).toNat:Nat):Int) - ((0:Nat):Int)) (-1)
   rw [e1,e2]
   exact Heap.get?_push_size _ rfl
  ·have e:b=(s1.heap.push { cls:=.type "range",data:=.fields #[.int i t,.int j t',.int (-1) t''] }).objs.size:=by simpa using hb
   subst e
   exact I2.fpOk (Nat.le_refl _) (I2.hok.fresh (Nat.le_refl _))
theorem fP {lo:Int} {n:Nat} {g:TG} {tb:TS} {D:Ends} {σ:St} {H:Hp} (Pv:Nat→St→Hp→Prop) (h0:Pv 0 σ H)
  (hs:∀ i σ H,i<n→Pv i σ H→g (.int (lo - i)) σ H fun σ2 H2=>tb { D with nx:=Pv (i+1),ct:=Pv (i+1),bk:=D.nx } σ2 H2) (hd:∀ σ H,Pv n σ H→D.nx σ H):
  ∃ W:Nat→Nat→St→Hp→Prop,(∃ m,W 0 m σ H)∧∀ i m σ H,W i m σ H→
   ((Itd lo n).stop i H∧D.nx σ H)∨((Itd lo n).go i H∧∃ N:St→Hp→Prop,(∀ σ' H',N σ' H'→∃ m',m'<m∧W (i+1) m' σ' H')∧∀ x H',(Itd lo n).yld i H x H'→g x σ H' fun σ2 H2=>tb { D with nx:=N,ct:=N,bk:=D.nx } σ2 H2):=by
 refine ⟨fun i m σ H=>m=n - i∧i≤n∧Pv i σ H,⟨n,by simp,Nat.zero_le _,h0⟩,?_⟩
 rintro i m σ H ⟨rfl,hi,p⟩
 by_cases hlt:i<n
 ·refine .inr ⟨hlt,Pv (i+1),fun σ' H' p'=>⟨n - (i+1),by omega,rfl,hlt,p'⟩,fun x H' y=>?_⟩
  obtain ⟨e,y⟩:=y
  subst e y
  exact hs i σ _ hlt p
 ·have e:i=n:=by omega
  subst e
  exact .inl ⟨Nat.le_refl _,hd σ H p⟩
variable {fr:Fr} {ta:DTA} {tb:DTS} {te:DTE} {pos p0 p1 p2:Pos}
def S0 (j:Nat) (ta:DTA) (tb:DTS):DTS:=fun D ρ=>ta ρ fun ds=>∃ (m n:Int) (Pv:Nat→DS→Prop),ds=[.int m,.int n,.int (-1)]∧-(2 ^ 30)≤m∧m<2 ^ 30∧-(2 ^ 30)≤n∧n<2 ^ 30∧Pv 0 ρ∧
 (∀ (i:Nat) ρ',i<(m - n).toNat→Pv i ρ'→tb { D with nx:=Pv (i+1),ct:=Pv (i+1),bk:=D.nx } (ρ'.set j (.some (.int (m - i)))))∧∀ ρ',Pv (m - n).toNat ρ'→D.nx ρ'
theorem AllIs.three {K:PySem.W.Frag} {H:Hp} {d e f:Dt} {xs:List V} (h:AllIs K H [d,e,f] xs):∃ v u w,xs=[v,u,w]∧Is K H d v∧Is K H e u∧Is K H f w:=by
 obtain ⟨x,r,rfl,h1,h2⟩:=allIs_cons.mp h
 obtain ⟨u,w,rfl,h3,h4⟩:=h2.two
 exact ⟨x,u,w,rfl,h1,h3,h4⟩
theorem lO {j:Nat} {x:Str} {a b c:Expr} {body:List Stmt} {px p0 pos1:Pos} (hc:X.calm=true) (hN:X.N.Nodup) (hi:X.N[j]? = some x) (hx:Loc X.env.scope x) (hp:PassesOwn (model X.prog X.w) X.A X.env X.xe)
  (hg:Gl X "range") (hm:X.mg "range"=none) (h:DA X [a,b,c] ta) (hb:DSs X fr body tb) (hs:∀ x,foldedSetIterable (.Call (.Name "range" p0) [a,b,c] [] pos1) X.env x=pure x:=by intro _; rfl)
  (hst:starEach [a,b,c] X.env=(false,eval a X.env)::starEach [b,c] X.env:=by rfl) (hpl:(backTo pos1 (starEach [b,c] X.env)).any (·.1)=false:=by rfl)
  (hf:X.fn x=true∨X.env.scope.names.lookup x=some .local:=by first | exact .inl rfl | exact .inr rfl | assumption):DSt X fr (.For (.Name x px) (.Call (.Name "range" p0) [a,b,c] [] pos1) body [] pos) (S0 j ta tb):=by
 obtain ⟨tt,p,l⟩:=h
 obtain ⟨tbs,p2,l2⟩:=hb
 refine ⟨_,uG hp hc (ci hg hm p hst hpl) (zR hN hi hx hf) p2 hs,fun W0 G ρ σ W D D' at_ s h=>l ρ σ W _ at_.rl h _ fun ds vs W1 s1 i1 ⟨m,n,Pv,ed,m1,m2,n1,n2,h0,ht,hd⟩=>?_⟩
 subst ed
 obtain ⟨v1,v2,v3,rfl,j1,j2,j3⟩:=i1.three
 have hg1:Same G W1.g:=at_.gs.trans s1.g
 refine ⟨m,n,by rw [is_int.mp j1,is_int.mp j2,is_int.mp j3],⟨m1,m2,n1,n2⟩,fP (lo:=m) (n:=(m - n).toNat) (fun i=>InL X.K (Zx X) W0 W1 (Pv i)) ⟨ρ,W1,rfl,(at_.step s1).now,h0⟩ ?_ ?_⟩
 ·rintro i σ' _ hi ⟨ρ',W2,rfl,a2,hp2⟩
  exact l2 W0 W1.g _ _ W2 { D with nx:=Pv (i+1),ct:=Pv (i+1),bk:=D.nx } _ (a2.set j (is_int.mpr rfl)) (xa s hg1) (ht i ρ' hi hp2)
 ·rintro σ' _ ⟨ρ',W2,rfl,a2,hp2⟩
  exact s.nx ρ' σ' W2 (a2.weak hg1) (hd ρ' hp2)
def Qb (ta:DTA):DTE:=fun ρ Q=>ta ρ fun ds=>∃ i j,ds=[.int i,.int j]∧Q (.int (if j>i then j else i))
theorem Ul {a b:Expr} (hc:X.calm=true) (hg:Gl X "max") (hm:X.mg "max"=none) (ha:DA X [a,b] ta) (hs:starEach [a,b] X.env=(false,eval a X.env)::starEach [b] X.env:=by rfl) (hpl:(backTo pos (starEach [b] X.env)).any (·.1)=false:=by rfl):
  DE X (.Call (.Name "max" p0) [a,b] [] pos) (Qb ta):=by
 obtain ⟨te,p1,l1⟩:=ha
 refine ⟨_,yH (jm hc) hg hm (by decide +kernel) p1 (by decide) (by decide) hs hpl,fun ρ σ H Q r h R k=>l1 ρ σ H _ r h _ fun ds vs H1 s1 i1 ⟨i,j,ed,q⟩=>?_⟩
 subst ed
 obtain ⟨v1,v2,rfl,j1,j2⟩:=i1.two
 exact ⟨i,j,by rw [is_int.mp j1,is_int.mp j2],k _ _ H1 s1 (is_int.mpr rfl) q⟩
def fG:Dt→Bool
 | .non=>true
 | _=>false
theorem k_ {K:PySem.W.Frag} {H:Hp} {d:Dt} {v:V} (h:Is K H d v):decide (v=.non)=fG d:=by
 cases d with
 | non=>rw [is_non.mp h]; rfl
 | bl b=>rw [is_bl.mp h]; rfl
 | int b=>rw [is_int.mp h]; rfl
 | str b=>rw [is_str.mp h]; rfl
 | tup b=>obtain ⟨a,xs,rfl,_⟩:=is_tup.mp h; rfl
 | lst b=>obtain ⟨a,xs,rfl,_⟩:=is_lst.mp h; rfl
 | scr b=>obtain ⟨a,rfl,_⟩:=is_scr.mp h; rfl
 | way b _ _=>obtain ⟨a,xs,rfl,_⟩:=is_way.mp h; rfl
 | exc b=>obtain ⟨a,rfl,_⟩:=is_exc.mp h; rfl
def Yr (ta:DTE):DTE:=fun ρ Q=>ta ρ fun d=>Q (.bl (fG d))
theorem f_ {a:Expr} {j pos'} (ha:DE X a te):DT X (.Compare a [.Is] [.Constant .none j pos'] pos) (ue (Yr te)):=by
 obtain ⟨t1,p1,l1⟩:=ha
 refine ⟨_,YS (Xe p1),pj (te:=UQ t1) (t:=Yr te) fun ρ σ H Q r h R k=>l1 ρ σ H _ r h _ fun d v H1 s1 i1 q=>k (.bl (fG d)) (.bl (decide (v=.non))) H1 s1 (is_bl.mpr (by rw [k_ i1])) q⟩
end
end OD
namespace OD
variable {Z:Hp}
open PySem PySem.Spec PyProof.Rows L2
section
variable {X:Cx} {a:Expr} {te:TE} {tl th ts:TO} {lo hi:Option Expr} {st:Expr} {pos p2:Pos} {ta:DTE} {dl dh dt:DTO}
variable {fr:Fr} {tA:DTA} {tb:DTS} {p0 p1:Pos}
def SE (t u:DTS):DTS:=fun D ρ=>∃ P:DS→Prop,t { D with nx:=P } ρ∧∀ ρ',P ρ'→u D ρ'
theorem zV {sst:Stmt} {yB:List Stmt} {t u:DTS} (h1:DSt X fr sst t) (h2:DSs X fr yB u):DSs X fr (sst::yB) (SE t u):=by
 obtain ⟨ts,p1,l1⟩:=h1
 obtain ⟨us,p2,l2⟩:=h2
 refine ⟨_,oB p1 p2,fun W0 G ρ σ W D D' a s h=>?_⟩
 obtain ⟨P,h,k⟩:=h
 exact l1 W0 G ρ σ W { D with nx:=P } { D' with nx:=us D' } a ⟨fun ρ' σ' W' a' q=>l2 W0 G ρ' σ' W' D D' a' s (k ρ' q),s.tl,s.bk,s.ct⟩ h
end
end OD
namespace OD
open PySem PySem.Spec PyProof.Rows L2
section
variable {X:Cx} {ta:DTE} {pos p0:Pos}
end
end OD
namespace OD
variable {Z:Hp}
open PySem PySem.Spec PyProof.Rows L2
section
variable {X:Cx} {K:PySem.W.Frag} {H:Hp}
def gS (f:Str→Str→Dt):Dt→Dt→(Dt→Prop)→Prop:=fun d e Q=>∃ x y,d=.str x∧e=.str y∧Q (f x y)
theorem eL {x y:Str}:decide (V.str x=V.str y)=(x == y):=by
 rw [Bool.eq_iff_iff]
 simp
theorem Z9:DOp X (compareOp .Eq) (gS fun x y=>.bl (x == y)):=by
 refine ⟨_,Tm,fun H x y d e Q i1 i2 ⟨a,b,ed,ee,q⟩ R k=>?_⟩
 subst ed
 subst ee
 obtain rfl:=is_str.mp i1
 obtain rfl:=is_str.mp i2
 refine ⟨rfl,?_⟩
 rw [eL]
 exact k _ _ H (Le.refl H) (is_bl.mpr rfl) q
end
section
variable {X:Cx} {fr:Fr} {te:DTE} {tb:DTS} {pos p0 p1 p2:Pos}
def S1 (i j:Nat) (te:DTE) (tb:DTS):DTS:=fun D ρ=>te ρ fun d=>∃ (xs:List Dt) (Pv:Nat→DS→Prop),wc d=some xs∧Pv 0 ρ∧
 (∀ (n:Nat) x ρ',xs[n]? = some x→Pv n ρ'→∃ a b,x=.tup [a,b]∧tb { D with nx:=Pv (n+1),ct:=Pv (n+1),bk:=D.nx } ((ρ'.set i (.some a)).set j (.some b)))∧∀ ρ',Pv xs.length ρ'→D.nx ρ'
theorem ZH {i j:Nat} {x y:Str} {iter:Expr} {body:List Stmt} {px py pt:Pos} {kt:Nat} (hc:X.calm=true) (hN:X.N.Nodup) (hi:X.N[i]? = some x) (hj:X.N[j]? = some y) (hx:Loc X.env.scope x) (hy:Loc X.env.scope y) (hp:PassesOwn (model X.prog X.w) X.A X.env X.xe)
  (h:DE X iter te) (hb:DSs X fr body tb) (hs:∀ z,foldedSetIterable iter X.env z=pure z:=by intro _; rfl)
  (hf:X.fn x=true∨X.env.scope.names.lookup x=some .local:=by first | exact .inl rfl | exact .inr rfl | assumption) (hf2:X.fn y=true∨X.env.scope.names.lookup y=some .local:=by first | exact .inl rfl | exact .inr rfl | assumption):
  DSt X fr (.For (.Tuple [.Name x px,.Name y py] kt pt) iter body [] pos) (S1 i j te tb):=by
 obtain ⟨tt,p,l⟩:=h
 obtain ⟨tbs,p2,l2⟩:=hb
 refine ⟨_,uG hp hc (qW p) (sI hc (yl (zR hN hi hx hf) (yl (zR hN hj hy hf2) vQ))) p2 hs,fun W0 G ρ σ W D D' at_ s h=>l ρ σ W _ at_.rl h _ fun d v W1 s1 i1 ⟨ds,Pv,el,h0,ht,hd⟩=>?_⟩
 have hg:Same G W1.g:=at_.gs.trans s1.g
 obtain ⟨a,xs,rfl,hq,ha⟩:=mt i1 el
 refine ⟨a,rfl,⟨xs,hq W1 (Same.refl _)⟩,o3 (K:=X.K) (a:=a) (xs:=xs) (fun i=>InL X.K (Zx X) W0 W1 (Pv i)) ⟨ρ,W1,rfl,(at_.step s1).now,h0⟩ (fun i σ' H' _ ⟨_,W2,e2,a2,_⟩=>e2 ▸ hq W2 a2.gs) ?_ ?_⟩
 ·rintro n x σ' _ hi ⟨ρ',W2,rfl,a2,hp2⟩
  obtain ⟨e,he,ie⟩:=ha.get' hi
  obtain ⟨a1,b1,rfl,q⟩:=ht n e ρ' he hp2
  obtain ⟨T,us,rfl,hT,hu⟩:=is_tup.mp (Is.mono0 a2.gs ie)
  obtain ⟨v1,v2,rfl,k1,k2⟩:=hu.two
  refine ⟨T,_,rfl,.of (W2.sub _ _ hT),rfl,v1,[v2],rfl,v2,[],rfl,rfl,?_⟩
  exact l2 W0 W1.g _ _ W2 { D with nx:=Pv (n+1),ct:=Pv (n+1),bk:=D.nx } _ ((a2.set i k1).set j k2) (xa s hg) q
 ·rintro σ' _ ⟨ρ',W2,rfl,a2,hp2⟩
  exact s.nx ρ' σ' W2 (a2.weak hg) (hd ρ' (by rw [ha.length]; exact hp2))
end
end OD
namespace OD
variable {Z:Hp}
open PySem PySem.Spec PyProof.Rows L2
def tR (σ:St) (js:List Nat):St:=js.map fun j=>(σ[j]?).getD none
section
variable {X:Cx} {pins:List (Addr × Obj)} {σ:St} {H:Hp} {s:Shared} {scope:Scope} {cl:List (Str × Addr)} {x:Str} {caps:List Str} {js:List Nat} {fp:List Addr}
end
def vG (cells:List (Str × Addr)) (names:List (Str × NameKind)):List (Str × Addr):=(names.filterMap fun y=>if y.2 == .free then (cells.lookup y.1).map (y.1,·) else none).reverse
theorem sZ {α:Type} {y:Str} {c:α}:∀ {l:List (Str × α)},(y,c)∈l→∃ c',l.lookup y=some c'
 | [],h=>nomatch h
 | (z,d)::r,h=>by
  rw [List.lookup_cons]
  cases q:y == z with
  | true=>exact ⟨d,rfl⟩
  | false=>
   rcases List.mem_cons.mp h with e | e
   ·cases e
    rw [beq_self_eq_true] at q
    cases q
   ·exact sZ e
theorem mem_clOf {cells:List (Str × Addr)} {names:List (Str × NameKind)} {y:Str} {c:Addr}:(y,c)∈vG cells names↔(y,NameKind.free)∈names∧cells.lookup y=some c:=by
 unfold vG
 rw [List.mem_reverse,List.mem_filterMap]
 constructor
 ·rintro ⟨⟨z,k⟩,hz,e⟩
  split at e
  ·rename_i hk
   obtain rfl:=eq_of_beq hk
   obtain ⟨d,hd,e⟩:=Option.map_eq_some_iff.mp e
   cases e
   exact ⟨hz,hd⟩
  ·cases e
 ·rintro ⟨h1,h2⟩
  exact ⟨(y,.free),h1,by show Option.map _ (List.lookup y cells)=_; rw [h2]; rfl⟩
theorem ZT {scope:Scope} {env:Env} (h:∀ y,(y,NameKind.free)∈scope.names→∃ c,env.cells.lookup y=some c):closureFor scope env=pure (vG env.cells scope.names):=by
 have key:∀ (names:List (Str × NameKind)) (acc:List (Str × Addr)),(∀ y,(y,NameKind.free)∈names→∃ c,env.cells.lookup y=some c)→
   (forIn names acc fun x r=>(if x.2 == NameKind.free then do let c ← cellOf env x.1; pure (ForInStep.yield ((x.1,c)::r)) else pure (ForInStep.yield r):Sem (ForInStep (List (Str × Addr)))))=(pure (vG env.cells names++acc):Sem (List (Str × Addr))):=by
  intro names
  induction names with
  | nil=>intro acc _; rfl
  | cons a r ih=>
   intro acc ha
   obtain ⟨n,k⟩:=a
   rw [List.forIn_cons]
   cases hk:k == NameKind.free with
   | true=>
    obtain rfl:=eq_of_beq hk
    obtain ⟨c,hc⟩:=ha n List.mem_cons_self
    have e1:cellOf env n=pure c:=by unfold cellOf; rw [hc]
    have e2:vG env.cells ((n,NameKind.free)::r)=vG env.cells r++[(n,c)]:=by
     unfold vG
     rw [List.filterMap_cons_some (b:=(n,c)) (by show Option.map _ (List.lookup n env.cells)=_; rw [hc]; rfl),List.reverse_cons]
    show (do let c ← cellOf env n; pure (ForInStep.yield ((n,c)::acc)):Sem _) >>= _=_
    rw [e1,pure_bind,pure_bind,e2,List.append_assoc]
    exact ih ((n,c)::acc) fun y hy=>ha y (List.mem_cons_of_mem _ hy)
   | false=>
    have e2:vG env.cells ((n,k)::r)=vG env.cells r:=by
     unfold vG
     rw [List.filterMap_cons_none (by show (if (k == NameKind.free)=true then _ else none)=none; rw [hk]; rfl)]
    show (pure (ForInStep.yield acc):Sem _) >>= _=_
    rw [pure_bind,e2]
    exact ih acc fun y hy=>ha y (List.mem_cons_of_mem _ hy)
 have:=key scope.names [] h
 rw [List.append_nil] at this
 unfold closureFor
 rw [← this]
 exact (bind_pure _).trans rfl
theorem yZ {env:Env} (hk:env.scope.kind=.function):∀ {names:List (Str × NameKind)} {x:Str},names.lookup x=some .free→env.scope.names.lookup x=some .cell→
  (names.map fun (n,k)=>if (k == NameKind.free && env.scope.kind == .function && env.kindOf n == some .cell) then (n,NameKind.cell) else (n,k)).lookup x=some .cell
 | [],_,h,_=>by simp at h
 | (n,k)::r,x,h,he=>by
  have ih:=@yZ env hk r x
  show List.lookup x ((if (k == NameKind.free && env.scope.kind == .function && env.kindOf n == some .cell)=true then (n,NameKind.cell) else (n,k))::_)=_
  cases hx:x == n with
  | true=>
   obtain rfl:=eq_of_beq hx
   simp only [List.lookup_cons,hx] at h
   cases h
   have e:env.kindOf x=some .cell:=he
   rw [hk,e]
   simp [List.lookup_cons]
  | false=>
   simp only [List.lookup_cons,hx] at h
   by_cases hc:(k == NameKind.free && env.scope.kind == .function && env.kindOf n == some .cell)=true
   ·rw [if_pos hc]; simp only [List.lookup_cons,hx]; exact ih h he
   ·rw [if_neg hc]; simp only [List.lookup_cons,hx]; exact ih h he
def vk (ρ:DS) (js:List Nat):DS:=js.map fun j=>match (ρ[j]?:Option Sl) with
 | Option.some (Sl.some d)=>Sl.some d
 | _=>Sl.none
def eT (js:List Nat) (ta te:DTE):DTE:=fun ρ Q=>ta ρ fun d=>∃ (m:Int) (Pv:Nat→List Dt→Prop),d=.int m∧-(2 ^ 62)≤m∧m≤100000∧Pv 0 []∧
 (∀ (i:Nat) es,i<m.toNat→Pv i es→te (.some (.int i)::vk ρ js) fun y=>Pv (i+1) (es++[y]))∧∀ es,Pv m.toNat es→Q (.lst es)
def Sj (t:TE):TI:=fun σ H R=>t σ H fun v H1=>∃ j:Int,v=.int j∧-(2 ^ 62)≤j∧j<2 ^ 62∧R (Itr 0 j.toNat) H1
section
variable {X:Cx} {fr:Fr} {osc scope:Scope} {x:Str} {caps:List Str} {js:List Nat} {N0:List Str} {L:Addr} {a elt:Expr} {ta te:DTE} {px p0 pos pos1:Pos}
theorem kB {t:TE} {tg:Expr} (hg:Gl X "range") (hm:X.mg "range"=none) (p:PE X a t) (hst:starEach [a] X.env=[(false,eval a X.env)]) (hst2:starEach [a] X.env=(false,eval a X.env)::starEach [] X.env):PI X tg (.Call (.Name "range" p0) [a] [] pos1) (Sj t):=by
 intro pins s σ H R I h
 refine qh hg hm (zC p z4 hst2) hst pins s σ H R I ?_
 refine (?_:t σ H fun v H1=>∃ j:Int,[v]=[V.int j]∧-(2 ^ 62)≤j∧j<2 ^ 62∧R (Itr 0 j.toNat) H1)
 have e:(fun (v:V) (H1:Hp)=>∃ j:Int,v=V.int j∧-(2 ^ 62)≤j∧j<2 ^ 62∧R (Itr 0 j.toNat) H1)=fun v H1=>∃ j:Int,[v]=[V.int j]∧-(2 ^ 62)≤j∧j<2 ^ 62∧R (Itr 0 j.toNat) H1:=by
  funext v H1
  refine propext ⟨fun ⟨j,q,z⟩=>⟨j,by rw [q],z⟩,fun ⟨j,q,z⟩=>⟨j,(List.cons.inj q).1,z⟩⟩
 rw [← e]
 exact h
end
section
variable {X:Cx} {a:Expr} {p0 pos:Pos}
theorem jo:bootBuiltins "int"=some (.type "int"):=by decide +kernel
def UR (ta:TA):TE:=fun σ H Q=>ta σ H fun vs H1=>∃ b:Bool,vs=[.bl b]∧Q (.int (if b then 1 else 0)) H1
theorem ck {ta:TA} (hg:Gl X "int") (hm:X.mg "int"=none) (ha:PA X [a] ta) (hs:starEach [a] X.env=(false,eval a X.env)::starEach [] X.env:=by rfl) (hpl:(backTo pos (starEach [] X.env)).any (·.1)=false:=by rfl):
  PE X (.Call (.Name "int" p0) [a] [] pos) (UR ta):=by
 intro pins s σ H Q I h
 refine Call_ (xG I hg hm jo (PyProof.Rows.callWith_type1 (thn (ha pos pins s σ H _ I h) fun us s1 ⟨vs,H1,I1,r1,q1⟩=>?_) hs hpl))
 obtain ⟨b,e,q⟩:=q1
 subst e
 obtain ⟨u,rfl,ru⟩:=r1.one
 cases ru
 exact call_int_bool ⟨.int _,H1,I1.tok _,⟨_,rfl⟩,q⟩
def SV (ta:DTE):DTE:=fun ρ Q=>ta ρ fun d=>∃ b:Bool,d=.bl b∧Q (.int (if b then 1 else 0))
theorem lT {ta:DTE} (hg:Gl X "int") (hm:X.mg "int"=none) (ha:DE X a ta) (hs:starEach [a] X.env=(false,eval a X.env)::starEach [] X.env:=by rfl) (hpl:(backTo pos (starEach [] X.env)).any (·.1)=false:=by rfl):
  DE X (.Call (.Name "int" p0) [a] [] pos) (SV ta):=by
 obtain ⟨te,p1,l1⟩:=ha
 refine ⟨_,ck hg hm (zC p1 z4 hs) hs hpl,fun ρ σ H Q r h R k=>l1 ρ σ H _ r h _ fun d v H1 s1 i1 ⟨b,ed,q⟩=>?_⟩
 subst ed
 exact ⟨b,by rw [is_bl.mp i1],k _ _ H1 s1 (is_int.mpr rfl) q⟩
end
end OD
namespace OD
variable {Z:Hp}
open PySem PySem.Spec PyProof.Rows L2
def lW (js:List Nat) (ta te:DTE):DTE:=fun ρ Q=>ta ρ fun d=>∃ (ds:List Dt) (Pv:Nat→List Dt→Prop),wc d=some ds∧ds.length≤100000∧Pv 0 []∧
 (∀ (i:Nat) e es,ds[i]? = some e→Pv i es→te (.some e::vk ρ js) fun y=>Pv (i+1) (es++[y]))∧∀ es,Pv ds.length es→Q (.lst es)
section
variable {X:Cx} {fr:Fr} {osc scope:Scope} {x:Str} {caps:List Str} {js:List Nat} {N0:List Str} {L:Addr} {iter elt:Expr} {ta te:DTE} {px pos:Pos}
end
end OD
namespace L2
open PySem PySem.Spec PyProof.Rows
section
variable {P:Program} {w:World} {H H':Hp} {h B:Heap}
theorem HOk.part (x:HOk P w H h) (k:∀ b u,H b≠none→h.get? b=some u→B.get? b=some u):HOk P w H B:=fun a o e=>
 (x a o e).stay (fun b u hb q=>k b u (fun z=>by rcases hb with rfl | y; (rw [e] at z; cases z); (rw [y] at z; cases z)) q) (fun _ q=>q) fun _ _ q=>q
theorem ObjOk.there {a:Addr} {o:HO} (x:ObjOk P w H h a o):∃ u,h.get? a=some u:=by
 cases o with
 | lst xs=>obtain ⟨_,_,_,_,e⟩:=x; exact ⟨_,e⟩
 | tup xs=>obtain ⟨_,_,_,o,e,_⟩:=x; exact ⟨_,e⟩
 | dK kvs=>obtain ⟨_,_,_,_,o,_,_,e,_⟩:=x; exact ⟨_,e⟩
 | dT kvs=>obtain ⟨_,_,_,_,o,_,_,e,_⟩:=x; exact ⟨_,e⟩
 | set S n=>obtain ⟨o,_,_,_,e,_⟩:=x; exact ⟨_,e⟩
 | ins C dx fs=>obtain ⟨_,_,_,e,_⟩:=x; exact ⟨_,e⟩
 | own y=>exact x
 | xd fs=>obtain ⟨_,⟨_,_,_,e,_⟩,_⟩:=x; exact ⟨_,e⟩
 | rng lo hi=>obtain ⟨_,_,_,e⟩:=x; exact ⟨_,e⟩
 | frz ob u=>obtain ⟨e,_⟩:=x; exact ⟨_,e⟩
 | tbl ps=>exact ⟨_,(show h.get? a=some _ from x)⟩
 | met f y=>exact ⟨_,(show h.get? a=some _ from x)⟩
 | ext φ=>obtain ⟨_,e,_⟩:=x; exact e
end
structure Flies (P:Program) (w:World) (stack:List Env) (H:Hp) (h0:Heap) (H':Hp) (e:Addr) (cls:Value) (h:Heap):Prop where
 ex:∃ B a0,Heap.FlyingW B stack e cls a0 h∧(∀ b o,h0.get? b=some o→H b=none→b∉frs stack→B.get? b=some o)∧(∀ b o,h0.get? b=some o→b∉frs stack→∃ o',B.get? b=some o')∧HOk P w H' B
 slot:∀ b o,h0.get? b=some o→b∈frs stack→∃ sl,h.get? b=some { o with slots:=sl }
 free:∀ b o,h0.get? b=some o→H b=none→H' b=none
 tups:∀ b xs,H b=some (.tup xs)→H' b=some (.tup xs)
 frzs:∀ b o u,H b=some (.frz o u)→H' b=some (.frz o u)
 tbls:∀ b ps,H b=some (.tbl ps)→∃ more,H' b=some (.tbl (ps++more))
 new:h0.get? e=none
section
variable {P:Program} {w:World} {stack:List Env} {H H':Hp} {h0 h:Heap} {e:Addr} {cls:Value}
theorem Flies.un (f:Flies P w stack H h0 H' e cls h):Un (frs stack) [] H H' h0 h:=by
 obtain ⟨B,a0,⟨st,_,_,_⟩,k1,k2,_⟩:=f.ex
 refine ⟨fun b o q n hb _=>st b o (k1 b o q n hb),fun b o q _ hb _=>f.slot b o q hb,fun b o q n _=>f.free b o q n,fun b o q _=>?_,f.tups,f.frzs,f.tbls⟩
 by_cases hb:b∈frs stack
 ·obtain ⟨sl,z⟩:=f.slot b o q hb
  exact ⟨_,z⟩
 ·obtain ⟨o',z⟩:=k2 b o q hb
  exact ⟨o',st b o' z⟩
theorem Flies.hok (f:Flies P w stack H h0 H' e cls h):HOk P w H' h:=by
 obtain ⟨B,a0,⟨st,_,_,_⟩,_,_,k3⟩:=f.ex
 exact k3.kept st
theorem Flies.out (f:Flies P w stack H h0 H' e cls h):H' e=none:=by
 obtain ⟨B,a0,⟨st,n,_,_⟩,_,_,k3⟩:=f.ex
 cases q:H' e with
 | none=>rfl
 | some o=>
  obtain ⟨u,z⟩:=(k3 e o q).there
  rw [n] at z; cases z
theorem Flies.go (f:Flies P w stack H h0 H' e cls h):∃ B a0,Heap.FlyingW B stack e cls a0 h∧∀ h',Heap.FlyingW B stack e cls a0 h'→h.UpToSlots h'→Flies P w stack H h0 H' e cls h':=by
 obtain ⟨B,a0,fl,k1,k2,k3⟩:=f.ex
 refine ⟨B,a0,fl,fun h' fl' up=>⟨⟨B,a0,fl',k1,k2,k3⟩,fun b o q hb=>?_,f.free,f.tups,f.frzs,f.tbls,f.new⟩⟩
 obtain ⟨sl,z⟩:=f.slot b o q hb
 obtain ⟨_,ob,ho,hd⟩:=fl.2.2.1.mem hb
 rw [z] at ho
 cases ho
 obtain ⟨sl',z'⟩:=up b _ z hd
 exact ⟨sl',z'⟩
end
section
variable {X:Cx} {pins:List (Addr × Obj)} {σ:St} {H H':Hp} {s s':Shared} {M:Model} {E:Value→Shared→Prop} {e:Addr} {cls:Value}
theorem Inv.neL (I:Inv X pins σ H s) {b:Addr} {o:Obj} (q:X.s₀.heap.get? b=some o):b≠X.env.locals:=Nat.ne_of_lt (Nat.lt_of_lt_of_le (Heap.lt_size q) I.ok.above)
theorem fQ {vs:List Value} {h1:Heap} {Q:Unit→Shared→Prop} (I:Inv X pins σ H s) (hstk:X.stack=X.env::X.outer) (hf:X.env.frame=some X.env.locals) (hex:X.ex=[]) (hx:Heap.MadeExcOf s.heap h1 e cls vs)
  (hQ:∀ h',Flies X.prog X.w X.outer X.H₀ X.s₀.heap H e cls h'→Q () { s with heap:=h' }):wpAny M X.A (leaving X.env (.ref e)) Q E { s with heap:=h1 }:=by
 have hfr:X.A.frames=some (X.env::X.outer):=by rw [← hstk]; exact I.ok.frames
 have hfs:frs X.stack=X.env.locals::frs X.outer:=by rw [hstk]; unfold frs; rw [List.filterMap_cons,hf]
 have hl:s.heap.FunFrames (PySem.W.hideAll s.heap (frs X.stack)) (X.env::X.outer):=by
  have z:=I.stack
  rw [hstk] at z
  refine PySem.W.funFrames_hide z fun env he a ha=>?_
  rw [hstk]
  exact List.mem_filterMap.mpr ⟨env,he,ha⟩
 have nx:∀ b,b∉X.ex:=fun b z=>by rw [hex] at z; cases z
 have nst:∀ b o,X.s₀.heap.get? b=some o→b∉frs X.outer→b∉frs X.stack:=fun b o q nb z=>by
  rw [hfs] at z
  rcases List.mem_cons.mp z with z | z
  ·exact I.neL q z
  ·exact nb z
 refine PySem.wpAny_leaves_madeW (s:={ s with heap:=h1 }) (h:=s.heap) (base:=PySem.W.hideAll s.heap (frs X.stack)) hfr hf (fun b o q=>PySem.W.of_hideAll _ q) hl hx fun h' t x1 x2 x3 x4=>hQ h' ⟨⟨_,_,x1,fun b o q n nb=>?_,fun b o q nb=>?_,?_⟩,fun b o q hb=>?_,fun b o q n=>I.base.free b o q n (nx b),I.base.tups,I.base.frzs,I.base.tbls,?_⟩
 ·exact PySem.W.hideAll_get _ (I.base.keep b o q n nb (nx b)) (nst b o q nb)
 ·obtain ⟨o',z⟩:=I.base.there b o q (nx b)
  exact ⟨o',PySem.W.hideAll_get _ z (nst b o q nb)⟩
 ·exact I.hok.part fun b u hb q=>PySem.W.hideAll_get _ q fun z=>hb (I.stkFree b z)
 ·obtain ⟨sl,z⟩:=I.base.slot b o q (I.ok.frf b hb) hb (nx b)
  obtain ⟨_,ob,ho,hd⟩:=I.funs.mem hb
  rw [z] at ho
  cases ho
  obtain ⟨sl',z'⟩:=x4 b _ (hx.keeps b _ z) hd
  exact ⟨sl',z'⟩
 ·cases q:X.s₀.heap.get? e with
  | none=>rfl
  | some o=>
   obtain ⟨o',z⟩:=I.base.there e o q (nx e)
   rw [hx.new] at z; cases z
theorem Ub {Q:Unit→Shared→Prop} (I:Inv X pins σ H s) (hstk:X.stack=X.env::X.outer) (hf:X.env.frame=some X.env.locals) (hex:X.ex=[]) (f:Flies X.prog X.w X.stack H s.heap H' e cls s'.heap)
  (hQ:∀ h',Flies X.prog X.w X.outer X.H₀ X.s₀.heap H' e cls h'→Q () { s' with heap:=h' }):wpAny M X.A (leaving X.env (.ref e)) Q E s':=by
 have hfr:X.A.frames=some (X.env::X.outer):=by rw [← hstk]; exact I.ok.frames
 have hfs:frs X.stack=X.env.locals::frs X.outer:=by rw [hstk]; unfold frs; rw [List.filterMap_cons,hf]
 have nx:∀ b,b∉X.ex:=fun b z=>by rw [hex] at z; cases z
 have nst:∀ b o,X.s₀.heap.get? b=some o→b∉frs X.outer→b∉frs X.stack:=fun b o q nb z=>by
  rw [hfs] at z
  rcases List.mem_cons.mp z with z | z
  ·exact I.neL q z
  ·exact nb z
 obtain ⟨B,a0,fl,k1,k2,k3⟩:=f.ex
 have fl':=fl
 rw [hstk] at fl'
 refine PySem.wpAny_leaves_onW hfr hf fl' fun h' x1 x2=>hQ h' ⟨⟨B,a0,x1,fun b o q n nb=>?_,fun b o q nb=>?_,k3⟩,fun b o q hb=>?_,fun b o q n=>?_,fun b xs q=>f.tups b xs (I.base.tups b xs q),fun b o u q=>f.frzs b o u (I.base.frzs b o u q),fun b ps q=>?_,?_⟩
 ·exact k1 b o (I.base.keep b o q n nb (nx b)) (I.base.free b o q n (nx b)) (nst b o q nb)
 ·obtain ⟨o',z⟩:=I.base.there b o q (nx b)
  exact k2 b o' z (nst b o q nb)
 ·obtain ⟨sl,z⟩:=I.base.slot b o q (I.ok.frf b hb) hb (nx b)
  have hb':b∈frs X.stack:=by rw [hfs]; exact List.mem_cons_of_mem _ hb
  obtain ⟨sl',z'⟩:=f.slot b _ z hb'
  obtain ⟨_,ob,ho,hd⟩:=fl.2.2.1.mem hb'
  rw [z'] at ho
  cases ho
  obtain ⟨sl2,z2⟩:=x2 b _ z' hd
  exact ⟨sl2,z2⟩
 ·obtain ⟨o',z⟩:=I.base.there b o q (nx b)
  exact f.free b o' z (I.base.free b o q n (nx b))
 ·obtain ⟨m1,e1⟩:=I.base.tbls b ps q
  obtain ⟨m2,e2⟩:=f.tbls b _ e1
  exact ⟨m1++m2,by rw [e2,Array.append_assoc]⟩
 ·cases q:X.s₀.heap.get? e with
  | none=>rfl
  | some o=>
   obtain ⟨o',z⟩:=I.base.there e o q (nx e)
   rw [f.new] at z; cases z
end
def ExcK (K:PySem.W.Frag) (C:Addr):Prop:=PySem.W.excIn K C [.type "ValueError",.type "Exception",.type "BaseException",.type "object"] "ValueError.__new__"=true
theorem ZB {K:PySem.W.Frag} {h:Heap} {C:Addr} (X:K.In h) (q:ExcK K C):∃ bm N nm qn bs hdct sn sub ab col dd k0 k1 k2 k3 k5 mN,h.get? C=some (excClassObj nm qn C N bs bm hdct sn sub ab col dd k0 k1 k2 k3 k5 "ValueError.__new__")∧h.Ns N mN∧mN "__init__"=none∧OwnTail h [.type "ValueError",.type "Exception",.type "BaseException",.type "object"] bm:=by
 unfold ExcK PySem.W.excIn at q
 split at q
 ·rename_i d1 cl s1 look
  split at q
  ·rename_i C1 tl w0 w1 w2 w3 nid w5 em es
   simp only [Bool.and_eq_true,Bool.not_eq_true',beq_iff_eq] at q
   obtain ⟨⟨⟨⟨⟨rfl,rfl⟩,q1⟩,q2⟩,q3⟩,q4⟩:=q
   obtain ⟨a1,a2,a3,a4,a5,a6,a7,a8,a9,b1,b2⟩:=cl
   dsimp only at em q1 q3 q4
   subst em q1
   obtain rfl:s1=#[w0,w1,w2,w3,some (.builtin "ValueError.__new__"),w5]:=by
    obtain ⟨l⟩:=s1
    simp only at es; rw [es]
   exact ⟨tl,a4,a1,a5,a2,a6,a7,a8,a9,b1,d1,w0,w1,w2,w3,w5,_,X _ _ look,.of_isNs (PySem.W.isNs_of_in X q3),PySem.W.nsMap_none_of_in X q3 q4,PySem.W.tail_of_in X q2⟩
  ·cases q
 ·cases q
def XOk (X:Cx) (C:Addr) (H:Hp):Prop:=∀ (pins:List (Addr × Obj)) (σ:St) (s:Shared) (h1:Heap) (e:Addr) (vs:List Value),Inv X pins σ H s→Heap.MadeExcOf s.heap h1 e (.ref C) vs→X.xe (.ref e) { s with heap:=h1 }
def YI (X:Cx) (C:Addr) (te:TE):TS:=fun _ σ H=>te σ H fun _ H1=>XOk X C H1
theorem jW {X:Cx} {C:Addr} {x:Str} {a:Expr} {te:TE} {np cpos pos:Pos} (hc:X.calm=true) (hg:Gl X x) (hm:X.mg x=some (.ref C)) (hC:ExcK X.K C) (ha:PE X a te)
  (hdb:(x == ("__debug__":Str))=false:=by decide) (he:starEach [a] X.env=(false,eval a X.env)::starEach [] X.env:=by rfl):PS X (.Raise (some (.Call (.Name x np) [a] [] cpos)) none pos) (YI X C te):=by
 intro pins s σ H D I h
 obtain ⟨bm,N,nm,qn,bs,hdct,sn,sub,ab,col,dd,k0,k1,k2,k3,k5,mN,hO,hN,hni,T⟩:=ZB I.ok.mod.kin hC
 refine PySem.wpAny_Raise_call_subU (C:=C) (nm:=nm) (q:=qn) (N:=N) (bs:=bs) (bm:=bm) (hdct:=hdct) (sn:=sn) (sub:=sub) (ab:=ab) (col:=col) (dd:=dd) (k0:=k0) (k1:=k1) (k2:=k2) (k3:=k3) (k5:=k5)
  PySem.F.excBase_ValueError (by decide) PySem.F.excBase_ValueError (mN:=mN) (T.hasType PySem.F.excBase_ValueError.hasBase) (I.ok.hd hc) (by rw [he]; rfl) hni (wg I hg hm ⟨rfl,?_⟩ hdb)
 have z:=zC ha z4 he cpos pins s σ H (fun us H1=>us.length=1∧XOk X C H1) I (show te σ H (fun x H1=>[x].length=1∧XOk X C H1) from by
  have h:te σ H (fun _ H1=>XOk X C H1):=h
  simpa using h)
 rw [he] at z ⊢
 refine Calls.evalArgs_plain (thn z fun vs s1 ⟨us,H1,I1,r,hl,q⟩=>⟨rfl,?_,I1.bk _ _ hO,hN.keeps I1.bk,T.keeps I1.bk,fun h' e hx=>q pins σ s1 h' e vs I1 hx⟩)
 show vs.length≤_
 rw [← r.length,hl]
 decide
def CX1 (P:Program) (w:World):CXT:=fun outer H s E e s'=>∃ a C H',e=.ref a∧s'.os=s.os∧AllBare s'.gens∧Flies P w outer H s.heap H' a (.ref C) s'.heap∧E (.ref C) none H'
section
variable {P:Program} {w:World} {K:PySem.W.Frag} {mg:Str→Option Value} {base:Heap} {N:List Str} {qual:Str} {scope:Scope} {f C:Addr} {cd:Value} {A:Around} {outer:List Env} {s:Shared} {H H1:Hp} {E:XK}
theorem Yz (h:E (.ref C) none H1):XOk (yu (CX1 P w) P w K mg base N qual scope f cd A outer s H E) C H1:=fun pins σ s' h1 e vs I hx=>
 fQ (X:=yu (CX1 P w) P w K mg base N qual scope f cd A outer s H E) I rfl rfl rfl hx fun h' fl=>⟨e,C,H1,rfl,I.os,I.bare,fl,h⟩
theorem kE:PassesOwn (model P w) (A.deeper (envOfC qual scope s.heap.objs.size f cd)) (envOfC qual scope s.heap.objs.size f cd) (yu (CX1 P w) P w K mg base N qual scope f cd A outer s H E).xe:=PassesOwn.leaving
end
section
variable {X:Cx} {CX:CXT} {k:Nat} {f C:Addr} {fd:FuncData} {ps:List Str} {sp:Sp} {dvs:List V} {ds:List Value} {x y:Str} {p pos:Pos} {e:Expr} {es:List Expr} {t:TA}
def XPx (X:Cx) (pins:List (Addr × Obj)) (σ:St) (E:XK) (e:Value) (s':Shared):Prop:=∃ a C H' H1 s1,e=.ref a∧Inv X pins σ H1 s1∧s'.os=s1.os∧AllBare s'.gens∧Flies X.prog X.w X.stack H1 s1.heap H' a (.ref C) s'.heap∧E (.ref C) none H'
theorem e9 (F:FnOk X.prog X.w X.K X.mg X.base (CX1 X.prog X.w) k f fd ps sp) (hr:Room k X.A) (hg:Gl X x) (hm:X.mg x=some (.ref f)) (hk:PySem.W.keepIn X.K (.ref f)=true) (hb:Binds X.K fd ps [])
  (ha:PA X.nox (e::es) t) {pins:List (Addr × Obj)} {s:Shared} {σ:St} {H:Hp} {Q:VK} {E:XK} (I:Inv X pins σ H s) (h:t σ H fun vs H1=>sp vs H1 Q E)
  (hdb:(x == ("__debug__":Str))=false:=by decide) (he:starEach (e::es) X.env=(false,eval e X.env)::starEach es X.env:=by rfl) (hpl:(backTo pos (starEach es X.env)).any (·.1)=false:=by rfl):
  wpAny (model X.prog X.w) X.A (eval (.Call (.Name x p) (e::es) [] pos) X.env) (EP X pins σ Q) (XPx X pins σ E) s:=by
 refine wpAny_Call_Name_kw (wg I hg hm ?_ hdb)
 refine PySem.W.callWith_K (h₀:=X.base) I.ok.mod.kin hk (wpAny_mono (ha pos pins s σ H _ (I.wish _) h) (fun us s1 ⟨vs,H1,I1,r,q⟩=>⟨I1.unwish.kIn,?_⟩) fun _ _ z=>z.elim) he hpl
 have I1:=I1.unwish
 have hl:us.length=ps.length:=by rw [← r.length]; exact F.len _ _ _ _ q
 refine wpAny_call (codeAny_mono (F.run X.A X.stack s1 H1 ⟨us,[]⟩ us vs Q E hr I1.env0 ?_ r q) fun rr s' hq=>?_)
 ·have z:=hb s1 us I1.kIn (by rw [List.append_nil]; exact hl)
  rw [List.append_nil] at z
  exact z
 cases rr with
 | error e=>
  obtain ⟨a,C,H',ee,os,bare,fl,z⟩:=hq
  exact ⟨a,C,H',H1,s1,ee,I1,os,bare,fl,z⟩
 | ok fl=>
  cases fl with
  | ret u=>exact I1.after hq
  | next=>exact False.elim hq
  | brk=>exact False.elim hq
  | cont=>exact False.elim hq
end
abbrev TB:=(St→Hp→Prop)→XK→St→Hp→Prop
def PB (X:Cx) (body:List Stmt) (t:TB):Prop:=∀ (pins:List (Addr × Obj)) (s:Shared) (σ:St) (H:Hp) (nx:St→Hp→Prop) (E:XK),Inv X pins σ H s→t nx E σ H→
 wpAny (model X.prog X.w) X.A (execs body X.env) (fun f s'=>f=.next∧∃ σ' H',Inv X pins σ' H' s'∧nx σ' H') (XPx X pins σ E) s
def Cx.inH (X:Cx) (a:Addr):Cx:={ X with A:=X.A.mark (some (.ref a)),calm:=false,xe:=fun _ _=>False }
section
variable {X:Cx} {pins:List (Addr × Obj)} {σ:St} {H:Hp} {s:Shared} {a:Addr}
theorem Inv.inH (I:Inv X pins σ H s) (a:Addr):Inv (X.inH a) pins σ H s:=
 ⟨⟨I.ok.mod,I.ok.kind,I.ok.glob,I.ok.blt,I.ok.above,I.ok.inj,I.ok.has,I.ok.cab,fun z=>Bool.noConfusion z,I.ok.frames,I.ok.stk,I.ok.exf,I.ok.bs,I.ok.bsz,I.ok.noex,I.ok.exfs,I.ok.funs,I.ok.frf⟩,I.os,I.bare,I.base,I.loc,I.cell,I.free,I.freeC,I.pin,I.hok,I.len⟩
theorem Inv.outH (ok:X.Ok) (I:Inv (X.inH a) pins σ H s):Inv X pins σ H s:=⟨ok,I.os,I.bare,I.base,I.loc,I.cell,I.free,I.freeC,I.pin,I.hok,I.len⟩
theorem SP.outH {D:Ends} {f:Flow} {s':Shared} (ok:X.Ok) (h:SP (X.inH a) pins D f s'):SP X pins D f s':=by
 cases f with
 | next=>obtain ⟨σ',H',I,q⟩:=h; exact ⟨σ',H',I.outH ok,q⟩
 | brk=>obtain ⟨σ',H',I,q⟩:=h; exact ⟨σ',H',I.outH ok,q⟩
 | cont=>obtain ⟨σ',H',I,q⟩:=h; exact ⟨σ',H',I.outH ok,q⟩
 | ret u=>obtain ⟨v,σ',H',I,r,q⟩:=h; exact ⟨v,σ',H',I.outH ok,r,q⟩
end
section
variable {X:Cx} {t:TB} {th:TS} {y:Str} {c:Value} {py hpos pos:Pos} {body:List Stmt} {b₀:Stmt} {suite:List Stmt}
def RD (K:PySem.W.Frag) (c:Value) (t:TB) (th:TS):TS:=fun D σ H=>t D.nx (fun cls _ H'=>PySem.W.exmOne K cls c=some true∧th D σ H') σ H
theorem YT (hstk:X.stack=X.env::X.outer) (hf:X.env.frame=some X.env.locals) (hb:PB X body t) (hh:∀ a,PSs (X.inH a) (b₀::suite) th) (hg:Gl X y) (hm:X.mg y=some c) (hd:(y == ("__debug__":Str))=false:=by decide):
  PS X (.Try body [.ExceptHandler (some (.Name y py)) none (b₀::suite) hpos] [] [] pos) (RD X.K c t th):=by
 intro pins s σ H D I h
 have hfr:X.A.frames=some (X.env::X.outer):=by rw [← hstk]; exact I.ok.frames
 refine wpAny_Try_except (wpAny_mono (hb pins s σ H _ _ I h) (fun f s1 ⟨ef,σ',H',I',q⟩=>?_) fun e s1 hx=>?_)
 ·subst ef
  exact wpAny_execs_nil ⟨σ',H',I',q⟩
 ·obtain ⟨a,C,H',H1,s2,rfl,I1,os,bare,fl,hex,hth⟩:=hx
  obtain ⟨B,a0,fl0,go⟩:=fl.go
  have inv:∀ h',Heap.FlyingW B X.stack a (.ref C) a0 h'→s1.heap.UpToSlots h'→Inv X pins σ H' { s1 with heap:=h' }:=fun h' x1 x2=>
   have f':=go h' x1 x2
   I1.call' (s':={ s1 with heap:=h' }) os f'.un f'.hok bare (fun _ z=>nomatch z)
  rw [hstk] at fl0
  refine wpAny_looks_onW hfr hf fl0 fun h4 held4 up4=>?_
  refine wpAny_landsW held4 fun h5 fl5 up5=>?_
  have I5:=inv h5 (by rw [hstk]; exact fl5) (up4.trans up5)
  obtain ⟨ob,hob,hoc⟩:=fl5.there
  have ty:PySem.W.Looks (model X.prog X.w) h5 (typeOf (.ref a)) (.ref C):=by rw [← hoc]; exact (PySem.W.Looks.ld hob).andThen .now
  refine wpAny_handleBy_cons (codeAny_handlers_test (wg (X:=X.inH a) (I5.inH a) hg hm ((PySem.W.exm_one I5.kIn ty hex).here ?_) hd)) (by intro q; cases q)
  refine codeAny_handlers_suite ?_
  refine lands_againW fl5 fun h6 fl6 up6=>?_
  have I6:=inv h6 (by rw [hstk]; exact fl6) ((up4.trans up5).trans up6)
  exact wpAny_mono (hh a pins _ σ H' D (I6.inH a) hth) (fun f s3 q=>SP.outH I.ok q) fun _ _ z=>z.elim
end
section
variable {X:Cx} {pins:List (Addr × Obj)} {σ:St} {H:Hp} {s:Shared}
theorem w6 {M:Model} {A:Around} {E:Value→Shared→Prop} {i:Nat} {x:Str} {pos:Pos} {Q:Unit→Shared→Prop} (I:Inv X pins σ H s) (hN:X.N.Nodup) (hi:X.N[i]? = some x) (hx:X.env.scope.names.lookup x=some .local)
  (h:∀ s',Inv X pins (σ.set i none) H s'→Q () s'):wpAny M A (do bindName X.env x .none; unbindBehindTheSuite X.env x pos) Q E s:=by
 have hcls:(X.env.scope.kind == .class || (X.env.scope.kind == .module && X.env.locals != X.env.globals))=false:=by rw [I.ok.kind]; rfl
 have hiσ:i<σ.length:=by rw [I.len]; exact (List.getElem?_eq_some_iff.mp hi).1
 refine wpAny_bind (wpAny_bindName (xI I hN hi (.inl hx) (v:=V.non) (u:=Value.none) rfl (fun s1 I1=>?_) (.inr hx)))
 obtain ⟨m,hn,hl⟩:=id I1.loc
 have hv:∃ v,m x=some v:=by
  obtain ⟨u,_,q⟩:=hl i x V.non hi (List.getElem?_set_self hiσ) (.inl hx)
  rcases q with ⟨_,z⟩ | ⟨k,_⟩
  ·exact ⟨u,z⟩
  ·have k:X.env.scope.names.lookup x=some .cell∨X.env.scope.names.lookup x=some .free:=k
   rw [hx] at k
   rcases k with k | k <;> cases k
 obtain ⟨v,hv⟩:=hv
 unfold unbindBehindTheSuite
 refine wpAny_onRaise (wpAny_unbindName_local hx hn hv hcls fun h' u hn' hs=>h _ ?_)
 obtain ⟨oL,_,_,hoL,_⟩:=id hn
 have cne:=I1.cne
 refine ⟨I1.ok,I1.os,I1.bare,⟨fun b o e n hb hx=>?_,fun b o e n hb hx=>?_,I1.base.free,fun b o e hx=>?_,I1.base.tups,I1.base.frzs,I1.base.tbls⟩,⟨_,hn',fun j y v' e1 e2 e3=>?_⟩,fun y c e=>?_,I1.free,I1.freeC,fun p hp=>?_,fun b ob e=>?_,by rw [List.length_set]; exact I.len⟩
 ·exact (hs.2 b (Nat.ne_of_lt (Nat.lt_of_lt_of_le (Heap.lt_size e) I1.ok.above))).trans (I1.base.keep b o e n hb hx)
 ·obtain ⟨sl,e1⟩:=I1.base.slot b o e n hb hx
  exact ⟨sl,(hs.2 b (Nat.ne_of_lt (Nat.lt_of_lt_of_le (Heap.lt_size e) I1.ok.above))).trans e1⟩
 ·obtain ⟨o',e1⟩:=I1.base.there b o e hx
  exact ⟨o',(hs.2 b (Nat.ne_of_lt (Nat.lt_of_lt_of_le (Heap.lt_size e) I1.ok.above))).trans e1⟩
 ·by_cases hj:j=i
  ·subst hj
   rw [List.getElem?_set_self hiσ] at e2
   cases e2
  ·rw [List.getElem?_set_ne (Ne.symm hj)] at e2
   obtain ⟨u',r',q⟩:=hl j y v' e1 (by rw [List.getElem?_set_ne (Ne.symm hj)]; exact e2) e3
   refine ⟨u',r',?_⟩
   rcases q with ⟨k,e⟩ | ⟨k,c,e,z⟩
   ·refine .inl ⟨k,?_⟩
    have:y≠x:=fun e=>hj (sX hN e1 (e ▸ hi))
    simp [this,e]
   ·exact .inr ⟨k,c,e,z.sameBut hs (cne y c e)⟩
 ·obtain ⟨w',z⟩:=I1.cell y c e
  exact ⟨w',z.sameBut hs (cne y c e)⟩
 ·obtain ⟨e,n,ne,nf,d⟩:=I1.pin p hp
  exact ⟨(hs.2 p.1 ne).trans e,n,ne,nf,d⟩
 ·refine (I1.hok b ob e).stay (fun c w' hc q=>(hs.2 c ?_).trans q) (fun _ q=>q) fun _ _ q=>q
  rintro rfl
  have fr:=I1.free
  rcases hc with rfl | hc
  ·rw [fr] at e; cases e
  ·rw [fr] at hc; cases hc
theorem Flies.track {P:Program} {w:World} {stack:List Env} {H':Hp} {h0 h:Heap} {e C:Addr} (f:Flies P w stack H h0 H' e (.ref C) h):Un (frs stack) [] H (upd H' e (.ext (OD.excAt e C))) h0 h∧HOk P w (upd H' e (.ext (OD.excAt e C))) h:=by
 have u:=f.un
 have out:=f.out
 obtain ⟨B,a0,fl,_⟩:=f.ex
 obtain ⟨ob,hob,hoc⟩:=fl.there
 have ne0:∀ b o,h0.get? b=some o→b≠e:=fun b o q z=>by rw [z,f.new] at q; cases q
 have ne1:∀ b o,H' b=some o→b≠e:=fun b o q z=>by rw [z,out] at q; cases q
 refine ⟨⟨u.keep,u.slot,fun b o q n hx=>by rw [zw (ne0 b o q)]; exact u.free b o q n hx,u.there,fun b xs q=>by rw [zw (ne1 b _ (u.tups b xs q))]; exact u.tups b xs q,fun b o v q=>by rw [zw (ne1 b _ (u.frzs b o v q))]; exact u.frzs b o v q,fun b ps q=>?_⟩,fun b o q=>?_⟩
 ·obtain ⟨m,z⟩:=u.tbls b ps q
  exact ⟨m,by rw [zw (ne1 b _ z)]; exact z⟩
 ·by_cases hb:b=e
  ·subst hb
   rw [zt] at q
   cases q
   exact ⟨⟨ob,hob,hoc⟩,⟨ob,hob⟩,fun h1 h2 ⟨o,ho,hc⟩ k=>⟨o,k o ho,hc⟩⟩
  ·rw [zw hb] at q
   exact (f.hok b o q).stay (fun _ _ _ z=>z) (fun c z=>by rw [zw (ne1 c _ z)]; exact z) fun c xs z=>by rw [zw (ne1 c _ z)]; exact z
end
section
variable {X:Cx} {t:TB} {th:TS} {y n:Str} {j:Nat} {c:Value} {py hpos pos:Pos} {body:List Stmt} {b₀:Stmt} {suite:List Stmt}
def Ends.off (D:Ends) (j:Nat):Ends:=⟨fun σ H=>D.nx (σ.set j none) H,D.rt,fun σ H=>D.bk (σ.set j none) H,fun σ H=>D.ct (σ.set j none) H⟩
def YH (K:PySem.W.Frag) (c:Value) (j:Nat) (t:TB) (th:TS):TS:=fun D σ H=>t D.nx (fun cls _ H'=>PySem.W.exmOne K cls c=some true∧∀ a C,cls=.ref C→H' a=none→th (D.off j) (σ.set j (some (.ref a))) (upd H' a (.ext (OD.excAt a C)))) σ H
theorem oC (hstk:X.stack=X.env::X.outer) (hf:X.env.frame=some X.env.locals) (hN:X.N.Nodup) (hj:X.N[j]? = some n) (hn:X.env.scope.names.lookup n=some .local) (hb:PB X body t) (hh:∀ a,PSs (X.inH a) (b₀::suite) th) (hg:Gl X y) (hm:X.mg y=some c)
  (hd:(y == ("__debug__":Str))=false:=by decide):PS X (.Try body [.ExceptHandler (some (.Name y py)) (some n) (b₀::suite) hpos] [] [] pos) (YH X.K c j t th):=by
 intro pins s σ H D I h
 have hfr:X.A.frames=some (X.env::X.outer):=by rw [← hstk]; exact I.ok.frames
 refine wpAny_Try_except (wpAny_mono (hb pins s σ H _ _ I h) (fun f s1 ⟨ef,σ',H',I',q⟩=>?_) fun e s1 hx=>?_)
 ·subst ef
  exact wpAny_execs_nil ⟨σ',H',I',q⟩
 ·obtain ⟨a,C,H',H1,s2,rfl,I1,os,bare,fl,hex,hth⟩:=hx
  obtain ⟨B,a0,fl0,go⟩:=fl.go
  have inv:∀ h',Heap.FlyingW B X.stack a (.ref C) a0 h'→s1.heap.UpToSlots h'→Inv X pins σ H' { s1 with heap:=h' }:=fun h' x1 x2=>
   have f':=go h' x1 x2
   I1.call' (s':={ s1 with heap:=h' }) os f'.un f'.hok bare (fun _ z=>nomatch z)
  rw [hstk] at fl0
  refine wpAny_looks_onW hfr hf fl0 fun h4 held4 up4=>?_
  refine wpAny_landsW held4 fun h5 fl5 up5=>?_
  have I5:=inv h5 (by rw [hstk]; exact fl5) (up4.trans up5)
  obtain ⟨ob,hob,hoc⟩:=fl5.there
  have ty:PySem.W.Looks (model X.prog X.w) h5 (typeOf (.ref a)) (.ref C):=by rw [← hoc]; exact (PySem.W.Looks.ld hob).andThen .now
  refine wpAny_handleBy_cons (codeAny_handlers_test (wg (X:=X.inH a) (I5.inH a) hg hm ((PySem.W.exm_one I5.kIn ty hex).here ?_) hd)) (by intro q; cases q)
  refine codeAny_handlers_suite_as ?_
  refine lands_againW fl5 fun h6 fl6 up6=>?_
  have f6:=go h6 (by rw [hstk]; exact fl6) ((up4.trans up5).trans up6)
  have I6:Inv X pins σ (upd H' a (.ext (OD.excAt a C))) { s1 with heap:=h6 }:=I1.call' (s':={ s1 with heap:=h6 }) os f6.track.1 f6.track.2 bare (fun _ z=>nomatch z)
  refine xI (X:=X.inH a) (v:=V.ref a) (I6.inH a) hN hj (.inl hn) rfl (fun s7 I7=>?_) (.inr hn)
  refine wpAny_mono (hh a pins s7 _ _ (D.off j) I7 (hth a C rfl f6.out)) (fun f s3 q=>?_) fun _ _ z=>z.elim
  have q:=SP.outH I.ok q
  cases f with
  | next=>obtain ⟨σ',H',I',q⟩:=q; exact w6 I' hN hj hn fun s' I''=>⟨_,H',I'',q⟩
  | brk=>obtain ⟨σ',H',I',q⟩:=q; exact w6 I' hN hj hn fun s' I''=>⟨_,H',I'',q⟩
  | cont=>obtain ⟨σ',H',I',q⟩:=q; exact w6 I' hN hj hn fun s' I''=>⟨_,H',I'',q⟩
  | ret u=>obtain ⟨v,σ',H',I',r,q⟩:=q; exact w6 I' hN hj hn fun s' I''=>⟨v,_,H',I'',r,q⟩
end
end L2
namespace L2
open PySem PySem.Spec PyProof.Rows PySem.W PySem.Builtin PySem.Builtin.ObjectAttr PySem.Builtin.Getset_descriptor
structure qF (K:PySem.W.Frag) (C:Addr):Prop where
 ga:PySem.W.findIn K (.ref C) "__getattribute__"=some (some (.builtin "BaseException.__getattribute__"))
 gn:PySem.W.findIn K (.ref C) "__getattr__"=some none
 ha:PySem.W.findIn K (.ref C) "__class__"=some (some (.builtin "object.__class__"))
 hn:PySem.W.specialIn K (.builtin "object.__class__") "__get__"=some (some (.builtin "getset_descriptor.__get__"))
 htk:PySem.W.takesIn K (.builtin "object.__class__")=some true
 hm:PySem.W.mroIn K C (.type "object")=some true
 hb:PySem.W.mroIn K C (.type "BaseException")=some true
section
variable {prog:Program} {w:World} {A:Around} {E:Value→Shared→Prop} {s:Shared} {K:PySem.W.Frag} {a C:Addr} {oa:Obj}
theorem ZC {R:Result→Shared→Prop} {tp:Value} (X:K.In s.heap) (e1:s.heap.get? a=some oa) (e2:oa.cls=.ref C) (hm:mroIn K C (.type "object")=some true) (h:R (.ok (.ret (.ref C))) s):
  codeAny (model prog w) A (.call (.builtin "getset_descriptor.__get__") ⟨[.builtin "object.__class__",.ref a,tp],[]⟩) R s:=by
 obtain ⟨h0,gs,dn,tn,oo⟩:=s
 have e1:h0.get? a=some oa:=e1
 have Lt:Looks (model prog w) h0 (typeOf (.ref a)) (.ref C):=e2 ▸ (Looks.ld e1).andThen .now
 have Lm:=looks_mroIn (M:=model prog w) X hm
 refine codeAny_call_builtin KF.slot_gs.plain KF.entry_gs (KF.slot_gs.check (model prog w) _ _ _ _ _ _ _ KF.type_class (KF.args_gs _ _ _) ?_)
 unfold Builtin.«getset_descriptor.__get__» descrGet; rw [dga_obj]
 refine wpAny_bind (wpAny_pure ?_); unfold descrGetter descrCheckInstance descrNameAndClass isInstance
 simp only [KF.owner_class]
 repeat lk
 refine ⟨Code.quiet_builtin _ (by decide +kernel),codeAny_builtin KF.entry_class (by
  unfold Builtin.«object.__class__» shownTypeOf
  repeat lk
  exact h)⟩
theorem ji {Q:Option Value→Shared→Prop} (O:qF K C) (X:K.In s.heap) (e1:s.heap.get? a=some oa) (e2:oa.cls=.ref C)
  (h:Q (some (.ref C)) { s with toks:=s.toks+1 }):wpAny (model prog w) A (getAttr? (.ref a) "__class__") Q E s:=by
 obtain ⟨h0,gs,dn,tn,oo⟩:=s
 have Lt:Looks (model prog w) h0 (typeOf (.ref a)) (.ref C):=e2 ▸ (Looks.ld e1).andThen .now
 have La:=looks_findIn (M:=model prog w) X O.ga
 have Ln:=looks_findIn (M:=model prog w) X O.gn
 have Lf:Looks (model prog w) h0 (Builtin.ObjectAttr.find (.ref a) (.ref C) "__class__") (.bind (.builtin "getset_descriptor.__get__") (.builtin "object.__class__")):=
  (looks_findIn X O.ha).andThen ((looks_specialIn X O.hn).andThen ((show Looks _ h0 (Builtin.ObjectAttr.dataDescriptor? (some (.builtin "object.__class__")) (some (.builtin "getset_descriptor.__get__"))) (some (.builtin "getset_descriptor.__get__",.builtin "object.__class__")) from (looks_takesIn X O.htk).andThen .now).andThen (Looks.tag .now)))
 unfold getAttr? getAttrBy? getAttrBy
 refine wpAny_bind (wpAny_mkText (wpAny_bind (wpAny_attempt (wpAny_holding (wpAny_bind (Lt.at (wpAny_bind (La.at ?_))))))))
 show wpAny _ _ (getAttrByItsOwn _ _ _ _ _ _) _ _ _
 unfold getAttrByItsOwn hookBefore
 refine wpAny_bind (show wpAny _ _ (typeLookup _ _) _ _ _ from Ln.at (wpAny_bind (wpAny_attempt (wpAny_holding (show wpAny _ _ (boundAndCalled _ _ _) _ _ _ from ?_)))))
 unfold boundAndCalled
 refine wpAny_bind (wpAny_of_eq (PySem.F.attrBase_ValueError.ga.bind (.ref a)) ?_)
 have Lb:=looks_mroIn (M:=model prog w) X O.hb
 refine wpAny_call (codeAny_call_builtin PySem.F.attrBase_ValueError.ga.plain PySem.F.entry_bexc_ga ?_)
 have hk1:builtinKind "BaseException.__getattribute__"=some .slot:=by decide +kernel
 have hk2:splitId "BaseException.__getattribute__"=some ("BaseException","__getattribute__"):=by decide +kernel
 have hk3:=PySem.F.args_bexc_ga (.ref a) (.str "__class__" tn)
 simp only [checkBuiltinCall,hk1,hk2]
 unfold isInstance
 refine wpAny_bind (wpAny_bind (Lt.at (Lb.at ?_)))
 have hid:∃ z,z=oa∧h0.get? a=some z:=⟨oa,rfl,e1⟩
 clear e1
 repeat (any_goals (first | assumption | wp_step))
 obtain ⟨z,rfl,e1⟩:=hid
 refine wpAny_loadPart_at e1 ?_
 refine wpAny_pure ?_
 rw [e2]
 refine wpAny_bind (Lf.at ?_)
 show wpAny _ _ (holding [Value.builtin "object.__class__"] (call (Value.builtin "getset_descriptor.__get__") [Value.builtin "object.__class__",Value.ref a,Value.ref C]) >>= ret) _ _ _
 exact wpAny_bind (wpAny_holding (wpAny_call (ZC (s:=⟨h0,gs,dn,tn+1,oo⟩) X e1 e2 O.hm (wpAny_pure (handed_on rfl (wpAny_pure h))))))
end
theorem qx {K:PySem.W.Frag} {C:Addr} {b:Value} {r:Bool} (e:mroIn K C b=some r):∃ c d cd sl,K.lookup C=some ⟨c,d,.cls cd,sl⟩:=by
 unfold mroIn clsIn at e
 revert e
 cases q:K.lookup C with
 | none=>intro e; simp at e
 | some o=>
  obtain ⟨c,d,dt,sl⟩:=o
  cases dt <;> intro e <;> first | exact ⟨_,_,_,_,rfl⟩ | simp at e
theorem fD {K:PySem.W.Frag} {a C:Addr} (O:qF K C):KitX K (.ref a) (.ref C) (OD.excAt a C) where
 ty:=fun _ _ _ ⟨_,e1,e2⟩=>e2 ▸ (Looks.ld e1).andThen .now
 it:=fun _ _ X _=>by
  obtain ⟨c,d,cd,sl,hl⟩:=qx O.hm
  intro A1 Q1 E1 s1 k1 q1
  unfold isType loadHead
  exact wpAny_bind (wpAny_loadPart (k1 _ _ (X _ _ hl)) (wpAny_pure q1))
 ne:=fun h tp dd its n sl X htp=>by
  obtain ⟨c,d,cd,sl1,hl⟩:=qx O.hm
  refine Bool.eq_false_iff.mpr fun q=>?_
  have e:C=tp:=Value.ref.inj (eq_of_beq q)
  rw [e] at hl
  have z:=(X _ _ hl).symm.trans htp; cases z
 ca:=fun X ⟨_,e1,e2⟩ k=>ji O X e1 e2 k
end L2
namespace OD
open PySem PySem.Spec PyProof.Rows L2
variable {Z:Hp}
def XOn (X:Cx) (C:Addr) (H':Hp):Prop:=∀ (pins:List (Addr × Obj)) (σ:L2.St) (H:Hp) (s:Shared) (a:Addr) (s':Shared),Inv X pins σ H s→s'.os=s.os→AllBare s'.gens→Flies X.prog X.w X.stack H s.heap H' a (.ref C) s'.heap→X.xe (.ref a) s'
def Qn (X:Cx):XK:=fun cls _ H'=>∃ C,cls=.ref C∧XOn X C H'
theorem sJ {X:Cx}:u5 (CX1 X.prog X.w) X (Qn X):=fun pins σ H s e s' I ⟨a,C,H',ee,os,bare,fl,C',ec,h⟩=>by
 cases ec
 subst ee
 exact h pins σ H s a s' I os bare fl
def Rz (X:Cx) (C:Addr):Prop:=∀ H',Same (Zx X) H'→XOk X C H'∧XOn X C H'
section
variable {P:Program} {w:World} {K:PySem.W.Frag} {mg:Str→Option Value} {base:Heap} {N:List Str} {qual:Str} {scope:Scope} {f C:Addr} {cd:Value} {A:Around} {outer:List Env} {s:Shared} {H H1:Hp} {E:XK}
theorem jL (h:∀ H',Same H H'→E (.ref C) none H'):Rz (yu (CX1 P w) P w K mg base N qual scope f cd A outer s H E) C:=fun H' z=>by
 rw [jq] at z
 refine ⟨Yz (h H' z),fun pins σ H2 s2 a s' I os bare fl=>?_⟩
 exact Ub (X:=yu (CX1 P w) P w K mg base N qual scope f cd A outer s H E) I rfl rfl rfl fl fun h' fl'=>⟨a,C,H',rfl,os.trans I.os,bare,fl',h H' z⟩
end
abbrev yn:=List Dt→(Dt→Prop)→(Addr→Prop)→Prop
def uj (K:PySem.W.Frag) (S:yn):Sp:=fun vs H Q E=>∃ (W:Vw) (ds:List Dt) (Qd:Dt→Prop) (Ed:Addr→Prop),W.h=H∧AllIs K W.g ds vs∧S ds Qd Ed∧(∀ d v W',Le W W'→Is K W'.g d v→Qd d→Q v W'.h)∧∀ C H',Same W.h H'→Ed C→E (.ref C) none H'
def yU (K:PySem.W.Frag) (S:yn):Sp:=fun vs H Q E=>∃ (W:Vw) (ds:List Dt) (Qd:Dt→Prop) (Ed:Addr→Prop),W.h=H∧AllIs K W.g ds vs∧S ds Qd Ed∧
 (∀ es p xs W',Le W W'→W.h p=none→W'.h p=some (.lst xs)→W'.g p=none→AllIs K W'.g es xs→Qd (.lst es)→Q (.ref p) W'.h)∧∀ C H',Same W.h H'→Ed C→E (.ref C) none H'
structure DOkX (P:Program) (w:World) (K:PySem.W.Frag) (mg:Str→Option Value) (base:Heap) (n:Nat) (x:Str) (S:yn):Prop where
 ex:∃ f fd ps,mg x=some (.ref f)∧PySem.W.keepIn K (.ref f)=true∧Binds K fd ps []∧FnOk P w K mg base (CX1 P w) n f fd ps (uj K S)
structure FOkX (P:Program) (w:World) (K:PySem.W.Frag) (mg:Str→Option Value) (base:Heap) (n:Nat) (x:Str) (S:yn):Prop where
 ex:∃ f fd ps,mg x=some (.ref f)∧PySem.W.keepIn K (.ref f)=true∧Binds K fd ps []∧FnOk P w K mg base (CX1 P w) n f fd ps (yU K S)
section
variable {P:Program} {w:World} {K:PySem.W.Frag} {mg:Str→Option Value} {base:Heap}
theorem Fun.okX {CX:CXT} {x qual:Str} {st:Stmt} {f:Addr} {fd:FuncData} {N ps:List Str} {k:Nat} {sp:Sp} (F:Fun K x qual st f fd) (S:zh N ps (defScope st)) (len:∀ vs H Q E,sp vs H Q E→vs.length=ps.length)
  (hbody:∀ (cdv:Value) (A:Around) (outer:List Env) (s:Shared) (H:Hp) (vs:List V) (Q:VK) (E:XK),Room k (A.deeper (envOfC qual (defScope st) s.heap.objs.size f cdv))→sp vs H Q E→
   ∃ t,PSs (yu CX P w K mg base N qual (defScope st) f cdv A outer s H E) (defBody st) t∧t { nx:=fun _ H'=>Q .non H',rt:=Q } (start N vs) H):FnOk P w K mg base CX (k+1) f fd ps sp:=by
 obtain ⟨oc,od,kV,doc,pm,an,cdv,ct,osl,rfl,lk,hcd⟩:=F.ex
 exact Yi lk hcd S len fun A outer s H vs Q E hr h=>hbody cdv A outer s H vs Q E hr h
theorem Tp {x qual:Str} {st:Stmt} {f:Addr} {fd:FuncData} {N ps:List Str} {k:Nat} {S:yn} (F:Fun K x qual st f fd) (sc:zh N ps (defScope st)) (len:∀ ds Q R,S ds Q R→ds.length=ps.length)
  (hbody:∀ (cdv:Value) (A:Around) (outer:List Env) (s:Shared) (H:Hp) (E:XK),Room k (A.deeper (envOfC qual (defScope st) s.heap.objs.size f cdv))→∀ (ds:List Dt) (Q:Dt→Prop) (R:Addr→Prop),S ds Q R→
   (∀ C,R C→Rz (yu (CX1 P w) P w K mg base N qual (defScope st) f cdv A outer s H E) C)→
   ∃ t,DSs (yu (CX1 P w) P w K mg base N qual (defScope st) f cdv A outer s H E) .d (defBody st) t∧t { nx:=fun _=>Q .non,rt:=Q } (ye N.length ds)):FnOk P w K mg base (CX1 P w) (k+1) f fd ps (uj K S):=by
 refine Fun.okX F sc (fun vs H Q E h=>?_) (fun cdv A outer s H vs Q E hr h=>?_)
 ·obtain ⟨W,ds,Qd,Ed,_,ia,hS,_⟩:=h
  rw [← ia.length]
  exact len ds Qd Ed hS
 obtain ⟨W,ds,Qd,Ed,rfl,ia,hS,kk,ke⟩:=h
 obtain ⟨t,⟨ts,p,l⟩,ht⟩:=hbody cdv A outer s W.h E hr ds Qd Ed hS fun C hC=>jL fun H' z=>ke C H' z hC
 refine ⟨ts,p,l W W.g (ye N.length ds) (start N vs) W { nx:=fun _=>Qd .non,rt:=Qd } _ (xO ia (ul (Nat.succ_ne_self _))) ⟨fun ρ σ W' a q=>kk .non .non W' a.le (is_non.mpr rfl) q,fun d v W' s' i' q=>kk d v W' s' i' q,fun _ _ _ _ q=>q.elim,fun _ _ _ _ q=>q.elim⟩ ht⟩
theorem io {x qual:Str} {st:Stmt} {f:Addr} {fd:FuncData} {N ps:List Str} {k:Nat} {S:yn} (F:Fun K x qual st f fd) (sc:zh N ps (defScope st)) (len:∀ ds Q R,S ds Q R→ds.length=ps.length)
  (hbody:∀ (cdv:Value) (A:Around) (outer:List Env) (s:Shared) (H:Hp) (E:XK),Room k (A.deeper (envOfC qual (defScope st) s.heap.objs.size f cdv))→∀ (ds:List Dt) (Q:Dt→Prop) (R:Addr→Prop),S ds Q R→
   (∀ C,R C→Rz (yu (CX1 P w) P w K mg base N qual (defScope st) f cdv A outer s H E) C)→
   ∃ t,DSs (yu (CX1 P w) P w K mg base N qual (defScope st) f cdv A outer s H E) .l (defBody st) t∧t { nx:=fun _=>False,rt:=Q } (ye N.length ds)):FnOk P w K mg base (CX1 P w) (k+1) f fd ps (yU K S):=by
 refine Fun.okX F sc (fun vs H Q E h=>?_) (fun cdv A outer s H vs Q E hr h=>?_)
 ·obtain ⟨W,ds,Qd,Ed,_,ia,hS,_⟩:=h
  rw [← ia.length]
  exact len ds Qd Ed hS
 obtain ⟨W,ds,Qd,Ed,rfl,ia,hS,kk,ke⟩:=h
 obtain ⟨t,⟨ts,p,l⟩,ht⟩:=hbody cdv A outer s W.h E hr ds Qd Ed hS fun C hC=>jL fun H' z=>ke C H' z hC
 exact ⟨ts,p,l W W.g (ye N.length ds) (start N vs) W { nx:=fun _=>False,rt:=Qd } _ (xO ia (ul (Nat.succ_ne_self _))) ⟨fun ρ σ W' a q=>q.elim,fun d v W' s' ⟨es,p,xs,e1,e2,e3,e4,e5,e6⟩ q=>by subst e1; subst e2; exact kk es p xs W' s' e3 e4 e5 e6 q,fun _ _ _ _ q=>q.elim,fun _ _ _ _ q=>q.elim⟩ ht⟩
theorem DOkX.mk' {x qual:Str} {st:Stmt} {f:Addr} {fd:FuncData} {ps:List Str} {n:Nat} {S:yn} (F:Fun K x qual st f fd) (hm:mg x=some (.ref f)) (hb:Binds K fd ps []) (h:FnOk P w K mg base (CX1 P w) n f fd ps (uj K S)):DOkX P w K mg base n x S:=
 ⟨f,fd,ps,hm,F.kp,hb,h⟩
theorem FOkX.mk' {x qual:Str} {st:Stmt} {f:Addr} {fd:FuncData} {ps:List Str} {n:Nat} {S:yn} (F:Fun K x qual st f fd) (hm:mg x=some (.ref f)) (hb:Binds K fd ps []) (h:FnOk P w K mg base (CX1 P w) n f fd ps (yU K S)):FOkX P w K mg base n x S:=
 ⟨f,fd,ps,hm,F.kp,hb,h⟩
theorem DOkX.mono {x:Str} {m n:Nat} {S:yn} (h:DOkX P w K mg base m x S) (hl:m≤n):DOkX P w K mg base n x S:=
 let ⟨f,fd,ps,h1,h2,h3,h4⟩:=h.ex; ⟨f,fd,ps,h1,h2,h3,h4.mono hl⟩
theorem FOkX.mono {x:Str} {m n:Nat} {S:yn} (h:FOkX P w K mg base m x S) (hl:m≤n):FOkX P w K mg base n x S:=
 let ⟨f,fd,ps,h1,h2,h3,h4⟩:=h.ex; ⟨f,fd,ps,h1,h2,h3,h4.mono hl⟩
end
section
variable {X:Cx} {e a:Expr} {es:List Expr} {t:DTA} {ta:DTE} {n:Nat} {x y:Str} {S:yn} {p pos np cpos:Pos} {fr:Fr} {C:Addr}
theorem lu {F:Hp} {W:Vw} {ρ:DS} {σ:L2.St} {K:PySem.W.Frag} (r:Rl K Z F W ρ σ):Same Z W.h:=r.z.trans r.fr
def mO (X:Cx) (S:yn) (t:DTA):DTE:=fun ρ Q=>t ρ fun ds=>S ds Q (Rz X)
theorem rh (G:DOkX X.prog X.w X.K X.mg X.base n x S) (hr:Room n X.A) (hg:Gl X x) (ha:DA X (e::es) t) (hdb:(x == ("__debug__":Str))=false:=by decide)
  (he:starEach (e::es) X.env=(false,eval e X.env)::starEach es X.env:=by rfl) (hpl:(backTo pos (starEach es X.env)).any (·.1)=false:=by rfl):DE X (.Call (.Name x p) (e::es) [] pos) (mO X S t):=by
 obtain ⟨f,fd,ps,hm,hk,hb,F⟩:=G.ex
 obtain ⟨te,p1,l1⟩:=ha
 refine ⟨_,x6 F hr hg hm hk hb .nil sJ p1 hdb he hpl,fun ρ σ H Q r h R k=>l1 ρ σ H _ r h _ fun ds vs H1 s1 i1 q1=>?_⟩
 rw [List.append_nil]
 exact ⟨H1,ds,Q,Rz X,rfl,i1,q1,fun d v H2 s2 i2 q2=>k d v H2 (s1.trans s2) i2 q2,fun C H' s' hC=>⟨C,rfl,(hC H' (((lu r).trans s1.h).trans s')).2⟩⟩
theorem wW (G:FOkX X.prog X.w X.K X.mg X.base n x S) (hr:Room n X.A) (hg:Gl X x) (ha:DA X (e::es) t) (hdb:(x == ("__debug__":Str))=false:=by decide)
  (he:starEach (e::es) X.env=(false,eval e X.env)::starEach es X.env:=by rfl) (hpl:(backTo pos (starEach es X.env)).any (·.1)=false:=by rfl):DF X (.Call (.Name x p) (e::es) [] pos) (mO X S t):=by
 obtain ⟨f,fd,ps,hm,hk,hb,F⟩:=G.ex
 obtain ⟨te,p1,l1⟩:=ha
 refine ⟨_,x6 F hr hg hm hk hb .nil sJ p1 hdb he hpl,fun ρ σ H Q r h R k=>l1 ρ σ H _ r h _ fun ds vs H1 s1 i1 q1=>?_⟩
 rw [List.append_nil]
 exact ⟨H1,ds,Q,Rz X,rfl,i1,q1,fun es p xs H2 s2 h0 h1 h2 i2 q2=>k es p xs H2 (s1.trans s2) (s1.h.free h0) h1 h2 i2 q2,fun C H' s' hC=>⟨C,rfl,(hC H' (((lu r).trans s1.h).trans s')).2⟩⟩
def Ur (X:Cx) (C:Addr) (ta:DTE):DTS:=fun _ ρ=>ta ρ fun _=>Rz X C
theorem rd (hc:X.calm=true) (hg:Gl X x) (hm:X.mg x=some (.ref C)) (hC:ExcK X.K C) (ha:DE X a ta) (hdb:(x == ("__debug__":Str))=false:=by decide)
  (he:starEach [a] X.env=(false,eval a X.env)::starEach [] X.env:=by rfl):DSt X fr (.Raise (some (.Call (.Name x np) [a] [] cpos)) none pos) (Ur X C ta):=by
 obtain ⟨te,p1,l1⟩:=ha
 exact ⟨_,jW hc hg hm hC p1 hdb he,fun W0 G ρ σ W D D' at_ s h=>l1 ρ σ W _ at_.rl h _ fun d v W1 s1 i1 q1=>(q1 W1.h ((lu at_.rl).trans s1.h)).1⟩
def lB (K:PySem.W.Frag) (Z:Hp) (fr:Fr) (t:DTS):TS:=fun D' σ H=>∃ (W0:Vw) (G:Hp) (ρ:DS) (W:Vw) (D:DEnds),W.h=H∧At K Z W0 G W ρ σ∧Sim K Z fr W0 G D D'∧t D ρ
theorem DSs.up {sts:List Stmt} {t:DTS} (h:DSs X fr sts t):PSs X sts (lB X.K (Zx X) fr t):=by
 obtain ⟨ts,p,l⟩:=h
 intro pins s σ H D' I q
 obtain ⟨W0,G,ρ,W,D,rfl,a,sm,ht⟩:=q
 exact p pins s σ W.h D' I (l W0 G ρ σ W D D' a sm ht)
def Vw.at (W:Vw) (H':Hp) (s:Same W.h H'):Vw:=⟨W.g,H',W.sub.trans s⟩
theorem Yd {W:Vw} {H':Hp} (s:Same W.h H'):Le W (W.at H' s):=⟨Same.refl _,s,fun _ _ h=>h⟩
variable {b₀:Stmt} {suite:List Stmt} {th:DTS} {c:Value} {py hpos epos tpos:Pos}
theorem cp {f:Addr} {fd:FuncData} {ps:List Str} {sp:Sp} {te:TA} (F:FnOk X.prog X.w X.K X.mg X.base (CX1 X.prog X.w) n f fd ps sp) (hr:Room n X.A) (hg:Gl X x) (hm:X.mg x=some (.ref f)) (hk:PySem.W.keepIn X.K (.ref f)=true) (hb:Binds X.K fd ps []) (ha:PA X.nox (e::es) te)
  (hs:swapsWith (.Call (.Name x p) (e::es) [] pos) none epos.line X.env=pure false:=by rfl) (hdb:(x == ("__debug__":Str))=false:=by decide)
  (he:starEach (e::es) X.env=(false,eval e X.env)::starEach es X.env:=by rfl) (hpl:(backTo pos (starEach es X.env)).any (·.1)=false:=by rfl):
  PB X [.Expr (.Call (.Name x p) (e::es) [] pos) epos] (fun nx E σ H=>te σ H fun vs H1=>sp vs H1 (fun _ H2=>nx σ H2) E):=by
 intro pins s σ H nx E I h
 refine wpAny_execs_cons (wpAny_Expr_any (thn (e9 F hr hg hm hk hb ha I h hdb he hpl) fun v s1 ⟨x,H1,I1,r1,q1⟩=>?_) I.quiet hs)
 exact wpAny_execs_nil ⟨rfl,σ,H1,I1,q1⟩
end
theorem Rl.unset {K:PySem.W.Frag} {F:Hp} {W:Vw} {ρ:DS} {σ:L2.St} (r:Rl K Z F W ρ σ) (j:Nat):Rl K Z F W (ρ.set j .none) (σ.set j none):=by
 refine ⟨by rw [List.length_set,List.length_set]; exact r.len,fun i d q=>?_,fun i ds q=>?_,fun i k ds es hik q1 q2=>?_,r.fr,r.z,fun i c ds q=>?_⟩
 ·rcases zl q with ⟨_,_,e1⟩ | ⟨hij,q⟩
  ·cases e1
  ·rw [List.getElem?_set_ne hij]; exact r.at_ i d q
 ·rcases zl q with ⟨_,_,e1⟩ | ⟨hij,q⟩
  ·cases e1
  ·rw [List.getElem?_set_ne hij]; exact r.ow i ds q
 ·rcases zl q1 with ⟨_,_,e1⟩ | ⟨h1,q1⟩
  ·cases e1
  rcases zl q2 with ⟨_,_,e1⟩ | ⟨h2,q2⟩
  ·cases e1
  rw [List.getElem?_set_ne h1,List.getElem?_set_ne h2]; exact r.ne i k ds es hik q1 q2
 ·rcases zl q with ⟨_,_,e1⟩ | ⟨hij,q⟩
  ·cases e1
  obtain ⟨⟨ys',g1,g2⟩,k1,k2⟩:=r.ar i c ds q
  refine ⟨⟨ys',by rw [List.getElem?_set_ne hij]; exact g1,g2⟩,fun k es' q'=>?_,fun k c' es' q'=>?_⟩
  ·rcases zl q' with ⟨_,_,e1⟩ | ⟨hik,q'⟩
   ·cases e1
   ·rw [List.getElem?_set_ne hik]; exact k1 k es' q'
  ·rcases zl q' with ⟨_,_,e1⟩ | ⟨hik,q'⟩
   ·cases e1
   exact k2 k c' es' q'
theorem At.unset {K:PySem.W.Frag} {W0 W:Vw} {G:Hp} {ρ:DS} {σ:L2.St} (a:At K Z W0 G W ρ σ) (j:Nat):At K Z W0 G W (ρ.set j .none) (σ.set j none):=⟨a.le,a.gs,a.rl.unset j⟩
abbrev DEnds.off (D:DEnds) (j:Nat):DEnds:=⟨fun ρ=>D.nx (ρ.set j .none),D.rt,fun ρ=>D.bk (ρ.set j .none),fun ρ=>D.ct (ρ.set j .none)⟩
theorem Sim.off {K:PySem.W.Frag} {fr:Fr} {W0:Vw} {G:Hp} {D:DEnds} {D':Ends} (s:Sim K Z fr W0 G D D') (j:Nat):Sim K Z fr W0 G (D.off j) (D'.off j):=
 ⟨fun ρ σ W' a q=>s.nx _ _ W' (a.unset j) q,s.tl,fun ρ σ W' a q=>s.bk _ _ W' (a.unset j) q,fun ρ σ W' a q=>s.ct _ _ W' (a.unset j) q⟩
section
variable {X:Cx} {e:Expr} {es:List Expr} {t:DTA} {n:Nat} {x y m:Str} {i j:Nat} {S:yn} {p pos py hpos epos tpos:Pos} {fr:Fr} {b₀:Stmt} {suite:List Stmt} {th:DTS} {c:Value}
theorem ig {f:Addr} {fd:FuncData} {ps:List Str} {sp:Sp} {te:TA} (hN:X.N.Nodup) (hi:X.N[i]? = some m) (hx:Loc X.env.scope m) (F:FnOk X.prog X.w X.K X.mg X.base (CX1 X.prog X.w) n f fd ps sp) (hr:Room n X.A) (hg:Gl X x) (hm:X.mg x=some (.ref f)) (hk:PySem.W.keepIn X.K (.ref f)=true) (hb:Binds X.K fd ps []) (ha:PA X.nox (e::es) te)
  (hs:swapsWith (.Call (.Name x p) (e::es) [] pos) (some (.Name m py)) epos.line X.env=pure false:=by rfl) (hdb:(x == ("__debug__":Str))=false:=by decide)
  (he:starEach (e::es) X.env=(false,eval e X.env)::starEach es X.env:=by rfl) (hpl:(backTo pos (starEach es X.env)).any (·.1)=false:=by rfl) (hf:X.fn m=true∨X.env.scope.names.lookup m=some .local:=by first | exact .inl rfl | exact .inr rfl | assumption):
  PB X [.Assign [.Name m py] (.Call (.Name x p) (e::es) [] pos) epos] (fun nx E σ H=>te σ H fun vs H1=>sp vs H1 (fun v H2=>nx (σ.set i (some v)) H2) E):=by
 intro pins s σ H nx E I h
 refine wpAny_execs_cons (wpAny_Assign_Name (thn (e9 F hr hg hm hk hb ha I h hdb he hpl) fun v s1 ⟨y,H1,I1,r1,q1⟩=>?_) hs)
 exact xI I1 hN hi hx r1 (fun s2 I2=>wpAny_execs_nil ⟨rfl,_,H1,I2,q1⟩) hf
def Up (K:PySem.W.Frag) (c:Value) (j:Nat) (S:yn) (t:DTA) (th:DTS):DTS:=fun D ρ=>t ρ fun ds=>S ds (fun _=>D.nx ρ) fun C=>PySem.W.exmOne K (.ref C) c=some true∧th (D.off j) (ρ.set j (.some (.exc C)))
def eP (K:PySem.W.Frag) (c:Value) (i:Nat) (S:yn) (t:DTA) (th:DTS):DTS:=fun D ρ=>t ρ fun ds=>S ds (fun d=>∃ es,d=.lst es∧D.nx (ρ.set i (.own es))) fun C=>PySem.W.exmOne K (.ref C) c=some true∧th D ρ
def mL (K:PySem.W.Frag) (c:Value) (i j:Nat) (S:yn) (t:DTA) (th:DTS):DTS:=fun D ρ=>t ρ fun ds=>S ds (fun d=>∃ es,d=.lst es∧D.nx (ρ.set i (.own es))) fun C=>PySem.W.exmOne K (.ref C) c=some true∧th (D.off j) (ρ.set j (.some (.exc C)))
theorem df {K:PySem.W.Frag} {W0 W1:Vw} {G H':Hp} {ρ:DS} {σ:L2.St} {C a:Addr} (at_:At K Z W0 G W1 ρ σ) (s':Same W1.h H') (hn:H' a=none) (j:Nat):
  At K Z W0 G ((W1.at H' s').new a (.ext (excAt a C))) (ρ.set j (.some (.exc C))) (σ.set j (some (.ref a))):=
 ((at_.step (Yd s')).step (wd (W:=W1.at H' s') hn _)).set j (is_exc.mpr ⟨a,rfl,zt⟩)
theorem Sx (hstk:X.stack=X.env::X.outer) (hf:X.env.frame=some X.env.locals) (hN:X.N.Nodup) (hj:X.N[j]? = some m) (hmj:X.env.scope.names.lookup m=some .local) (G:DOkX X.prog X.w X.K X.mg X.base n x S) (hr:Room n X.A) (hg:Gl X x) (ha:DA X.nox (e::es) t) (hh:∀ a,DSs (X.inH a) fr (b₀::suite) th) (hgy:Gl X y) (hmy:X.mg y=some c)
  (hs:swapsWith (.Call (.Name x p) (e::es) [] pos) none epos.line X.env=pure false:=by rfl) (hdb:(x == ("__debug__":Str))=false:=by decide) (hdy:(y == ("__debug__":Str))=false:=by decide)
  (he:starEach (e::es) X.env=(false,eval e X.env)::starEach es X.env:=by rfl) (hpl:(backTo pos (starEach es X.env)).any (·.1)=false:=by rfl):
  DSt X fr (.Try [.Expr (.Call (.Name x p) (e::es) [] pos) epos] [.ExceptHandler (some (.Name y py)) (some m) (b₀::suite) hpos] [] [] tpos) (Up X.K c j S t th):=by
 obtain ⟨f,fd,ps,hm,hk,hb,F⟩:=G.ex
 obtain ⟨te,p1,l1⟩:=ha
 refine ⟨_,oC (th:=lB X.K (Zx X) fr th) hstk hf hN hj hmj (cp F hr hg hm hk hb p1 hs hdb he hpl) (fun a=>(hh a).up) hgy hmy hdy,fun W0 G ρ σ W D D' at_ s h=>?_⟩
 refine l1 ρ σ W _ at_.rl h _ fun ds vs W1 s1 i1 q1=>⟨W1,ds,_,_,rfl,i1,q1,fun d v W2 s2 i2 q2=>s.nx ρ σ W2 ((at_.step s1).step s2) q2,fun C H' s' ⟨e1,e2⟩=>⟨e1,fun a C' ec hn=>?_⟩⟩
 cases ec
 exact ⟨W0,G,_,_,_,rfl,df (at_.step s1) s' hn j,s.off j,e2⟩
theorem Ym {m2:Str} {pm:Pos} (hstk:X.stack=X.env::X.outer) (hf:X.env.frame=some X.env.locals) (hN:X.N.Nodup) (hi:X.N[i]? = some m) (hx:Loc X.env.scope m) (G:FOkX X.prog X.w X.K X.mg X.base n x S) (hr:Room n X.A) (hg:Gl X x) (ha:DA X.nox (e::es) t) (hh:∀ a,DSs (X.inH a) fr (b₀::suite) th) (hgy:Gl X y) (hmy:X.mg y=some c)
  (hs:swapsWith (.Call (.Name x p) (e::es) [] pos) (some (.Name m pm)) epos.line X.env=pure false:=by rfl) (hdb:(x == ("__debug__":Str))=false:=by decide) (hdy:(y == ("__debug__":Str))=false:=by decide)
  (he:starEach (e::es) X.env=(false,eval e X.env)::starEach es X.env:=by rfl) (hpl:(backTo pos (starEach es X.env)).any (·.1)=false:=by rfl) (hfm:X.fn m=true∨X.env.scope.names.lookup m=some .local:=by first | exact .inl rfl | exact .inr rfl | assumption):
  DSt X fr (.Try [.Assign [.Name m pm] (.Call (.Name x p) (e::es) [] pos) epos] [.ExceptHandler (some (.Name y py)) none (b₀::suite) hpos] [] [] tpos) (eP X.K c i S t th):=by
 obtain ⟨f,fd,ps,hm,hk,hb,F⟩:=G.ex
 obtain ⟨te,p1,l1⟩:=ha
 refine ⟨_,YT (th:=lB X.K (Zx X) fr th) hstk hf (ig hN hi hx F hr hg hm hk hb p1 hs hdb he hpl hfm) (fun a=>(hh a).up) hgy hmy hdy,fun W0 G ρ σ W D D' at_ s h=>?_⟩
 exact l1 ρ σ W _ at_.rl h _ fun ds vs W1 s1 i1 q1=>⟨W1,ds,_,_,rfl,i1,q1,fun es q xs W2 s2 h0 h1 h2 i2 ⟨es',ee,q2⟩=>by cases ee; exact s.nx _ _ W2 ((at_.step s1).own s2 i h0 h1 h2 i2) q2,fun C H' s' ⟨e1,e2⟩=>⟨e1,W0,G,ρ,W1.at H' s',D,rfl,(at_.step s1).step (Yd s'),s,e2⟩⟩
theorem rZ {m2:Str} {pm:Pos} (hstk:X.stack=X.env::X.outer) (hf:X.env.frame=some X.env.locals) (hN:X.N.Nodup) (hi:X.N[i]? = some m) (hx:Loc X.env.scope m) (hj:X.N[j]? = some m2) (hmj:X.env.scope.names.lookup m2=some .local) (G:FOkX X.prog X.w X.K X.mg X.base n x S) (hr:Room n X.A) (hg:Gl X x) (ha:DA X.nox (e::es) t) (hh:∀ a,DSs (X.inH a) fr (b₀::suite) th) (hgy:Gl X y) (hmy:X.mg y=some c)
  (hs:swapsWith (.Call (.Name x p) (e::es) [] pos) (some (.Name m pm)) epos.line X.env=pure false:=by rfl) (hdb:(x == ("__debug__":Str))=false:=by decide) (hdy:(y == ("__debug__":Str))=false:=by decide)
  (he:starEach (e::es) X.env=(false,eval e X.env)::starEach es X.env:=by rfl) (hpl:(backTo pos (starEach es X.env)).any (·.1)=false:=by rfl) (hfm:X.fn m=true∨X.env.scope.names.lookup m=some .local:=by first | exact .inl rfl | exact .inr rfl | assumption):
  DSt X fr (.Try [.Assign [.Name m pm] (.Call (.Name x p) (e::es) [] pos) epos] [.ExceptHandler (some (.Name y py)) (some m2) (b₀::suite) hpos] [] [] tpos) (mL X.K c i j S t th):=by
 obtain ⟨f,fd,ps,hm,hk,hb,F⟩:=G.ex
 obtain ⟨te,p1,l1⟩:=ha
 refine ⟨_,oC (th:=lB X.K (Zx X) fr th) hstk hf hN hj hmj (ig hN hi hx F hr hg hm hk hb p1 hs hdb he hpl hfm) (fun a=>(hh a).up) hgy hmy hdy,fun W0 G ρ σ W D D' at_ s h=>?_⟩
 refine l1 ρ σ W _ at_.rl h _ fun ds vs W1 s1 i1 q1=>⟨W1,ds,_,_,rfl,i1,q1,fun es q xs W2 s2 h0 h1 h2 i2 ⟨es',ee,q2⟩=>by cases ee; exact s.nx _ _ W2 ((at_.step s1).own s2 i h0 h1 h2 i2) q2,fun C H' s' ⟨e1,e2⟩=>⟨e1,fun a C' ec hn=>?_⟩⟩
 cases ec
 exact ⟨W0,G,_,_,_,rfl,df (at_.step s1) s' hn j,s.off j,e2⟩
theorem qy:CallR X (.builtin "isinstance") (fun xs H Q=>∃ a C vc c b,xs=[.ref a,vc]∧(∀ u,RelV vc u→u=c)∧H a=some (.ext (excAt a C))∧qF X.K C∧PySem.W.kitOne X.K (.ref C) c=some b∧Q (.bl b) H):=by
 intro pins s σ H xs us Q I r h
 obtain ⟨a,C,vc,c,b,rfl,hvc,ha,O,hk,q⟩:=h
 cases r with
 | cons r1 r2=>
  cases r2 with
  | cons r3 r4=>
   cases r4
   cases r1
   cases hvc _ r3
   exact PySem.W.kia_one (fD O) I.kIn (I.hok a _ ha).1 hk (fun z=>nomatch z) fun tk=>⟨.bl b,H,I.tok _,rfl,q⟩
def Yq (K:PySem.W.Frag) (c:Value) (ta:DTE):DTE:=fun ρ Q=>ta ρ fun d=>∃ C b,d=.exc C∧qF K C∧PySem.W.kitOne K (.ref C) c=some b∧Q (.bl b)
theorem yq {a:Expr} {ta:DTE} {p0 p':Pos} {D:Addr} (hm:X.mg "isinstance"=none) (hmc:X.mg y=some (.ref D)) (ha:DE X a ta)
  (hg:Gl X "isinstance":=by rfl) (hgc:Gl X y:=by rfl) (hdy:(y == ("__debug__":Str))=false:=by decide)
  (hs:starEach [a,.Name y p'] X.env=(false,eval a X.env)::starEach [.Name y p'] X.env:=by rfl) (hs2:starEach [.Name y p'] X.env=(false,eval (.Name y p') X.env)::starEach [] X.env:=by rfl)
  (hpl:(backTo pos (starEach [.Name y p'] X.env)).any (·.1)=false:=by rfl):
  DE X (.Call (.Name "isinstance" p0) [a,.Name y p'] [] pos) (Yq X.K (.ref D) ta):=by
 obtain ⟨te,p1,l1⟩:=ha
 have pc:PE X (.Name y p') (tC (.ref D)):=ly hgc hmc rfl hdy
 refine ⟨_,yH qy hg hm boot_isinstance (zC p1 (zC pc z4 hs2) hs) (by decide) (by decide) hs hpl,fun ρ σ H Q r h R k=>l1 ρ σ H _ r h _ fun d v H1 s1 i1 ⟨C,b,ed,ok,e,q⟩=>?_⟩
 subst ed
 obtain ⟨z,rfl,hz⟩:=is_exc.mp i1
 exact ⟨z,C,_,_,b,rfl,fun u hu=>hu,H1.sub _ _ hz,ok,e,k _ _ H1 s1 (is_bl.mpr rfl) q⟩
theorem eO {a:Expr} {ta:DTE} {p0 p':Pos} (hm:X.mg "isinstance"=none) (hmc:X.mg "ValueError"=none) (ha:DE X a ta)
  (hg:Gl X "isinstance":=by rfl) (hgc:Gl X "ValueError":=by rfl)
  (hs:starEach [a,.Name "ValueError" p'] X.env=(false,eval a X.env)::starEach [.Name "ValueError" p'] X.env:=by rfl) (hs2:starEach [.Name "ValueError" p'] X.env=(false,eval (.Name "ValueError" p') X.env)::starEach [] X.env:=by rfl)
  (hpl:(backTo pos (starEach [.Name "ValueError" p'] X.env)).any (·.1)=false:=by rfl):
  DE X (.Call (.Name "isinstance" p0) [a,.Name "ValueError" p'] [] pos) (Yq X.K (.type "ValueError") ta):=by
 obtain ⟨te,p1,l1⟩:=ha
 have pc:PE X (.Name "ValueError" p') (tC (.ty "ValueError")):=fun pins s σ H Q I h=>xG I hgc hmc (by decide +kernel) ⟨.ty "ValueError",H,I,rfl,h⟩
 refine ⟨_,yH qy hg hm boot_isinstance (zC p1 (zC pc z4 hs2) hs) (by decide) (by decide) hs hpl,fun ρ σ H Q r h R k=>l1 ρ σ H _ r h _ fun d v H1 s1 i1 ⟨C,b,ed,ok,e,q⟩=>?_⟩
 subst ed
 obtain ⟨z,rfl,hz⟩:=is_exc.mp i1
 exact ⟨z,C,_,_,b,rfl,fun u hu=>hu,H1.sub _ _ hz,ok,e,k _ _ H1 s1 (is_bl.mpr rfl) q⟩
end
end OD
namespace OD
variable {Z:Hp}
open PySem PySem.Spec PyProof.Rows L2
def zG (X:Cx) (scope:Scope) (cl:List (Str × Addr)) (bs caps:List Str) (C:Addr) (s:Shared) (H:Hp) (fp:List Addr) (pins:List (Addr × Obj)):Cx where
 prog:=X.prog
 w:=X.w
 K:=X.K
 mg:=X.mg
 base:=X.base
 A:=X.A
 N:=bs++caps
 s₀:=s
 H₀:=H
 env:=compEnvC scope cl C X.env
 outer:=X.stack
 stack:=X.stack
 ex:=fp
 fn:=fun y=>bs.contains y
 calm:=X.calm
 pn:=X.pn++pins
 xe:=fun _ _=>False
structure sf (X:Cx) (scope:Scope) (cl:List (Str × Addr)) (bs caps:List Str) (js:List Nat):Prop where
 clos:closureFor scope X.env=pure cl
 sub:∀ y c,cl.lookup y=some c→X.env.cells.lookup y=some c
 has:∀ y,((relabel scope X.env).names.lookup y=some .cell∨(relabel scope X.env).names.lookup y=some .free)→∃ c,cl.lookup y=some c
 nox:∀ x∈bs,cl.lookup x=none
 cell:∀ y∈scope.names,y.2≠.cell
 kind:scope.kind=.function
 names:∀ y∈scope.names,y.2=.local→scope.names.lookup y.1=some .local
 loc:∀ x∈bs,scope.names.lookup x=some .local
 nd:(bs++caps).Nodup
 len:js.length=caps.length
 at_:∀ (k:Nat) y,caps[k]? = some y→∃ j,js[k]? = some j∧X.N[j]? = some y
 cap:∀ y∈caps,(relabel scope X.env).names.lookup y=some .cell∧X.env.scope.names.lookup y=some .cell
theorem wY {prog:Program} {w:World} {A:Around} {s:Shared} {elt target iter:Expr} {ifs:List Expr} {scope:Scope} {pos:Pos} {it acc:Value} {env:Env} {R:Result→Shared→Prop} (I:Nat→Shared→Prop)
  (turn:∀ n s,I n s→wpAny (model prog w) A (pyNext it) (fun r s₁=>match r with
   | none=>R (.ok .next) s₁
   | some v=>wpAny (model prog w) A (letOwnedTupleGo target it v) (fun _ s₁'=>wpAny (model prog w) A (assign target env v) (fun _ s₂=>
     wpAny (model prog w) A (forIn ifs true fun c r=>if r=true then do let ok ← isTrue c env (eval c env); pure (ForInStep.yield ok) else pure (ForInStep.yield r)) (fun ok s₃=>
      if ok=true then wpAny (model prog w) A (eval elt env) (fun x s₄=>
       wpAny (model prog w) A (call (.builtin "list.append") [acc,x]) (fun _ s₅=>∃ m,m<n∧I m s₅) (notedBy (model prog w) A env fun e s'=>R (.error e) s') s₄) (notedBy (model prog w) A env fun e s'=>R (.error e) s') s₃
      else ∃ m,m<n∧I m s₃) (notedBy (model prog w) A env fun e s'=>R (.error e) s') s₂)
     (notedBy (model prog w) A env fun e s'=>R (.error e) s') s₁') (notedBy (model prog w) A env fun e s'=>R (.error e) s') s₁) (notedBy (model prog w) A env fun e s'=>R (.error e) s') s)
  (n:Nat) (h:I n s):codeAny (model prog w) A (.compLoop (.ListComp elt [⟨target,iter,ifs,0⟩] scope pos) 0 it acc env) R s:=by
 refine codeAny_loop rfl I (fun n s hI=>?_) n h
 show wpAny _ A ((compTurn (.ListComp elt [⟨target,iter,ifs,0⟩] scope pos) 0 it acc env).onRaise (fun x=>do noteFrame x env; theTreesLotGoes x)) _ _ s
 refine wpAny_noted ?_
 rw [compTurn_list]
 refine wpAny_bind (wpAny_standAt (wpAny_bind (wpAny_mono (turn n s hI) (fun r s₁ h₁=>?_) fun _ _ h'=>h')))
 cases r with
 | none=>exact wpAny_pure h₁
 | some v=>
  refine wpAny_bind (wpAny_mono h₁ (fun _ s₁' h₁'=>?_) fun _ _ h'=>h')
  refine wpAny_bind (wpAny_mono h₁' (fun _ s₂ h₂=>wpAny_bind (wpAny_mono h₂ (fun ok s₃ h₃=>?_) fun _ _ h'=>h')) fun _ _ h'=>h')
  cases ok with
  | false=>exact wpAny_pure ⟨rfl,h₃⟩
  | true=>
   exact wpAny_bind (wpAny_bind (wpAny_mono h₃ (fun x s₄ h₄=>wpAny_bind (wpAny_mono h₄ (fun _ s₅ h₅=>wpAny_pure (wpAny_pure ⟨rfl,h₅⟩)) fun _ _ h'=>h')) fun _ _ h'=>h'))
def PC (X:Cx) (ifs:List Expr) (t:TT):Prop:=
 ∀ (pins:List (Addr × Obj)) (s:Shared) (σ:St) (H:Hp) (Q:Bool→Hp→Prop) (E:Value→Shared→Prop),(∀ v s,X.xe v s→E v s)→Inv X pins σ H s→t σ H Q→
  wpAny (model X.prog X.w) X.A (forIn ifs true fun c r=>if r=true then do let ok ← isTrue c X.env (eval c X.env); pure (ForInStep.yield ok) else pure (ForInStep.yield r)) (TP X pins σ Q) E s
theorem Xd {X:Cx}:PC X [] (fun _ H Q=>Q true H):=fun _ _ _ H _ _ _ I h=>wpAny_tests_nil ⟨H,I,h⟩
theorem Xc {X:Cx} {c:Expr} {t:TT} (p:PT X c t):PC X [c] t:=fun pins s σ H Q _ hE I h=>wpAny_tests_one (wpAny_mono (p pins s σ H Q I h) (fun _ _ z=>z) hE)
section
variable {X:Cx} {pins:List (Addr × Obj)} {σ:St} {H:Hp} {s:Shared} {scope:Scope} {cl:List (Str × Addr)} {bs caps:List Str} {js:List Nat} {fp:List Addr}
theorem jb {h₁:Heap} {t:Nat} {m:Str→Option Value} (I:Inv X pins σ H s) (S:sf X scope cl bs caps js) (hfp:∀ b∈fp,vK X pins H b) (hob:∀ b∈fp,∃ o,s.heap.get? b=some o)
  (hn:h₁.Ns s.heap.objs.size m) (hk:∀ b o,s.heap.get? b=some o→h₁.get? b=some o):Inv (zG X scope cl bs caps s.heap.objs.size s H fp pins) [] (bs.map (fun _=>none)++tR σ js) H { s with heap:=h₁,toks:=t }:=by
 refine ⟨⟨I.ok.mod,S.kind,I.ok.glob,I.ok.blt,Nat.le_refl _,fun y z c h1 h2=>?_,fun y hy=>?_,fun y c hf h=>?_,I.ok.hd,I.ok.frames,.inl rfl,fun b hb=>⟨?_,fun y c h=>?_⟩,I.bs,Nat.le_trans I.ok.bsz I.sz,fun b o e hb=>?_,fun b hb z=>?_,I.stack,I.stkFree⟩,
  rfl,I.bare,Un.kept hk,⟨_,hn,fun i y v h1 h2 h3=>?_⟩,fun y c h=>?_,I.hok.fresh (Nat.le_refl _),fun y c h=>?_,fun p hp=>?_,I.hok.kept hk,?_⟩
 ·exact I.ok.inj y z c (S.sub y c h1) (S.sub z c h2)
 ·exact S.has y hy
 ·have hf:y∈bs:=List.contains_iff_mem.mp hf
  have h:cl.lookup y=some c:=h
  rw [S.nox y hf] at h
  cases h
 ·obtain ⟨o,e⟩:=hob b hb
  exact Nat.ne_of_lt (Heap.lt_size e)
 ·exact (hfp b hb).2.2.2.2.1 y c (S.sub y c h)
 ·obtain ⟨_,_,_,h4,_⟩:=hfp b hb
  rcases h4 with h4 | h4
  ·exact I.ok.noex b o e h4
  ·exact absurd (Nat.lt_of_lt_of_le (Heap.lt_size e) (Nat.le_trans I.ok.bsz h4)) (Nat.lt_irrefl _)
 ·obtain ⟨_,h2,h3,_⟩:=hfp b hb
  rcases List.mem_cons.mp (I.stkSub b z) with q | q
  ·exact h2 q
  ·exact h3 q
 ·by_cases hi:i<bs.length
  ·rw [List.getElem?_append_left (by rw [List.length_map]; exact hi),List.getElem?_map] at h2
   obtain ⟨_,_,e⟩:=Option.map_eq_some_iff.mp h2
   cases e
  ·have hi:bs.length≤i:=Nat.le_of_not_lt hi
   have h1:(bs++caps)[i]? = some y:=h1
   rw [List.getElem?_append_right hi] at h1
   rw [List.getElem?_append_right (by rw [List.length_map]; exact hi),List.length_map] at h2
   obtain ⟨j,hj,hN⟩:=S.at_ _ y h1
   have hv:σ[j]? = some (some v):=by
    unfold tR at h2
    rw [List.getElem?_map,hj] at h2
    have h2:(σ[j]?).getD none=some v:=Option.some.inj h2
    cases q:σ[j]? with
    | none=>rw [q] at h2; cases h2
    | some w=>rw [q] at h2; exact congrArg some h2
   obtain ⟨c1,c2⟩:=S.cap y (List.mem_of_getElem? h1)
   obtain ⟨m0,_,hl⟩:=I.loc
   obtain ⟨u,ru,lk⟩:=hl j y v hN hv (.inr (.inl c2))
   refine ⟨u,ru,.inr ⟨.inl c1,?_⟩⟩
   obtain ⟨c,hc⟩:=S.has y (.inl c1)
   rcases lk with ⟨lk,_⟩ | ⟨_,c',hc',hcell⟩
   ·have lk:X.env.scope.names.lookup y=some .local:=lk
    rw [c2] at lk
    cases lk
   ·have e:=S.sub y c hc
    rw [hc'] at e
    cases e
    obtain ⟨o,ho,hd⟩:=hcell
    exact ⟨_,hc,o,hk _ _ ho,hd⟩
 ·obtain ⟨v,o,ho,hd⟩:=I.cell y c (S.sub y c h)
  exact ⟨v,o,hk _ _ ho,hd⟩
 ·exact I.freeC y c (S.sub y c h)
 ·have hp:p∈X.pn++pins:=by
   rcases List.mem_append.mp hp with q | q
   ·exact q
   ·cases q
  obtain ⟨h1,h2,h3,h4,h5⟩:=I.pin p hp
  refine ⟨hk _ _ h1,h2,Nat.ne_of_lt (Heap.lt_size h1),fun z=>?_,h5⟩
  rcases List.mem_cons.mp (I.stkSub _ z) with q | q
  ·exact h3 q
  ·exact h4 q
 ·show (bs.map (fun _=>none)++tR σ js).length=(bs++caps).length
  unfold tR
  rw [List.length_append,List.length_append,List.length_map,List.length_map,S.len]
theorem jc {C:Addr} {σ':St} {H':Hp} {s':Shared} (I:Inv X pins σ H s) (hfp:∀ b∈fp,vK X pins H b) (I':Inv (zG X scope cl bs caps C s H fp pins) [] σ' H' s'):Inv X pins σ H' s':=
 I.call' (ch:=fp) I'.os I'.base I'.hok I'.bare fun b hb=>by
  obtain ⟨_,h2,_,h4,h5,h6⟩:=hfp b hb
  exact ⟨h4,h2,h5,h6⟩
def nX (gt:TG) (tt:TT) (te:TE) (k:Nat) (τ:St) (Q:V→Hp→Prop):It→Hp→Prop:=fun J H1=>∃ (n:Nat) (vals:Nat→V→Prop),n<sizeLine∧∀ D,H1 D=none→∃ Pv:Nat→List V→Hp→Prop,
 Pv 0 [] (upd H1 D (.lst []))∧(∀ i ys H2,i≤n→Pv i ys H2→H2 D=some (.lst ys)∧ys.length≤i)∧
 (∀ i ys H2,i<n→Pv i ys H2→J.go i H2∧∀ v H3,J.yld i H2 v H3→H3=H2∧vals i v)∧(∀ ys H2,Pv n ys H2→J.stop n H2)∧
 (∀ i v ys H2 (σ0:St),i<n→vals i v→Pv i ys H2→σ0.length=k→gt v (σ0++τ) H2 fun σ1 H3=>(∃ σ2:St,σ1=σ2++τ∧σ2.length=k)∧tt σ1 H3 fun b H4=>
  if b=true then te σ1 H4 fun y H5=>H5 D=some (.lst ys)∧Pv (i+1) (ys++[y]) (upd H5 D (.lst (ys++[y]))) else Pv (i+1) ys H4)∧∀ ys H2,Pv n ys H2→Q (.ref D) H2
def jC (wi:TI) (gt:TG) (tt:TT) (te:TE) (k:Nat) (js:List Nat):TE:=fun σ H Q=>wi σ H (nX gt tt te k (tR σ js) Q)
theorem nq {elt tg iter:Expr} {ifs:List Expr} {pos:Pos} {it D:Addr} {n:Nat} {J:It} {vals:Nat→V→Prop} {τ:St} {tn:Nat→Heap→Prop} {gt:TG} {tt:TT} {te:TE} {R:Result→Shared→Prop} {s₄:Shared} {Pv:Nat→List V→Hp→Prop} {C:Addr} (hc:X.calm=true)
  (hg:PG (zG X scope cl bs caps C s H fp pins) tg gt) (ht':PC (zG X scope cl bs caps C s H fp pins) ifs tt)
  (he:PE (zG X scope cl bs caps C s H fp pins) elt te) {σ0:St} (hσ0:σ0.length=bs.length) (I:Inv (zG X scope cl bs caps C s H fp pins) [] (σ0++τ) H s₄) (T:nu X.prog X.w X.K tg J fp it tn) (t0:tn 0 s₄.heap)
  (hfp:∀ b∈fp,vK (zG X scope cl bs caps C s H fp pins) [] H b) (hn:n<sizeLine)
  (h0:Pv 0 [] H) (hl:∀ i ys H2,i≤n→Pv i ys H2→H2 D=some (.lst ys)∧ys.length≤i)
  (hgo:∀ i ys H2,i<n→Pv i ys H2→J.go i H2∧∀ v H3,J.yld i H2 v H3→H3=H2∧vals i v) (hst:∀ ys H2,Pv n ys H2→J.stop n H2)
  (ht:∀ i v ys H2 (σ0:St),i<n→vals i v→Pv i ys H2→σ0.length=bs.length→gt v (σ0++τ) H2 fun σ1 H3=>(∃ σ2:St,σ1=σ2++τ∧σ2.length=bs.length)∧tt σ1 H3 fun b H4=>
   if b=true then te σ1 H4 fun y H5=>H5 D=some (.lst ys)∧Pv (i+1) (ys++[y]) (upd H5 D (.lst (ys++[y]))) else Pv (i+1) ys H4)
  (hR:∀ σ' H' ys s',Inv (zG X scope cl bs caps C s H fp pins) [] σ' H' s'→Pv n ys H'→R (.ok .next) s'):
  codeAny (model X.prog X.w) X.A (.compStart (.ListComp elt [⟨tg,iter,ifs,0⟩] scope pos) 0 (.ref it) (.ref D) (compEnvC scope cl C X.env)) R s₄:=by
 have loop:codeAny (model X.prog X.w) X.A (.compLoop (.ListComp elt [⟨tg,iter,ifs,0⟩] scope pos) 0 (.ref it) (.ref D) (compEnvC scope cl C X.env)) R s₄:=by
  refine wY (fun k s'=>∃ i ys,∃ σ1:St,∃ H',k=n+1 - i∧i≤n∧σ1.length=bs.length∧Inv (zG X scope cl bs caps C s H fp pins) [] (σ1++τ) H' s'∧tn i s'.heap∧(∀ b∈fp,vK (zG X scope cl bs caps C s H fp pins) [] H' b)∧Pv i ys H') ?_ (n+1) ⟨0,[],σ0,H,rfl,Nat.zero_le _,hσ0,I,t0,hfp,h0⟩
  rintro k s' ⟨i,ys,σ1,H',rfl,hi,hσ1,I',tn',hfp',hp⟩
  obtain ⟨q2,q3⟩:=hl i ys H' hi hp
  by_cases hlt:i<n
  ·obtain ⟨g,gy⟩:=hgo i ys H' hlt hp
   refine wpAny_mono (T.item (zG X scope cl bs caps C s H fp pins) rfl rfl rfl hc i [] s' (σ1++τ) H' (notedBy (model X.prog X.w) X.A (compEnvC scope cl C X.env) fun e s'=>R (.error e) s') I' hfp' tn' g) (fun r s1 ⟨u,er,hq⟩=>?_) fun _ _ z=>z
   subst er
   refine wpAny_mono hq (fun _ s1' hq'=>?_) fun _ _ z=>z
   obtain ⟨v,H1,I1,rv,yv,tn1,fn1⟩:=hq'
   obtain ⟨eH,hv⟩:=gy v H1 yv
   subst eH
   have hpin:∀ b∈fp,∃ o,s1'.heap.get? b=some o∧∀ v,o.data≠.cell v:=T.obj (i+1) s1'.heap tn1
   have IP:Inv (zG X scope cl bs caps C s H fp pins) (xF fp s1'.heap) (σ1++τ) H1 s1':=by
    have:=I1.pinned hfp' hpin
    rw [List.nil_append] at this
    exact this
   refine wpAny_mono (hg (xF fp s1'.heap) s1' (σ1++τ) H1 v u _ IP rv (ht i v ys H1 σ1 hlt hv hp hσ1)) (fun _ s2 h2=>?_) fun _ _ z=>z.elim
   obtain ⟨σ2',H2,I2,⟨σ2,e2,l2⟩,w2⟩:=h2
   subst e2
   refine wpAny_mono (ht' (xF fp s1'.heap) s2 (σ2++τ) H2 _ (fun _ _=>False) (fun _ _ z=>z) I2 w2) (fun b s3 h3=>?_) fun _ _ z=>z.elim
   obtain ⟨H3,I3,w3⟩:=h3
   have pinned:∀ {s4:Shared} {H4:Hp} {σ4:St},Inv (zG X scope cl bs caps C s H fp pins) (xF fp s1'.heap) σ4 H4 s4→∀ b∈fp,∀ o,s1'.heap.get? b=some o→s4.heap.get? b=some o∧H4 b=none:=fun I4 b hb o e=>
    have z:=I4.pin (b,o) (List.mem_append_right _ (vA hb e))
    ⟨z.1,z.2.1⟩
   cases b with
   | false=>
    have w3:Pv (i+1) ys H3:=w3
    show ∃ m,m<n+1 - i∧_
    refine ⟨n+1 - (i+1),by omega,i+1,ys,σ2,H3,rfl,hlt,l2,I3.pins_of (fun p z=>nomatch z),T.keep _ _ _ tn1 fun b hb o e=>(pinned I3 b hb o e).1,fun b hb=>⟨?_,(hfp' b hb).2⟩,w3⟩
    obtain ⟨o,e,_⟩:=hpin b hb
    exact (pinned I3 b hb o e).2
   | true=>
    show wpAny _ _ _ _ _ _
    refine wpAny_mono (he (xF fp s1'.heap) s3 (σ2++τ) H3 _ I3 w3) (fun y s4 h4=>?_) fun _ _ z=>z.elim
    obtain ⟨y',H4,I4,ry,hD,hp4⟩:=h4
    refine wpAny_mono (uM (X:=zG X scope cl bs caps C s H fp pins) (xF fp s1'.heap) s4 (σ2++τ) H4 (.ref D) [y'] (.ref D) [y] (fun _ H5=>H5=upd H4 D (.lst (ys++[y']))) I4 rfl (.cons ry .nil) ⟨D,ys,y',rfl,rfl,hD,by omega,rfl⟩) (fun _ s5 h5=>?_) fun _ _ z=>z.elim
    obtain ⟨_,H5,I5,_,e5⟩:=h5
    subst e5
    refine ⟨n+1 - (i+1),by omega,i+1,ys++[y'],σ2,_,rfl,hlt,l2,I5.pins_of (fun p z=>nomatch z),T.keep _ _ _ tn1 fun b hb o e=>(pinned I5 b hb o e).1,fun b hb=>⟨?_,(hfp' b hb).2⟩,hp4⟩
    obtain ⟨o,e,_⟩:=hpin b hb
    exact (pinned I5 b hb o e).2
  ·have e:i=n:=by omega
   subst e
   refine wpAny_mono (T.done (zG X scope cl bs caps C s H fp pins) rfl rfl rfl hc i [] s' (σ1++τ) H' (fun _ _=>False) I' hfp' tn' (hst ys H' hp)) (fun r s1 ⟨er,I1⟩=>?_) fun _ _ z=>z.elim
   subst er
   exact hR _ H' ys s1 I1 hp
 exact codeAny_compStart_list loop (T.self X.A 0 s₄ _ _ t0 loop)
theorem mR {elt tg iter:Expr} {ifs:List Expr} {pos:Pos} {gt:TG} {tt:TT} {te:TE} {Q:V→Hp→Prop} {s2:Shared} {it:Addr} {tn:Nat→Heap→Prop} {J:It} {H':Hp} {RR:Value→Addr→Result→Shared→Prop} {E:Value→Shared→Prop} (hc:X.calm=true) (S:sf X scope cl bs caps js)
  (hg:∀ C s H fp pins,PG (zG X scope cl bs caps C s H fp pins) tg gt) (ht':∀ C s H fp pins,PC (zG X scope cl bs caps C s H fp pins) ifs tt)
  (he:∀ C s H fp pins,PE (zG X scope cl bs caps C s H fp pins) elt te) (I2:Inv X pins σ H' s2) (T:nu X.prog X.w X.K tg J fp it tn) (t0:tn 0 s2.heap) (hfp:∀ b∈fp,vK X pins H' b) (hr:nX gt tt te bs.length (tR σ js) Q J H')
  (hRR:∀ D C H3 s',Inv X pins σ H3 s'→(∃ m,s'.heap.Ns C m)→H3 C=none→C≠X.env.locals→X.s₀.heap.objs.size≤C→(∀ y c,X.env.cells.lookup y=some c→c≠C)→(∀ p∈X.pn++pins,p.1≠C)→Q (.ref D) H3→
   RR (.ref D) C (.ok .next) s'):
  wpAny (model X.prog X.w) X.A (newList []) (fun acc s₃=>wpAny (model X.prog X.w) X.A (newFunctionEnv scope X.env.globals cl [] X.env.qual none .none (some X.env)) (fun cenv s₄=>
   codeAny (model X.prog X.w) X.A (.compStart (.ListComp elt [⟨tg,iter,ifs,0⟩] scope pos) 0 (.ref it) acc { cenv with scope:=relabel scope X.env }) (RR acc cenv.locals) s₄) E s₃) E s2:=by
 obtain ⟨n,vals,hn,hD⟩:=hr
 obtain ⟨Pv,h0,hl,hgo,hst,ht,hd⟩:=hD s2.heap.objs.size I2.fresh
 refine wpAny_newObj_type (wpAny_newFunctionEnv S.cell (by intro y hy; simp at hy) (fun h₁ hns₁ hsb₁=>?_) S.kind)
 dsimp only at hns₁ hsb₁ ⊢
 have I3:Inv X pins σ (upd H' s2.heap.objs.size (.lst [])) { s2 with heap:=s2.heap.push { cls:=.type "list",data:=.seq ([]:List Value).toArray } }:=I2.lnew (its:=[]) (t':=s2.toks) .nil (by show 0≤sizeLine; omega)
 have hob:=T.obj 0 s2.heap t0
 have keep:∀ b o,(s2.heap.push { cls:=.type "list",data:=.seq ([]:List Value).toArray }).get? b=some o→h₁.get? b=some o:=fun b o e=>
  hsb₁.extBut b o (Nat.ne_of_lt (Heap.lt_size e)) (Heap.get?_push_of_some _ e)
 have fp3:∀ b∈fp,vK X pins (upd H' s2.heap.objs.size (.lst [])) b:=fun b hb=>by
  obtain ⟨o,e,_⟩:=hob b hb
  exact ⟨(zw (Nat.ne_of_lt (Heap.lt_size e))).trans (hfp b hb).1,(hfp b hb).2⟩
 have IY:=jb (t:=s2.toks+([]:List (Str × Value)).length) I3 S fp3 (fun b hb=>by
  obtain ⟨o,e,_⟩:=hob b hb
  exact ⟨o,Heap.get?_push_of_some _ e⟩) hns₁ keep
 refine nq (D:=s2.heap.objs.size) (n:=n) (vals:=vals) (Pv:=Pv) hc (hg _ _ _ _ _) (ht' _ _ _ _ _) (he _ _ _ _ _) (List.length_map _) IY T (T.keep _ _ _ t0 fun b hb o e=>keep b o (Heap.get?_push_of_some _ e)) (fun b hb=>?_) hn h0 hl hgo hst ht (fun σ' H3 ys s' I' hp=>?_)
 ·obtain ⟨f1,f2,f3,f4,f5,f6⟩:=fp3 b hb
  obtain ⟨o,e,_⟩:=hob b hb
  refine ⟨f1,Nat.ne_of_lt (Heap.lt_size (Heap.get?_push_of_some _ e)),fun z=>?_,.inl hb,fun y c h=>f5 y c (S.sub y c h),fun p hp=>?_⟩
  ·rcases List.mem_cons.mp (I3.stkSub b z) with q | q
   ·exact f2 q
   ·exact f3 q
  ·rcases List.mem_append.mp hp with q | q
   ·exact f6 p q
   ·cases q
 ·obtain ⟨m,hn,_⟩:=I'.loc
  refine hRR _ _ H3 s' (jc I3 fp3 I') ⟨m,hn⟩ I'.free (Nat.ne_of_gt I3.lt) I3.sz (fun y c h z=>?_) (fun p hp z=>?_) (hd ys H3 hp)
  ·obtain ⟨v,q⟩:=I3.cell y c h
   exact absurd q.lt (by rw [z]; exact Nat.lt_irrefl _)
  ·exact absurd (Heap.lt_size (I3.pin p hp).1) (by rw [z]; exact Nat.lt_irrefl _)
theorem j8 {elt tg iter:Expr} {ifs:List Expr} {pos:Pos} {wi:TI} {gt:TG} {tt:TT} {te:TE} (hc:X.calm=true) (S:sf X scope cl bs caps js) (hl:PI X tg iter wi) (hg:∀ C s H fp pins,PG (zG X scope cl bs caps C s H fp pins) tg gt)
  (ht':∀ C s H fp pins,PC (zG X scope cl bs caps C s H fp pins) ifs tt) (he:∀ C s H fp pins,PE (zG X scope cl bs caps C s H fp pins) elt te)
  (hs:∀ y,foldedSetIterable iter X.env y=pure y:=by intro _; rfl):PE X (.ListComp elt [⟨tg,iter,ifs,0⟩] scope pos) (jC wi gt tt te bs.length js):=by
 intro pins s σ H Q I h
 rw [eval_ListComp]
 refine wpAny_comprehension_free (use:=none) rfl hs S.clos S.kind S.names (thn (hl pins s σ H (nX gt tt te bs.length (tR σ js) Q) I h) fun v s1 h1=>thn h1 fun itv s2 h2=>?_)
 obtain ⟨it,fp,tn,J,H',rfl,I2,T,t0,hfp,hr⟩:=h2
 refine mR (RR:=fun acc C=>compPost (model X.prog X.w) X.A X.xe none (EP X pins σ Q) acc C) hc S hg ht' he I2 T t0 hfp hr ?_
 intro D C H3 s' I' ⟨m,hn⟩ hC h1 h2 h3 h4 q
 exact ⟨m,hn,fun h' hs'=>⟨.ref D,H3,I'.turned (it:=C) (fun b o hb e=>hs'.extBut b o hb e) hC h1 (.inr h2) h3 h4,rfl,q⟩⟩
end
end OD
namespace OD
variable {Z:Hp}
open PySem PySem.Spec PyProof.Rows L2
def pO (osc scope:Scope) (bs caps:List Str) (js:List Nat) (N:List Str):Bool:=
 scope.names.all (fun y=>y.2 != .cell && (y.2 != .local || scope.names.lookup y.1 == some .local) && (y.2 != .free || (osc.names.lookup y.1 == some .cell && !bs.contains y.1))) && (scope.kind == .function) && (osc.kind == .function) && bs.all (fun x=>scope.names.lookup x == some .local) &&
 decide (bs++caps).Nodup && (js.map (fun j=>N[j]?) == caps.map some) && caps.all (fun y=>scope.names.lookup y == some .free && osc.names.lookup y == some .cell)
theorem ZS {X:Cx} {osc scope:Scope} {bs:List Str} {caps:List Str} {js:List Nat} {L:Addr} (h:pO osc scope bs caps js X.N=true) (he:X.env.scope=osc) (hc:X.env.cells=cellsFrom (L+1) osc.names []):sf X scope (vG X.env.cells scope.names) bs caps js:=by
 unfold pO at h
 simp only [Bool.and_eq_true] at h
 obtain ⟨⟨⟨⟨⟨⟨h1,h2⟩,h3⟩,h4⟩,h5⟩,h6⟩,h7⟩:=h
 rw [List.all_eq_true] at h1 h4 h7
 have hfree:∀ y,(y,NameKind.free)∈scope.names→osc.names.lookup y=some .cell∧bs.contains y=false:=fun y hy=>by
  have q:=h1 _ hy
  rw [Bool.and_eq_true,Bool.and_eq_true] at q
  have q:(osc.names.lookup y == some .cell && !bs.contains y)=true:=q.2
  rw [Bool.and_eq_true] at q
  exact ⟨eq_of_beq q.1,by cases z:bs.contains y with | false=>rfl | true=>rw [z] at q; cases q.2⟩
 have hcell:∀ y,osc.names.lookup y=some .cell→∃ c,X.env.cells.lookup y=some c:=fun y hy=>by rw [hc]; exact rj hy
 have hfc:∀ y,(y,NameKind.free)∈scope.names→∃ c,X.env.cells.lookup y=some c:=fun y hy=>hcell y (hfree y hy).1
 have hk:X.env.scope.kind=.function:=by rw [he]; exact eq_of_beq h3
 have hj:js.map (fun j=>X.N[j]?)=caps.map some:=eq_of_beq h6
 refine ⟨ZT hfc,fun y c q=>(mem_clOf.mp (PySem.mem_of_lookup q)).2,fun y q=>?_,fun x hx=>?_,fun y hy e=>?_,eq_of_beq h2,fun y hy e=>?_,fun x hx=>eq_of_beq (h4 x hx),of_decide_eq_true h5,?_,fun k y q=>?_,fun y hy=>?_⟩
 ·have:(y,NameKind.free)∈scope.names:=by
   have mem:∃ k,(y,k)∈(relabel scope X.env).names∧(k=.cell∨k=.free):=by
    rcases q with q | q
    ·exact ⟨_,PySem.mem_of_lookup q,.inl rfl⟩
    ·exact ⟨_,PySem.mem_of_lookup q,.inr rfl⟩
   obtain ⟨k,hm,hk'⟩:=mem
   obtain ⟨⟨n,k0⟩,hn,e⟩:=List.mem_map.mp hm
   have ncell:k0≠.cell:=fun z=>by
    have q:=h1 _ hn
    rw [Bool.and_eq_true,Bool.and_eq_true] at q
    exact absurd z (bne_iff_ne.mp q.1.1)
   dsimp only at e
   split at e
   ·rename_i hz
    rw [Bool.and_eq_true,Bool.and_eq_true] at hz
    obtain rfl:=eq_of_beq hz.1.1
    cases e
    exact hn
   ·cases e
    rcases hk' with z | z
    ·exact absurd z ncell
    ·rw [z] at hn; exact hn
  obtain ⟨c,hc'⟩:=hfc y this
  exact sZ (mem_clOf.mpr ⟨this,hc'⟩)
 ·cases q:(vG X.env.cells scope.names).lookup x with
  | none=>rfl
  | some c=>
   have z:=(hfree x (mem_clOf.mp (PySem.mem_of_lookup q)).1).2
   rw [List.contains_iff_mem.mpr hx] at z
   cases z
 ·have q:=h1 y hy
  rw [Bool.and_eq_true,Bool.and_eq_true] at q
  exact absurd e (bne_iff_ne.mp q.1.1)
 ·have q:=h1 y hy
  rw [Bool.and_eq_true,Bool.and_eq_true,e] at q
  exact eq_of_beq (show (scope.names.lookup y.1 == some .local)=true from q.1.2)
 ·have:=congrArg List.length hj
  rwa [List.length_map,List.length_map] at this
 ·have e:(js.map fun j=>X.N[j]?)[k]? = (caps.map some)[k]?:=by rw [hj]
  rw [List.getElem?_map,List.getElem?_map,q] at e
  obtain ⟨j,hj1,hj2⟩:=Option.map_eq_some_iff.mp e
  exact ⟨j,hj1,hj2⟩
 ·have q:=h7 y hy
  rw [Bool.and_eq_true] at q
  have q2:X.env.scope.names.lookup y=some .cell:=by rw [he]; exact eq_of_beq q.2
  exact ⟨yZ hk (eq_of_beq q.1) q2,q2⟩
theorem lw {K:PySem.W.Frag} {F:Hp} {W W2:Vw} {ρ:DS} {σ:St} {js:List Nat} {ds:List Dt} {vs:List V} (r:Rl K Z F W ρ σ) (s2:Same W.g W2.g) (i:AllIs K W2.g ds vs):Rl K (fun _=>none) W2.h W2 (ds.map Sl.some++vk ρ js) (vs.map some++tR σ js):=by
 have no:∀ (j:Nat) (es:List Dt),(ds.map Sl.some++vk ρ js)[j]? = some (.own es)→False:=fun j es q=>by
  have q:=List.mem_of_getElem? q
  rcases List.mem_append.mp q with q | q
  ·obtain ⟨_,_,e⟩:=List.mem_map.mp q
   cases e
  ·unfold vk at q
   obtain ⟨j,_,e⟩:=List.mem_map.mp q
   split at e <;> cases e
 have noA:∀ (j:Nat) (a:Addr) (es:List Dt),(ds.map Sl.some++vk ρ js)[j]? = some (.arg a es)→False:=fun j a es q=>by
  have q:=List.mem_of_getElem? q
  rcases List.mem_append.mp q with q | q
  ·obtain ⟨_,_,e⟩:=List.mem_map.mp q
   cases e
  ·unfold vk at q
   obtain ⟨j,_,e⟩:=List.mem_map.mp q
   split at e <;> cases e
 refine ⟨by unfold vk tR; rw [List.length_append,List.length_append,List.length_map,List.length_map,List.length_map,List.length_map,i.length],fun j e q=>?_,fun j ds q=>(no j ds q).elim,fun j j' ds ds' _ q _=>(no j ds q).elim,Same.refl _,(fun _ _ q=>nomatch q),fun j a ds q=>(noA j a ds q).elim⟩
 by_cases hj:j<ds.length
 ·rw [List.getElem?_append_left (by rw [List.length_map]; exact hj),List.getElem?_map] at q
  obtain ⟨d,hd,e1⟩:=Option.map_eq_some_iff.mp q
  cases e1
  obtain ⟨v,hv,iv⟩:=i.get hd
  exact ⟨v,by rw [List.getElem?_append_left (by rw [List.length_map,← i.length]; exact hj),List.getElem?_map,hv]; rfl,iv⟩
 ·have hj:ds.length≤j:=Nat.le_of_not_lt hj
  rw [List.getElem?_append_right (by rw [List.length_map]; exact hj),List.length_map] at q
  rw [List.getElem?_append_right (by rw [List.length_map,← i.length]; exact hj),List.length_map,← i.length]
  unfold vk at q
  rw [List.getElem?_map] at q
  obtain ⟨k,hk,e2⟩:=Option.map_eq_some_iff.mp q
  split at e2
  ·rename_i d' hd
   cases e2
   obtain ⟨u,hu,iu⟩:=r.at_ k e hd
   refine ⟨u,?_,Is.mono0 s2 iu⟩
   unfold tR
   rw [List.getElem?_map,hk]
   show some ((σ[k]?).getD none)=_
   rw [hu]
   rfl
  ·cases e2
abbrev DTI:=DS→(Nat→(Nat→Dt→Prop)→Prop)→Prop
def LiI (K:PySem.W.Frag) (Z:Hp) (wi:TI) (di:DTI):Prop:=∀ {F:Hp} (ρ:DS) (σ:St) (W:Vw) (Q:Nat→(Nat→Dt→Prop)→Prop),Rl K Z F W ρ σ→di ρ Q→∀ R:It→Hp→Prop,
 (∀ (J:It) (n:Nat) (vals:Nat→Dt→Prop) (W1:Vw),Le W W1→n≤100000→(∀ W2:Vw,Same W1.g W2.g→(∀ i,i<n→J.go i W2.h∧∀ v H3,J.yld i W2.h v H3→H3=W2.h∧∃ e,vals i e∧Is K W1.g e v)∧J.stop n W2.h)→Q n vals→R J W1.h)→wi σ W.h R
def DI (X:Cx) (tg iter:Expr) (di:DTI):Prop:=∃ wi,PI X tg iter wi∧LiI X.K (Zx X) wi di
def LiG (K:PySem.W.Frag) (k:Nat) (gt:TG) (dg:Dt→List Dt→Prop):Prop:=∀ (e:Dt) (v:V) (σ0 τ:St) (W:Vw) (as:List Dt),σ0.length=k→Is K W.g e v→dg e as→∀ Q:St→Hp→Prop,
 (∀ vs,AllIs K W.g as vs→vs.length=k→Q (vs.map some++τ) W.h)→gt v (σ0++τ) W.h Q
def mM:Dt→List Dt→Prop:=fun e as=>as=[e]
def SC:Dt→List Dt→Prop:=fun e as=>∃ a b,e=.tup [a,b]∧as=[a,b]
theorem tV {K:PySem.W.Frag}:LiG K 1 (o0 0) mM:=by
 rintro e v σ0 τ W as hl i rfl Q q
 match σ0,hl with
 | [a],_=>exact q [v] (allIs_cons.mpr ⟨v,[],rfl,i,allIs_nil.mpr rfl⟩) rfl
theorem Zm {K:PySem.W.Frag}:LiG K 2 (Ss K 2 (fN (o0 0) (fN (o0 1) Su))) SC:=by
 rintro e v σ0 τ W as hl i ⟨a,b,rfl,rfl⟩ Q q
 obtain ⟨T,us,rfl,hT,hu⟩:=is_tup.mp i
 obtain ⟨v1,v2,rfl,k1,k2⟩:=hu.two
 match σ0,hl with
 | [x,y],_=>exact ⟨T,_,rfl,.of (W.sub _ _ hT),rfl,v1,[v2],rfl,v2,[],rfl,rfl,q [v1,v2] hu rfl⟩
def DC (X:Cx) (ifs:List Expr) (t:DTT):Prop:=∃ tt,PC X ifs tt∧LiT X.K (Zx X) tt t
def tj:DTT:=fun _ Q=>Q true
theorem pN {X:Cx}:DC X [] tj:=⟨_,Xd,fun _ _ W _ _ h _ k=>k true W (Le.refl W) h⟩
theorem Uo {X:Cx} {c:Expr} {t:DTT} (h:DT X c t):DC X [c] t:=let ⟨_,p,l⟩:=h; ⟨_,Xc p,l⟩
def Yb (K:PySem.W.Frag) (t:DTT):TT:=fun σ H R=>∃ (F:Hp) (ρ:DS) (W:Vw) (Q:Bool→Prop),W.h=H∧Rl K (fun _=>none) F W ρ σ∧t ρ Q∧∀ d W',Le W W'→Q d→R d W'.h
theorem DC.up {X:Cx} {ifs:List Expr} {t:DTT} (h:DC X ifs t) (hz:X.stack.length=X.outer.length:=by rfl):PC X ifs (Yb X.K t):=by
 obtain ⟨te,p,l⟩:=h
 intro pins s σ H R E hE I q
 obtain ⟨F,ρ,W,Q,rfl,r,h,k⟩:=q
 have r':Rl X.K (Zx X) F W ρ σ:=by unfold Zx; rw [if_pos (Or.inl hz)]; exact r
 exact p pins s σ W.h R E hE I (l ρ σ W Q r' h R k)
theorem fA {K:PySem.W.Frag} {t:DTT}:LiT K (fun _=>none) (Yb K t) t:=fun ρ σ H Q r h R k=>⟨_,ρ,H,Q,rfl,r,h,k⟩
def wX (js:List Nat) (di:DTI) (dg:Dt→List Dt→Prop) (tt:DTT) (te:DTE):DTE:=fun ρ Q=>di ρ fun n vals=>∃ Pv:Nat→List Dt→Prop,Pv 0 []∧
 (∀ (i:Nat) e es,i<n→vals i e→Pv i es→∃ as,dg e as∧tt (as.map Sl.some++vk ρ js) fun b=>if b=true then te (as.map Sl.some++vk ρ js) fun y=>Pv (i+1) (es++[y]) else Pv (i+1) es)∧∀ es,Pv n es→Q (.lst es)
theorem fB {K:PySem.W.Frag} {wi:TI} {gt:TG} {tt:TT} {te:TE} {di:DTI} {dg:Dt→List Dt→Prop} {dt:DTT} {u:DTE} {k:Nat} {js:List Nat} (h1:LiI K Z wi di) (hg:LiG K k gt dg) (ht':LiT K (fun _=>none) tt dt) (h2:LiE K (fun _=>none) te u):LiF K Z (jC wi gt tt te k js) (wX js di dg dt u):=by
 intro F ρ σ H Q r h R kk
 refine h1 ρ σ H _ r h _ fun J n vals W1 s1 hn hJ ⟨Pv,h0,ht,hd⟩=>?_
 have r1:=r.mono s1
 refine ⟨n,fun i v=>∃ e,vals i e∧Is K W1.g e v,Nat.lt_of_le_of_lt hn (by decide),fun D hD=>?_⟩
 have gD:W1.g D=none:=W1.sub.free hD
 have stp:∀ {W2 W3:Vw} {ys:List V} {es:List Dt},Same W1.g W2.g∧Same W1.h (fun b=>if b=D then none else W2.h b)∧(∀ b,W1.h b≠none→W1.g b=none→W2.g b=none)∧W2.h D=some (.lst ys)∧W2.g D=none∧AllIs K W2.g es ys→Le W2 W3→
   Same W1.g W3.g∧Same W1.h (fun b=>if b=D then none else W3.h b)∧(∀ b,W1.h b≠none→W1.g b=none→W3.g b=none)∧W3.h D=some (.lst ys)∧W3.g D=none∧AllIs K W3.g es ys:=by
  rintro W2 W3 ys es ⟨s2,sh,sn,q1,q2,q3⟩ s3
  refine ⟨s2.trans s3.g,fun b o q=>?_,fun b z1 z2=>?_,s3.h _ _ q1,s3.n D (by rw [q1]; intro z; cases z) q2,q3.mono s3⟩
  ·have q':(if b=D then none else W2.h b)=some o:=sh b o q
   have hb:b≠D:=fun e=>by rw [e,hD] at q; cases q
   rw [if_neg hb] at q'
   show (if b=D then none else W3.h b)=some o
   rw [if_neg hb]
   exact s3.h _ _ q'
  ·have hb:b≠D:=fun e=>z1 (e ▸ hD)
   have z3:=sn b z1 z2
   refine s3.n b ?_ z3
   cases q:W1.h b with
   | none=>exact absurd q z1
   | some o=>
    have q':(if b=D then none else W2.h b)=some o:=sh b o q
    rw [if_neg hb] at q'
    rw [q']
    intro z; cases z
 refine ⟨fun i ys H2=>∃ (W2:Vw) (es:List Dt),W2.h=H2∧(Same W1.g W2.g∧Same W1.h (fun b=>if b=D then none else W2.h b)∧(∀ b,W1.h b≠none→W1.g b=none→W2.g b=none)∧W2.h D=some (.lst ys)∧W2.g D=none∧AllIs K W2.g es ys)∧ys.length≤i∧Pv i es,?_,?_,?_,?_,?_,?_⟩
 ·refine ⟨W1.mine D (.lst []) gD,[],rfl,⟨Same.refl _,fun b o q=>?_,fun b _ q=>q,zt,gD,allIs_nil.mpr rfl⟩,Nat.le_refl _,h0⟩
  have hb:b≠D:=fun e=>by rw [e,hD] at q; cases q
  show (if b=D then none else upd W1.h D (.lst []) b)=some o
  rw [if_neg hb,zw hb]
  exact q
 ·rintro i ys _ _ ⟨W2,es,rfl,⟨s2,_,_,q1,q2,_⟩,q4,_⟩
  exact ⟨q1,q4⟩
 ·rintro i ys _ hi ⟨W2,es,rfl,⟨s2,_⟩,_⟩
  exact (hJ W2 s2).1 i hi
 ·rintro ys _ ⟨W2,es,rfl,⟨s2,_⟩,_⟩
  exact (hJ W2 s2).2
 ·rintro i v ys _ σ0 hi ⟨e,he,ie⟩ ⟨W2,es,rfl,hW2,q4,q5⟩ hσ0
  obtain ⟨as,da,w⟩:=ht i e es hi he q5
  refine hg e v σ0 _ W2 as hσ0 (Is.mono0 hW2.1 ie) da _ fun vs ivs lvs=>⟨⟨vs.map some,rfl,by rw [List.length_map]; exact lvs⟩,?_⟩
  refine ht' (F:=W2.h) (as.map Sl.some++vk ρ js) (vs.map some++tR σ js) W2 _ (lw r1 hW2.1 ivs) w _ fun b W3 s3 w3=>?_
  have hW3:=stp hW2 s3
  cases b with
  | false=>exact ⟨W3,es,rfl,hW3,Nat.le_succ_of_le q4,w3⟩
  | true=>
   show te _ _ _
   refine h2 (F:=W3.h) (as.map Sl.some++vk ρ js) (vs.map some++tR σ js) W3 _ (lw r1 hW3.1 (ivs.mono s3)) w3 _ fun y w W4 s4 i4 q6=>?_
   obtain ⟨a1,a2,a3,a4,a5,a6⟩:=stp hW3 s4
   refine ⟨a4,W4.mine D (.lst (ys++[w])) a5,es++[y],rfl,⟨a1,fun b o q=>?_,a3,zt,a5,a6.append (allIs_cons.mpr ⟨w,[],rfl,i4,allIs_nil.mpr rfl⟩)⟩,by rw [List.length_append]; exact Nat.succ_le_succ q4,q6⟩
   have q':(if b=D then none else W4.h b)=some o:=a2 b o q
   have hb:b≠D:=fun e=>by rw [e,hD] at q; cases q
   rw [if_neg hb] at q'
   show (if b=D then none else upd W4.h D (.lst (ys++[w])) b)=some o
   rw [if_neg hb,zw hb]
   exact q'
 ·rintro ys _ ⟨W2,es,rfl,⟨s2,sh,sn,q1,q2,q3⟩,_,q5⟩
  refine kk es D ys W2 (s1.trans ⟨s2,fun b o q=>?_,sn⟩) (s1.h.free hD) q1 q2 q3 (hd es q5)
  have q':(if b=D then none else W2.h b)=some o:=sh b o q
  have hb:b≠D:=fun e=>by rw [e,hD] at q; cases q
  rwa [if_neg hb] at q'
def eS (ta:DTE):DTI:=fun ρ Q=>ta ρ fun d=>∃ ds,wc d=some ds∧ds.length≤100000∧Q ds.length fun i e=>ds[i]? = some e
def Uq (ta:DTE):DTI:=fun ρ Q=>ta ρ fun d=>∃ m:Int,d=.int m∧-(2 ^ 62)≤m∧m≤100000∧Q m.toNat fun i e=>e=.int i
section
variable {X:Cx} {fr:Fr} {osc scope:Scope} {bs caps:List Str} {js:List Nat} {N0:List Str} {L:Addr} {tg iter elt a:Expr} {ifs:List Expr} {ta te:DTE} {di:DTI} {tt:DTT} {dg:Dt→List Dt→Prop} {gt:TG} {px p0 pos pos1:Pos}
theorem lR (h:DE X iter ta):DI X tg iter (eS ta):=by
 obtain ⟨te,p,l⟩:=h
 refine ⟨_,qW p,fun ρ σ W Q r h R k=>l ρ σ W _ r h _ fun d v W1 s1 i1 ⟨ds,el,hl,q⟩=>?_⟩
 obtain ⟨a,xs,rfl,hq,ha⟩:=mt i1 el
 refine ⟨a,rfl,⟨xs,hq W1 (Same.refl _)⟩,k _ _ _ W1 s1 hl (fun W2 s2=>⟨fun i hi=>?_,?_⟩) q⟩
 ·rw [ha.length] at hi
  have hv:=List.getElem?_eq_getElem hi
  refine ⟨⟨xs,_,hq W2 s2,hv⟩,fun v' H3 ⟨e1,e2⟩=>⟨e1,?_⟩⟩
  obtain ⟨e,he,ie⟩:=ha.get' (e2 xs (hq W2 s2))
  exact ⟨e,he,ie⟩
 ·exact ⟨xs,hq W2 s2,by rw [ha.length]; exact Nat.le_refl _⟩
theorem eI (hg:Gl X "range") (hm:X.mg "range"=none) (h:DE X a ta) (hst:starEach [a] X.env=[(false,eval a X.env)]:=by rfl) (hst2:starEach [a] X.env=(false,eval a X.env)::starEach [] X.env:=by rfl):DI X tg (.Call (.Name "range" p0) [a] [] pos1) (Uq ta):=by
 obtain ⟨te,p,l⟩:=h
 refine ⟨_,kB hg hm p hst hst2,fun ρ σ W Q r h R k=>l ρ σ W _ r h _ fun d v W1 s1 i1 ⟨m,ed,m1,m2,q⟩=>?_⟩
 subst ed
 refine ⟨m,is_int.mp i1,m1,by omega,k _ _ (fun i e=>e=.int i) W1 s1 (by omega) (fun W2 s2=>⟨fun i hi=>⟨hi,fun v H3 ⟨e1,e2⟩=>⟨e1,.int i,rfl,?_⟩⟩,Nat.le_refl _⟩) q⟩
 rw [Int.zero_add] at e2
 exact is_int.mpr e2
theorem wV (hc:X.calm=true) (S:pO osc scope bs caps js N0=true) (hN0:X.N=N0) (he':X.env.scope=osc) (hcs:X.env.cells=cellsFrom (L+1) osc.names []) (hl:DI X tg iter di)
  (hg:∀ C s H fp pins,PG (zG X scope (vG X.env.cells scope.names) bs caps C s H fp pins) tg gt) (lg:LiG X.K bs.length gt dg)
  (ht:∀ C s H fp pins,DC (zG X scope (vG X.env.cells scope.names) bs caps C s H fp pins) ifs tt)
  (he:∀ C s H fp pins,DE (zG X scope (vG X.env.cells scope.names) bs caps C s H fp pins) elt te) (hs:∀ y,foldedSetIterable iter X.env y=pure y:=by intro _; rfl):
  DF X (.ListComp elt [⟨tg,iter,ifs,0⟩] scope pos) (wX js di dg tt te):=by
 obtain ⟨wi,p,l⟩:=hl
 exact ⟨_,j8 hc (ZS (hN0 ▸ S) he' hcs) p hg (fun C s H fp pins=>(ht C s H fp pins).up) (fun C s H fp pins=>(he C s H fp pins).up) hs,fB l lg fA Zo⟩
end
end OD
namespace OD
variable {Z:Hp}
open PySem PySem.Spec PyProof.Rows L2
section
variable {K:PySem.W.Frag} {F:Hp} {W W' W0:Vw}
theorem NewL.mono {d:Dt} {v:V} (h:NewL K F W d v) (s:Le W W'):NewL K F W' d v:=by
 obtain ⟨es,p,xs,h1,h2,h3,h4,h5,h6⟩:=h
 exact ⟨es,p,xs,h1,h2,h3,s.h _ _ h4,s.n p (by rw [h4]; intro z; cases z) h5,h6.mono s⟩
theorem Prt.mono {b:Bool} {d:Dt} {v:V} (h:Prt K F W b d v) (s:Le W W'):Prt K F W' b d v:=by
 cases b with
 | false=>exact Is.mono h s
 | true=>
  rcases h with h | ⟨h1,h2⟩
  ·exact .inl (h.mono s)
  ·exact .inr ⟨h1,Is.mono h2 s⟩
theorem Prt.frz {b:Bool} {d:Dt} {u:V} (le:Le W0 W) (h:Prt K W0.h W b d u):∃ W1:Vw,W1.h=W.h∧Same W.g W1.g∧Le W0 W1∧Is K W1.g d u∧
  ∀ b2 d2 u2,Prt K W0.h W b2 d2 u2→(∀ es fs,b=true→b2=true→d=.lst es→d2=.lst fs→u≠u2)→Prt K W0.h W1 b2 d2 u2:=by
 cases b with
 | false=>exact ⟨W,rfl,Same.refl _,le,h,fun _ _ _ k _=>k⟩
 | true=>
  rcases h with ⟨es,p,xs,rfl,rfl,h3,h4,h5,h6⟩ | ⟨_,h2⟩
  ·refine ⟨W.frz p _ h4,rfl,zL h5 _,uO le h3 h4 h5,is_lst.mpr ⟨p,xs,rfl,zt,AllIs.mono0 (zL h5 _) h6⟩,fun b2 d2 u2 k ne=>?_⟩
   cases b2 with
   | false=>exact Is.mono0 (zL h5 _) k
   | true=>
    rcases k with ⟨fs,q,ys,rfl,rfl,k3,k4,k5,k6⟩ | ⟨k1,k2⟩
    ·have hq:q≠p:=fun z=>ne es fs rfl rfl rfl rfl (by rw [z])
     exact .inl ⟨fs,q,ys,rfl,rfl,k3,k4,(zw hq).trans k5,AllIs.mono0 (zL h5 _) k6⟩
    ·exact .inr ⟨k1,Is.mono0 (zL h5 _) k2⟩
  ·exact ⟨W,rfl,Same.refl _,le,h2,fun _ _ _ k _=>k⟩
theorem Tld.frz {fr:Fr} {d:Dt} {v:V} (le:Le W0 W) (h:Tld K W0.h W fr d v):∃ W1:Vw,W1.h=W.h∧Le W0 W1∧Is K W1.g d v:=by
 match fr,h with
 | .d,h=>exact ⟨W,rfl,le,h⟩
 | .l,⟨es,p,xs,e1,e2,h3,h4,h5,h6⟩=>
  subst e1; subst e2
  exact ⟨W.frz p _ h4,rfl,uO le h3 h4 h5,is_lst.mpr ⟨p,xs,rfl,zt,AllIs.mono0 (zL h5 _) h6⟩⟩
 | .t a b,⟨d1,d2,q,u1,u2,e1,e2,hq,p1,p2,ne⟩=>
  subst e1; subst e2
  obtain ⟨W1,e1,s1,le1,i1,k1⟩:=p1.frz le
  obtain ⟨W2,e2,s2,le2,i2,_⟩:=(k1 b d2 u2 p2 ne).frz le1
  exact ⟨W2,e2.trans e1,le2,is_tup.mpr ⟨q,_,rfl,s2 _ _ (s1 _ _ hq),allIs_cons.mpr ⟨u1,_,rfl,Is.mono0 s2 i1,allIs_cons.mpr ⟨u2,_,rfl,i2,allIs_nil.mpr rfl⟩⟩⟩⟩
end
def l5 (K:PySem.W.Frag) (fr:Fr) (S:DSp):Sp:=fun vs H Q _=>∃ (W:Vw) (ds:List Dt) (Qd:Dt→Prop),W.h=H∧AllIs K W.g ds vs∧S ds Qd∧∀ d v W',Le W W'→Tld K W.h W' fr d v→Qd d→Q v W'.h
def rp (K:PySem.W.Frag) (fr:Fr) (S:yn):Sp:=fun vs H Q E=>∃ (W:Vw) (ds:List Dt) (Qd:Dt→Prop) (Ed:Addr→Prop),W.h=H∧AllIs K W.g ds vs∧S ds Qd Ed∧
 (∀ d v W',Le W W'→Tld K W.h W' fr d v→Qd d→Q v W'.h)∧∀ C H',Same W.h H'→Ed C→E (.ref C) none H'
structure TOk (P:Program) (w:World) (K:PySem.W.Frag) (mg:Str→Option Value) (base:Heap) (n:Nat) (x:Str) (fr:Fr) (S:DSp):Prop where
 ex:∃ f fd ps,mg x=some (.ref f)∧PySem.W.keepIn K (.ref f)=true∧Binds K fd ps []∧FnOk P w K mg base CX0 n f fd ps (l5 K fr S)
structure TOkX (P:Program) (w:World) (K:PySem.W.Frag) (mg:Str→Option Value) (base:Heap) (n:Nat) (x:Str) (fr:Fr) (S:yn):Prop where
 ex:∃ f fd ps,mg x=some (.ref f)∧PySem.W.keepIn K (.ref f)=true∧Binds K fd ps []∧FnOk P w K mg base (CX1 P w) n f fd ps (rp K fr S)
section
variable {P:Program} {w:World} {K:PySem.W.Frag} {mg:Str→Option Value} {base:Heap} {fr:Fr}
theorem TOk.dok {x:Str} {n:Nat} {S:DSp} (h:TOk P w K mg base n x fr S):DOk P w K mg base n x S:=
 let ⟨f,fd,ps,h1,h2,h3,h4⟩:=h.ex; ⟨f,fd,ps,h1,h2,h3,h4.imp fun vs H Q E ⟨W,ds,Qd,a,b,c,k⟩=>⟨W,ds,Qd,a,b,c,fun d v W' le t q=>by
  obtain ⟨W1,e1,le1,i1⟩:=t.frz le
  rw [← e1]
  exact k d v W1 le1 i1 q⟩⟩
theorem TOkX.dok {x:Str} {n:Nat} {S:yn} (h:TOkX P w K mg base n x fr S):DOkX P w K mg base n x S:=
 let ⟨f,fd,ps,h1,h2,h3,h4⟩:=h.ex; ⟨f,fd,ps,h1,h2,h3,h4.imp fun vs H Q E ⟨W,ds,Qd,Ed,a,b,c,k,ke⟩=>⟨W,ds,Qd,Ed,a,b,c,fun d v W' le t q=>by
  obtain ⟨W1,e1,le1,i1⟩:=t.frz le
  rw [← e1]
  exact k d v W1 le1 i1 q,ke⟩⟩
theorem okT {x qual:Str} {st:Stmt} {f:Addr} {fd:FuncData} {N ps:List Str} {k:Nat} {S:DSp} (F:Fun K x qual st f fd) (sc:zh N ps (defScope st)) (len:∀ ds Q,S ds Q→ds.length=ps.length)
  (hbody:∀ (cdv:Value) (A:Around) (outer:List Env) (s:Shared) (H:Hp) (E:XK),Room k (A.deeper (envOfC qual (defScope st) s.heap.objs.size f cdv))→∀ (ds:List Dt) (Q:Dt→Prop),S ds Q→
   ∃ t,DSs (yu CX0 P w K mg base N qual (defScope st) f cdv A outer s H E).nox fr (defBody st) t∧t { nx:=fun _=>False,rt:=Q } (ye N.length ds)):FnOk P w K mg base CX0 (k+1) f fd ps (l5 K fr S):=by
 refine F.ok sc (fun vs H Q E h=>?_) (fun cdv A outer s H vs Q E hr h=>?_)
 ·obtain ⟨W,ds,Qd,_,ia,hS,_⟩:=h
  rw [← ia.length]
  exact len ds Qd hS
 obtain ⟨W,ds,Qd,rfl,ia,hS,kk⟩:=h
 obtain ⟨t,⟨ts,p,l⟩,ht⟩:=hbody cdv A outer s W.h E hr ds Qd hS
 exact ⟨ts,p,l W W.g (ye N.length ds) (start N vs) W { nx:=fun _=>False,rt:=Qd } _ (xO ia (ul (Nat.succ_ne_self _))) ⟨fun ρ σ W' a q=>q.elim,kk,fun _ _ _ _ q=>q.elim,fun _ _ _ _ q=>q.elim⟩ ht⟩
theorem To {x qual:Str} {st:Stmt} {f:Addr} {fd:FuncData} {N ps:List Str} {k:Nat} {S:yn} (F:Fun K x qual st f fd) (sc:zh N ps (defScope st)) (len:∀ ds Q R,S ds Q R→ds.length=ps.length)
  (hbody:∀ (cdv:Value) (A:Around) (outer:List Env) (s:Shared) (H:Hp) (E:XK),Room k (A.deeper (envOfC qual (defScope st) s.heap.objs.size f cdv))→∀ (ds:List Dt) (Q:Dt→Prop) (R:Addr→Prop),S ds Q R→
   (∀ C,R C→Rz (yu (CX1 P w) P w K mg base N qual (defScope st) f cdv A outer s H E) C)→
   ∃ t,DSs (yu (CX1 P w) P w K mg base N qual (defScope st) f cdv A outer s H E) fr (defBody st) t∧t { nx:=fun _=>False,rt:=Q } (ye N.length ds)):FnOk P w K mg base (CX1 P w) (k+1) f fd ps (rp K fr S):=by
 refine Fun.okX F sc (fun vs H Q E h=>?_) (fun cdv A outer s H vs Q E hr h=>?_)
 ·obtain ⟨W,ds,Qd,Ed,_,ia,hS,_⟩:=h
  rw [← ia.length]
  exact len ds Qd Ed hS
 obtain ⟨W,ds,Qd,Ed,rfl,ia,hS,kk,ke⟩:=h
 obtain ⟨t,⟨ts,p,l⟩,ht⟩:=hbody cdv A outer s W.h E hr ds Qd Ed hS fun C hC=>jL fun H' z=>ke C H' z hC
 exact ⟨ts,p,l W W.g (ye N.length ds) (start N vs) W { nx:=fun _=>False,rt:=Qd } _ (xO ia (ul (Nat.succ_ne_self _))) ⟨fun ρ σ W' a q=>q.elim,kk,fun _ _ _ _ q=>q.elim,fun _ _ _ _ q=>q.elim⟩ ht⟩
theorem TOk.mk' {x qual:Str} {st:Stmt} {f:Addr} {fd:FuncData} {ps:List Str} {n:Nat} {S:DSp} (F:Fun K x qual st f fd) (hm:mg x=some (.ref f)) (hb:Binds K fd ps []) (h:FnOk P w K mg base CX0 n f fd ps (l5 K fr S)):TOk P w K mg base n x fr S:=
 ⟨f,fd,ps,hm,F.kp,hb,h⟩
theorem TOkX.mk' {x qual:Str} {st:Stmt} {f:Addr} {fd:FuncData} {ps:List Str} {n:Nat} {S:yn} (F:Fun K x qual st f fd) (hm:mg x=some (.ref f)) (hb:Binds K fd ps []) (h:FnOk P w K mg base (CX1 P w) n f fd ps (rp K fr S)):TOkX P w K mg base n x fr S:=
 ⟨f,fd,ps,hm,F.kp,hb,h⟩
end
def LiR (K:PySem.W.Frag) (Z:Hp) (fr:Fr) (te:TE) (t:DTE):Prop:=
 ∀ {F:Hp} (ρ:DS) (σ:St) (H:Vw) (Q:Dt→Prop),Rl K Z F H ρ σ→t ρ Q→∀ R:VK,(∀ d v H',Le H H'→Tld K H.h H' fr d v→Q d→R v H'.h)→te σ H.h R
def DR (X:Cx) (fr:Fr) (e:Expr) (t:DTE):Prop:=∃ te,PE X e te∧LiR X.K (Zx X) fr te t
def LiP (K:PySem.W.Frag) (Z:Hp) (b:Bool) (te:TE) (t:DTE):Prop:=
 ∀ {F:Hp} (ρ:DS) (σ:St) (H:Vw) (Q:Dt→Prop),Rl K Z F H ρ σ→t ρ Q→∀ R:VK,(∀ d v H',Le H H'→Prt K F H' b d v→Q d→R v H'.h)→te σ H.h R
def DP (X:Cx) (b:Bool) (e:Expr) (t:DTE):Prop:=∃ te,PE X e te∧LiP X.K (Zx X) b te t
theorem jz {K:PySem.W.Frag} {F G:Hp} {W:Vw} {fr:Fr} {d:Dt} {v:V} (z:∀ p,F p=none→G p=none) (h:Tld K F W fr d v):Tld K G W fr d v:=by
 have pp:∀ {b:Bool} {d:Dt} {v:V},Prt K F W b d v→Prt K G W b d v:=fun {b d v} h=>by
  cases b with
  | false=>exact h
  | true=>exact h.imp (fun h=>h.le z) id
 match fr,h with
 | .d,h=>exact h
 | .l,h=>exact NewL.le h z
 | .t a b,⟨d1,d2,q,u1,u2,e1,e2,hq,p1,p2,ne⟩=>exact ⟨d1,d2,q,u1,u2,e1,e2,hq,pp p1,pp p2,ne⟩
section
variable {X:Cx} {fr:Fr} {a b:Bool} {e e1 e2:Expr} {es:List Expr} {t t1 t2:DTE} {ta:DTA} {n:Nat} {x y:Str} {S:DSp} {SX:yn} {p pos p0 p1 p2:Pos} {i j:Nat}
theorem ZK (G:TOk X.prog X.w X.K X.mg X.base n x fr S) (hr:Room n X.A) (hg:Gl X x) (ha:DA X (e::es) ta) (hdb:(x == ("__debug__":Str))=false:=by decide)
  (he:starEach (e::es) X.env=(false,eval e X.env)::starEach es X.env:=by rfl) (hpl:(backTo pos (starEach es X.env)).any (·.1)=false:=by rfl):DR X fr (.Call (.Name x p) (e::es) [] pos) (eV S ta):=by
 obtain ⟨f,fd,ps,hm,hk,hb,F⟩:=G.ex
 obtain ⟨te,p1,l1⟩:=ha
 refine ⟨_,x6 F hr hg hm hk hb .nil sK p1 hdb he hpl,fun ρ σ H Q r h R k=>l1 ρ σ H _ r h _ fun ds vs H1 s1 i1 q1=>?_⟩
 rw [List.append_nil]
 exact ⟨H1,ds,Q,rfl,i1,q1,fun d v H2 s2 t2 q2=>k d v H2 (s1.trans s2) (jz (fun _ z=>s1.h.free z) t2) q2⟩
theorem eD (G:TOkX X.prog X.w X.K X.mg X.base n x fr SX) (hr:Room n X.A) (hg:Gl X x) (ha:DA X (e::es) ta) (hdb:(x == ("__debug__":Str))=false:=by decide)
  (he:starEach (e::es) X.env=(false,eval e X.env)::starEach es X.env:=by rfl) (hpl:(backTo pos (starEach es X.env)).any (·.1)=false:=by rfl):DR X fr (.Call (.Name x p) (e::es) [] pos) (mO X SX ta):=by
 obtain ⟨f,fd,ps,hm,hk,hb,F⟩:=G.ex
 obtain ⟨te,p1,l1⟩:=ha
 refine ⟨_,x6 F hr hg hm hk hb .nil sJ p1 hdb he hpl,fun ρ σ H Q r h R k=>l1 ρ σ H _ r h _ fun ds vs H1 s1 i1 q1=>?_⟩
 rw [List.append_nil]
 exact ⟨H1,ds,Q,Rz X,rfl,i1,q1,fun d v H2 s2 t2 q2=>k d v H2 (s1.trans s2) (jz (fun _ z=>s1.h.free z) t2) q2,fun C H' s' hC=>⟨C,rfl,(hC H' (((lu r).trans s1.h).trans s')).2⟩⟩
def R5 (t:DTE):DTE:=fun ρ Q=>t ρ fun d=>∃ d1 es,d=.tup [d1,.lst es]∧Q (.lst es)
theorem Ui {jj} (h:DR X (.t a true) e t) (hs:se (.Constant (.int 1) jj p0)):DF X (.Subscript e (.Constant (.int 1) jj p0) pos) (R5 t):=by
 obtain ⟨te,p1,l1⟩:=h
 refine ⟨_,j6 fE p1 j7 hs,fun ρ σ H Q r h R k=>l1 ρ σ H _ r h _ fun d v H1 s1 ⟨d1,d2,q,u1,u2,e1,e2,hq,pt1,pt2,ne⟩ ⟨d1',es,ed,qq⟩=>?_⟩
 subst e2
 rw [ed] at e1
 cases e1
 rcases pt2 with ⟨fs,p,xs,e1,e2,h3,h4,h5,h6⟩ | ⟨z,_⟩
 ·cases e1; subst e2
  exact .inr (.inl ⟨q,_,1,_,rfl,rfl,.of (H1.sub _ _ hq),rfl,k es p xs H1 s1 h3 h4 h5 h6 qq⟩)
 ·cases z
theorem Sz (h:DE X e t):DP X false e t:=let ⟨te,p,l⟩:=h; ⟨te,p,fun ρ σ H Q r h R k=>l ρ σ H Q r h R k⟩
def SF (t:DTE):DTE:=fun ρ Q=>t ρ fun d=>u8 d=true∧Q d
theorem R0 (h:DE X e t):DP X true e (SF t):=let ⟨te,p,l⟩:=h; ⟨te,p,fun ρ σ H Q r h R k=>l ρ σ H _ r h R fun d v H' s i ⟨z,q⟩=>k d v H' s (.inr ⟨z,i⟩) q⟩
def Ut (i:Nat):DTE:=fun ρ Q=>∃ ds,ρ[i]? = some (.own ds)∧Q (.lst ds)
def SJ (i:Nat):DTE:=fun ρ Q=>(∃ ds,ρ[i]? = some (.own ds)∧Q (.lst ds))∨∃ d,ρ[i]? = some (.some d)∧u8 d=true∧Q d
theorem Sy (i:Nat) (hN:X.N[i]? = some x:=by rfl) (hv:Vis X.env.scope x:=by first | exact Or.inl rfl | exact Or.inr (Or.inl rfl) | exact Or.inr (Or.inr rfl)) (hd:(x == ("__debug__":Str))=false:=by decide)
  (hcd:(x == ("__classdict__":Str))=false:=by decide):DP X true (.Name x p0) (SJ i):=by
 refine ⟨_,z5 hN hv hd hcd,fun ρ σ H Q r h R k=>?_⟩
 rcases h with ⟨ds,e,q⟩ | ⟨d,e,z,q⟩
 ·obtain ⟨b,xs,e1,e2,e3,e4,e5⟩:=r.ow i ds e
  exact ⟨.ref b,e1,k (.lst ds) _ H (Le.refl H) (.inl ⟨ds,b,xs,rfl,rfl,e4,e2,e3,e5⟩) q⟩
 ·obtain ⟨v,h1,h2⟩:=r.at_ i d e
  exact ⟨v,h1,k d v H (Le.refl H) (.inr ⟨z,h2⟩) q⟩
def eQ (t1 t2:DTE):DTS:=fun D ρ=>t1 ρ fun d1=>t2 ρ fun d2=>D.rt (.tup [d1,d2])
theorem lN {x1} (h1:DP X a e1 t1) (h2:DP X b e2 t2) (hne:a=false∨b=false:=by first | exact .inl rfl | exact .inr rfl)
  (hst:starEach [e1,e2] X.env=(false,eval e1 X.env)::starEach [e2] X.env:=by rfl) (hst2:starEach [e2] X.env=(false,eval e2 X.env)::starEach [] X.env:=by rfl):
  DSt X (.t a b) (.Return (some (.Tuple [e1,e2] x1 p0)) pos) (eQ t1 t2):=by
 obtain ⟨te1,q1,l1⟩:=h1
 obtain ⟨te2,q2,l2⟩:=h2
 refine ⟨_,uF (qX (zC q1 (zC q2 z4 hst2) hst)),fun W0 G ρ σ W D D' at_ s h=>?_⟩
 refine l1 ρ σ W _ at_.rl h _ fun d1 u1 W1 s1 pt1 h=>?_
 refine l2 ρ σ W1 _ (at_.rl.mono s1) h _ fun d2 u2 W2 s2 pt2 q=>?_
 refine ⟨by show 2≤_; decide,fun p hp=>?_⟩
 have s3:=wd hp (.tup [u1,u2])
 refine s.tl (.tup [d1,d2]) (.ref p) (W2.new p (.tup [u1,u2])) ((at_.le.trans s1).trans (s2.trans s3)) ⟨d1,d2,p,u1,u2,rfl,rfl,zt,(pt1.mono s2).mono s3,pt2.mono s3,fun _ _ z1 z2=>?_⟩ q
 rcases hne with z | z
 ·rw [z1] at z; cases z
 ·rw [z2] at z; cases z
theorem ey {x1} (i:Nat) (h2:DF X e2 t2) (hN:X.N[i]? = some x:=by rfl) (hv:Vis X.env.scope x:=by first | exact Or.inl rfl | exact Or.inr (Or.inl rfl) | exact Or.inr (Or.inr rfl)) (hd:(x == ("__debug__":Str))=false:=by decide)
  (hcd:(x == ("__classdict__":Str))=false:=by decide)
  (hst:starEach [.Name x p1,e2] X.env=(false,eval (.Name x p1) X.env)::starEach [e2] X.env:=by rfl) (hst2:starEach [e2] X.env=(false,eval e2 X.env)::starEach [] X.env:=by rfl):
  DSt X (.t true true) (.Return (some (.Tuple [.Name x p1,e2] x1 p0)) pos) (eQ (Ut i) t2):=by
 obtain ⟨te2,q2,l2⟩:=h2
 refine ⟨_,uF (qX (zC (z5 hN hv hd hcd) (zC q2 z4 hst2) hst)),fun W0 G ρ σ W D D' at_ s h=>?_⟩
 obtain ⟨ds,e,h⟩:=h
 obtain ⟨c,xs,e1,k2,k3,k4,k5⟩:=at_.rl.ow i ds e
 refine ⟨.ref c,e1,l2 ρ σ W _ at_.rl h _ fun es q ys W2 s2 h0 h1 h2 i2 qq=>?_⟩
 refine ⟨by show 2≤_; decide,fun p hp=>?_⟩
 have s3:=wd hp (.tup [.ref c,.ref q])
 have n1:NewL X.K W0.h W (.lst ds) (.ref c):=⟨ds,c,xs,rfl,rfl,k4,k2,k3,k5⟩
 have n2:NewL X.K W0.h W2 (.lst es) (.ref q):=⟨es,q,ys,rfl,rfl,at_.le.h.free h0,h1,h2,i2⟩
 refine s.tl _ (.ref p) (W2.new p (.tup [.ref c,.ref q])) (at_.le.trans (s2.trans s3)) ⟨_,_,p,_,_,rfl,rfl,zt,.inl ((n1.mono s2).mono s3),.inl (n2.mono s3),fun _ _ _ _ _ _ z=>?_⟩ qq
 cases z
 rw [h0] at k2
 cases k2
theorem eo {x1} (i j:Nat) (hij:i≠j:=by decide) (hN:X.N[i]? = some x:=by rfl) (hN2:X.N[j]? = some y:=by rfl) (hv:Vis X.env.scope x:=by first | exact Or.inl rfl | exact Or.inr (Or.inl rfl) | exact Or.inr (Or.inr rfl)) (hv2:Vis X.env.scope y:=by first | exact Or.inl rfl | exact Or.inr (Or.inl rfl) | exact Or.inr (Or.inr rfl)) (hd:(x == ("__debug__":Str))=false:=by decide)
  (hcd:(x == ("__classdict__":Str))=false:=by decide) (hd2:(y == ("__debug__":Str))=false:=by decide) (hcd2:(y == ("__classdict__":Str))=false:=by decide)
  (hst:starEach [.Name x p1,.Name y p2] X.env=(false,eval (.Name x p1) X.env)::starEach [.Name y p2] X.env:=by rfl) (hst2:starEach [.Name y p2] X.env=(false,eval (.Name y p2) X.env)::starEach [] X.env:=by rfl):
  DSt X (.t true true) (.Return (some (.Tuple [.Name x p1,.Name y p2] x1 p0)) pos) (eQ (Ut i) (Ut j)):=by
 refine ⟨_,uF (qX (zC (z5 hN hv hd hcd) (zC (z5 hN2 hv2 hd2 hcd2) z4 hst2) hst)),fun W0 G ρ σ W D D' at_ s h=>?_⟩
 obtain ⟨ds,e,es,e',h⟩:=h
 obtain ⟨c,xs,e1,k2,k3,k4,k5⟩:=at_.rl.ow i ds e
 obtain ⟨c',ys,e1',k2',k3',k4',k5'⟩:=at_.rl.ow j es e'
 refine ⟨.ref c,e1,.ref c',e1',by show 2≤_; decide,fun p hp=>?_⟩
 have s3:=wd hp (.tup [.ref c,.ref c'])
 have n1:NewL X.K W0.h W (.lst ds) (.ref c):=⟨ds,c,xs,rfl,rfl,k4,k2,k3,k5⟩
 have n2:NewL X.K W0.h W (.lst es) (.ref c'):=⟨es,c',ys,rfl,rfl,k4',k2',k3',k5'⟩
 refine s.tl _ (.ref p) (W.new p (.tup [.ref c,.ref c'])) (at_.le.trans s3) ⟨_,_,p,_,_,rfl,rfl,zt,.inl (n1.mono s3),.inl (n2.mono s3),fun _ _ _ _ _ _ z=>?_⟩ h
 exact at_.rl.ne i j ds es hij e e' (by rw [e1,e1',z])
def slP:Bool→Dt→Sl
 | true,.lst es=>.own es
 | _,d=>.some d
theorem Rl.ownN {K:PySem.W.Frag} {F:Hp} {W:Vw} {ρ:DS} {σ:St} (r:Rl K Z F W ρ σ) {p:Addr} {xs:List V} {ds:List Dt} (i:Nat) (nep:∀ (j:Nat) (es:List Dt),ρ[j]? = some (Sl.own es)→σ[j]?≠some (some (V.ref p))) (nea:∀ (j:Nat) (a:Addr) (es:List Dt),ρ[j]? = some (Sl.arg a es)→a≠p)
  (hF:F p=none) (h1:W.h p=some (.lst xs)) (h2:W.g p=none) (h3:AllIs K W.g ds xs):Rl K Z F W (ρ.set i (.own ds)) (σ.set i (some (.ref p))):=by
 refine ⟨by rw [List.length_set,List.length_set]; exact r.len,fun j e q=>?_,fun j es q=>?_,fun j k es es' hjk q1 q2=>?_,r.fr,r.z,fun j a fs q=>?_⟩
 ·rcases zl q with ⟨_,_,e1⟩ | ⟨hij,q⟩
  ·cases e1
  ·rw [List.getElem?_set_ne hij]
   exact r.at_ j e q
 ·rcases zl q with ⟨rfl,hl,e1⟩ | ⟨hij,q⟩
  ·cases e1
   exact ⟨p,xs,by rw [List.getElem?_set_self (by rw [← r.len]; exact hl)],h1,h2,hF,h3⟩
  ·rw [List.getElem?_set_ne hij]
   exact r.ow j es q
 ·rcases zl q1 with ⟨rfl,hl,e1⟩ | ⟨hij,q1⟩
  ·rcases zl q2 with ⟨rfl,_,_⟩ | ⟨hik,q2⟩
   ·exact absurd rfl hjk
   ·rw [List.getElem?_set_self (by rw [← r.len]; exact hl),List.getElem?_set_ne hik]
    exact fun z=>nep k es' q2 z.symm
  ·rcases zl q2 with ⟨rfl,hl,_⟩ | ⟨hik,q2⟩
   ·rw [List.getElem?_set_self (by rw [← r.len]; exact hl),List.getElem?_set_ne hij]
    exact nep j es q1
   ·rw [List.getElem?_set_ne hij,List.getElem?_set_ne hik]
    exact r.ne j k es es' hjk q1 q2
 ·rcases zl q with ⟨_,_,e1⟩ | ⟨hij,q⟩
  ·cases e1
  obtain ⟨⟨ys,g1,g2⟩,k1,k2⟩:=r.ar j a fs q
  refine ⟨⟨ys,by rw [List.getElem?_set_ne hij]; exact g1,g2⟩,fun k es q'=>?_,fun k c es q'=>?_⟩
  ·rcases zl q' with ⟨rfl,hl,e1⟩ | ⟨hik,q'⟩
   ·rw [List.getElem?_set_self (by rw [← r.len]; exact hl)]
    intro z
    cases z
    exact nea j _ fs q rfl
   ·rw [List.getElem?_set_ne hik]
    exact k1 k es q'
  ·rcases zl q' with ⟨_,_,e1⟩ | ⟨hik,q'⟩
   ·cases e1
   exact k2 k c es q'
theorem Rl.part {K:PySem.W.Frag} {F F':Hp} {W:Vw} {ρ:DS} {σ:St} (r:Rl K Z F W ρ σ) {b:Bool} {d:Dt} {v:V} (i:Nat) (h:Prt K F' W b d v) (hF:∀ p,F' p=none→F p=none)
  (nep:∀ (p:Addr) (j:Nat) (es fs:List Dt),b=true→d=.lst fs→v=.ref p→F' p=none→ρ[j]? = some (Sl.own es)→σ[j]?≠some (some (V.ref p))) (nea:∀ (p:Addr) (j:Nat) (a:Addr) (es:List Dt),F' p=none→ρ[j]? = some (Sl.arg a es)→a≠p):
  Rl K Z F W (ρ.set i (slP b d)) (σ.set i (some v)):=by
 cases b with
 | false=>cases d <;> exact r.set i h
 | true=>
  rcases h with ⟨es,p,xs,rfl,rfl,h3,h4,h5,h6⟩ | ⟨z,h2⟩
  ·exact r.ownN i (fun j fs e=>nep p j fs es rfl rfl rfl h3 e) (fun j a fs e=>nea p j a fs h3 e) (hF p h3) h4 h5 h6
  ·cases d <;> first | exact r.set i h2 | cases z
def SB (a b:Bool) (i j:Nat) (te:DTE):DTS:=fun D ρ=>te ρ fun d=>∃ d1 d2,d=.tup [d1,d2]∧D.nx ((ρ.set i (slP a d1)).set j (slP b d2))
theorem ZG {px py pt:Pos} {kt:Nat} (hc:X.calm=true) (hN:X.N.Nodup) (hi:X.N[i]? = some x) (hj:X.N[j]? = some y) (hx:Loc X.env.scope x) (hy:Loc X.env.scope y) (h:DR X (.t a b) e t)
  (hf:X.fn x=true∨X.env.scope.names.lookup x=some .local:=by first | exact .inl rfl | exact .inr rfl | assumption) (hf2:X.fn y=true∨X.env.scope.names.lookup y=some .local:=by first | exact .inl rfl | exact .inr rfl | assumption)
  (hs:swapsWithSole [.Tuple [.Name x px,.Name y py] kt pt] e pos.line X.env=pure false:=by rfl) (hw:swappedStores [.Tuple [.Name x px,.Name y py] kt pt] e X.env=pure none:=by rfl):
  DSt X fr (.Assign [.Tuple [.Name x px,.Name y py] kt pt] e pos) (SB a b i j t):=by
 obtain ⟨tt,p,l⟩:=h
 refine ⟨_,nY p (sI hc (yl (zR hN hi hx hf) (yl (zR hN hj hy hf2) vQ))) hs hw,fun W0 G ρ σ W D D' at_ s h=>l ρ σ W _ at_.rl h _ fun d v W1 s1 ⟨d1,d2,q,u1,u2,e1,e2,hq,pt1,pt2,ne⟩ ⟨d1',d2',ed,qq⟩=>?_⟩
 subst e2
 rw [ed] at e1
 cases e1
 refine ⟨q,_,rfl,.of (W1.sub _ _ hq),rfl,u1,[u2],rfl,u2,[],rfl,rfl,?_⟩
 have a1:=at_.step s1
 have hz:∀ p,W.h p=none→W0.h p=none:=fun p z=>at_.le.h.free z
 have nep:∀ (p:Addr) (k:Nat) (es:List Dt),W.h p=none→ρ[k]? = some (Sl.own es)→σ[k]?≠some (some (V.ref p)):=fun p k es z e z'=>by
  obtain ⟨c,xs,k1,k2,_⟩:=at_.rl.ow k es e
  rw [z'] at k1
  cases k1
  rw [z] at k2
  cases k2
 have nea:∀ (p:Addr) (k:Nat) (a:Addr) (es:List Dt),W.h p=none→ρ[k]? = some (Sl.arg a es)→a≠p:=fun p k a es z e z'=>by
  obtain ⟨⟨xs,k1,k2,_⟩,_,_⟩:=at_.rl.ar k a es e
  rw [z',z] at k2
  cases k2
 have r1:=a1.rl.part i pt1 hz (fun p k es _ _ _ _ z e=>nep p k es z e) (fun p k a es z e=>nea p k a es z e)
 have r2:=r1.part j pt2 hz (fun p k es fs hb2 hd2 hu z e=>?_) (fun p k a' es z e=>?_)
 ·exact s.nx _ _ W1 ⟨a1.le,a1.gs,r2⟩ qq
 ·rcases zl e with ⟨rfl,hl,e1⟩ | ⟨hik,e⟩
  ·rw [List.getElem?_set_self (by rw [← at_.rl.len]; exact hl)]
   cases a with
   | false=>cases d1 <;> cases e1
   | true=>
    cases d1 with
    | lst gs=>exact fun z'=>ne gs fs rfl hb2 rfl hd2 (by rw [hu]; exact Option.some.inj (Option.some.inj z'))
    | _=>cases e1
  ·rw [List.getElem?_set_ne hik]
   exact nep p k es z e
 ·rcases zl e with ⟨rfl,hl,e1⟩ | ⟨hik,e⟩
  ·cases a with
   | false=>cases d1 <;> cases e1
   | true=>cases d1 <;> cases e1
  ·exact nea p k a' es z e
end
end OD
namespace L2
open PySem PySem.Spec PyProof.Rows
def Cx.arg (X:Cx):Cx:={ X with fn:=fun y=>!(y == "") }
section
variable {X:Cx} {pins:List (Addr × Obj)} {σ:St} {H:Hp} {s:Shared}
theorem Inv.arg (I:Inv X pins σ H s) (hf:∀ y,X.fn y=true):Inv X.arg pins σ H s:=
 ⟨⟨I.ok.mod,I.ok.kind,I.ok.glob,I.ok.blt,I.ok.above,I.ok.inj,I.ok.has,fun x c _=>I.ok.cab x c (hf x),I.ok.hd,I.ok.frames,I.ok.stk,I.ok.exf,I.ok.bs,I.ok.bsz,I.ok.noex,I.ok.exfs,I.ok.funs,I.ok.frf⟩,I.os,I.bare,I.base,I.loc,I.cell,I.free,I.freeC,I.pin,I.hok,I.len⟩
theorem Inv.outA (ok:X.Ok) (I:Inv X.arg pins σ H s):Inv X pins σ H s:=⟨ok,I.os,I.bare,I.base,I.loc,I.cell,I.free,I.freeC,I.pin,I.hok,I.len⟩
theorem SP.outA {D:Ends} {f:Flow} {s':Shared} (ok:X.Ok) (h:SP X.arg pins D f s'):SP X pins D f s':=by
 cases f with
 | next=>obtain ⟨σ',H',I,q⟩:=h; exact ⟨σ',H',I.outA ok,q⟩
 | brk=>obtain ⟨σ',H',I,q⟩:=h; exact ⟨σ',H',I.outA ok,q⟩
 | cont=>obtain ⟨σ',H',I,q⟩:=h; exact ⟨σ',H',I.outA ok,q⟩
 | ret u=>obtain ⟨v,σ',H',I,r,q⟩:=h; exact ⟨v,σ',H',I.outA ok,r,q⟩
theorem PSs.outA {sts:List Stmt} {ts:TS} (h:PSs X.arg sts ts) (hf:∀ y,X.fn y=true):PSs X sts ts:=fun pins s σ H D I q=>thn (h pins s σ H D (I.arg hf) q) fun _ _ z=>SP.outA I.ok z
theorem fL:Rm X (fun o i H Q=>∃ p xs k v,o=.ref p∧i=.int k∧0≤k∧H p=some (.lst xs)∧xs[k.toNat]? = some v∧Q v H):=by
 intro pins s σ H o i ov iv Q I ro ri h
 obtain ⟨p,xs,k,v,rfl,rfl,h0,hp,hv,q⟩:=h
 cases ro
 obtain ⟨t,rfl⟩:=ri
 obtain ⟨its,r,pl,hz⟩:=I.list (.of hp)
 obtain ⟨w,ew,rw'⟩:=r.get hv
 have hl:=r.length
 have hn:=vC
 have hk:k.toNat<xs.length:=by
  rcases Nat.lt_or_ge k.toNat xs.length with z | z
  ·exact z
  ·rw [List.getElem?_eq_none z] at hv; cases hv
 exact wpAny_getItem_list pl.isList h0 (by omega) (by simpa using ew) ⟨v,H,I,rw',q⟩
end
end L2
namespace OD
variable {Z:Hp}
open PySem PySem.Spec PyProof.Rows L2
theorem Yy {X:Cx}:Zx X.arg=fun _=>none:=if_pos (.inr (by show (!(("":Str) == ""))=false; decide))
def Vw.del (W:Vw) (a:Addr) (hg:W.g a=none):Vw:=⟨W.g,fun b=>if b=a then none else W.h b,fun b o q=>by
 have:b≠a:=fun e=>by rw [e,hg] at q; cases q
 show (if b=a then none else W.h b)=some o
 rw [if_neg this]
 exact W.sub _ _ q⟩
theorem uW {W:Vw} {a b:Addr} {hg:W.g a=none} (h:b≠a):(W.del a hg).h b=W.h b:=if_neg h
theorem eK (W:Vw) (a:Addr) (hg:W.g a=none):Le (W.del a hg) W:=⟨Same.refl _,fun b o q=>by
 by_cases e:b=a
 ·subst e
  have q:(if b=b then none else W.h b)=some o:=q
  rw [if_pos rfl] at q
  cases q
 ·rw [← uW (hg:=hg) e]; exact q,fun _ _ h=>h⟩
theorem Le.undel {W0 W W':Vw} {a:Addr} {hg:W.g a=none} (l0:Le W0 W) (h0:W0.h a=none) (l:Le (W.del a hg) W'):Le W0 W':=
 ⟨l0.g.trans l.g,fun b o q=>by
  have e:b≠a:=fun e=>by rw [e,h0] at q; cases q
  exact l.h b o ((uW e).trans (l0.h b o q)),fun b h1 h2=>by
  have e:b≠a:=fun e=>h1 (e ▸ h0)
  exact l.n b (by rw [uW e]; exact fun z=>h1 (l0.h.free z)) (l0.n b h1 h2)⟩
theorem Rl.lent {K:PySem.W.Frag} {F:Hp} {W W':Vw} {ρ:DS} {σ:St} (r:Rl K Z F W ρ σ) {i:Nat} {ds fs:List Dt} {a:Addr} {ys:List V} (hi:ρ[i]? = some (.own ds)) (ha:σ[i]? = some (some (.ref a))) (hg:W.g a=none) (hF:F a=none)
  (le:Le (W.del a hg) W') (h1:W'.h a=some (.lst ys)) (h2:W'.g a=none) (h3:AllIs K W'.g fs ys):Rl K Z F W' (ρ.set i (.own fs)) σ:=by
 have other:∀ j gs,j≠i→ρ[j]? = some (.own gs)→σ[j]?≠some (some (.ref a)):=fun j gs hj q z=>r.ne j i gs ds hj q hi (z.trans ha.symm)
 have keep:∀ b xs,b≠a→W.h b=some (.lst xs)→W.g b=none→W'.h b=some (.lst xs)∧W'.g b=none:=fun b xs hb q1 q2=>
  ⟨le.h b _ ((uW hb).trans q1),le.n b (by rw [uW hb,q1]; intro z; cases z) q2⟩
 refine ⟨by rw [List.length_set]; exact r.len,fun j e q=>?_,fun j gs q=>?_,fun j k gs gs' hjk q1 q2=>?_,fun p o q=>?_,r.z,fun j c gs q=>?_⟩
 ·rcases zl q with ⟨_,_,e1⟩ | ⟨hij,q⟩
  ·cases e1
  ·obtain ⟨v,e1,e2⟩:=r.at_ j e q
   exact ⟨v,e1,Is.mono0 le.g e2⟩
 ·rcases zl q with ⟨rfl,_,e1⟩ | ⟨hij,q⟩
  ·cases e1
   exact ⟨a,ys,ha,h1,h2,hF,h3⟩
  ·obtain ⟨b,xs,e1,e2,e3,e4,e5⟩:=r.ow j gs q
   have hb:b≠a:=fun z=>other j gs (fun z=>hij z.symm) q (z ▸ e1)
   obtain ⟨k1,k2⟩:=keep b xs hb e2 e3
   exact ⟨b,xs,e1,k1,k2,e4,AllIs.mono0 le.g e5⟩
 ·have k1:∃ hs,ρ[j]? = some (.own hs):=by
   rcases zl q1 with ⟨rfl,_,_⟩ | ⟨_,q⟩
   ·exact ⟨_,hi⟩
   ·exact ⟨_,q⟩
  have k2:∃ hs,ρ[k]? = some (.own hs):=by
   rcases zl q2 with ⟨rfl,_,_⟩ | ⟨_,q⟩
   ·exact ⟨_,hi⟩
   ·exact ⟨_,q⟩
  obtain ⟨_,k1⟩:=k1
  obtain ⟨_,k2⟩:=k2
  exact r.ne j k _ _ hjk k1 k2
 ·have e:p≠a:=fun e=>by rw [e,hF] at q; cases q
  exact le.h p o ((uW e).trans (r.fr p o q))
 ·rcases zl q with ⟨_,_,e1⟩ | ⟨hij,q⟩
  ·cases e1
  obtain ⟨⟨xs,g1,g2,g3,g4,g5⟩,k1,k2⟩:=r.ar j c gs q
  have hc:c≠a:=fun z=>k1 i ds hi (by rw [z]; exact ha)
  obtain ⟨m1,m2⟩:=keep c xs hc g2 g3
  refine ⟨⟨xs,g1,m1,m2,g4,AllIs.mono0 le.g g5⟩,fun k es' q'=>?_,fun k c' es' q'=>?_⟩
  ·rcases zl q' with ⟨rfl,_,_⟩ | ⟨_,q'⟩
   ·exact k1 i ds hi
   ·exact k1 k es' q'
  ·rcases zl q' with ⟨_,_,e1⟩ | ⟨hik,q'⟩
   ·cases e1
   exact k2 k c' es' q'
theorem Rl.putA {K:PySem.W.Frag} {F:Hp} {W:Vw} {ρ:DS} {σ:St} (r:Rl K Z F W ρ σ) {i:Nat} {ds es:List Dt} {a:Addr} {ys:List V} (hi:ρ[i]? = some (.arg a ds)) (hg:W.g a=none) (hF:F a=none) (h3:AllIs K W.g es ys):
  Rl K Z F (W.mine a (.lst ys) hg) (ρ.set i (.arg a es)) σ:=by
 obtain ⟨⟨xs,ha,_⟩,no,on⟩:=r.ar i a ds hi
 refine ⟨by rw [List.length_set]; exact r.len,fun j e q=>?_,fun j fs q=>?_,fun j k fs fs' hjk q1 q2=>?_,fun p o q=>?_,r.z,fun j c fs q=>?_⟩
 ·rcases zl q with ⟨_,_,e1⟩ | ⟨hij,q⟩
  ·cases e1
  ·exact r.at_ j e q
 ·rcases zl q with ⟨_,_,e1⟩ | ⟨hij,q⟩
  ·cases e1
  ·obtain ⟨b,xs,e1,e2,e3,e4,e5⟩:=r.ow j fs q
   have hb:b≠a:=fun z=>no j fs q (z ▸ e1)
   exact ⟨b,xs,e1,(zw hb).trans e2,e3,e4,e5⟩
 ·rcases zl q1 with ⟨_,_,e1⟩ | ⟨_,q1⟩
  ·cases e1
  rcases zl q2 with ⟨_,_,e1⟩ | ⟨_,q2⟩
  ·cases e1
  exact r.ne j k _ _ hjk q1 q2
 ·have e:p≠a:=fun e=>by rw [e,hF] at q; cases q
  exact (zw (H:=W.h) (o:=.lst ys) e).trans (r.fr p o q)
 ·rcases zl q with ⟨rfl,hl,e1⟩ | ⟨hij,q⟩
  ·cases e1
   refine ⟨⟨ys,ha,zt,hg,hF,h3⟩,fun k es' q'=>?_,fun k c' es' q'=>?_⟩
   ·rcases zl q' with ⟨_,_,e1⟩ | ⟨_,q'⟩
    ·cases e1
    ·exact no k es' q'
   ·rcases zl q' with ⟨rfl,_,_⟩ | ⟨hik,q'⟩
    ·rfl
    ·exact on k c' es' q'
  ·exact absurd (on j c fs q) (fun z=>hij z.symm)
theorem At.putA {K:PySem.W.Frag} {W0 W:Vw} {G:Hp} {ρ:DS} {σ:St} (at_:At K Z W0 G W ρ σ) {i:Nat} {ds es:List Dt} {a:Addr} {ys:List V} (hi:ρ[i]? = some (.arg a ds)) (hg:W.g a=none) (hF:W0.h a=none) (h3:AllIs K W.g es ys):
  At K Z W0 G (W.mine a (.lst ys) hg) (ρ.set i (.arg a es)) σ:=
 ⟨⟨at_.le.g,fun b o q=>by
   have:b≠a:=fun e=>by rw [e,hF] at q; cases q
   show upd W.h a _ b=some o
   rw [zw this]; exact at_.le.h _ _ q,at_.le.n⟩,at_.gs,at_.rl.putA hi hg hF h3⟩
abbrev ASp:=Dt→List Dt→List Dt→(List Dt→Prop)→Prop
def qG (K:PySem.W.Frag) (S:ASp):Sp:=fun vs H Q _=>∃ (W:Vw) (d0:Dt) (es0 ds:List Dt) (Qd:List Dt→Prop) (v0:V) (a:Addr) (xs vs':List V) (hg:W.g a=none),W.h=H∧vs=v0::.ref a::vs'∧W.h a=some (.lst xs)∧Is K W.g d0 v0∧AllIs K W.g es0 xs∧AllIs K W.g ds vs'∧S d0 es0 ds Qd∧
 ∀ es ys W',Le (W.del a hg) W'→W'.h a=some (.lst ys)→W'.g a=none→AllIs K W'.g es ys→Qd es→Q .non W'.h
structure AOk (P:Program) (w:World) (K:PySem.W.Frag) (mg:Str→Option Value) (base:Heap) (n:Nat) (x:Str) (S:ASp):Prop where
 ex:∃ f fd ps,mg x=some (.ref f)∧PySem.W.keepIn K (.ref f)=true∧Binds K fd ps []∧FnOk P w K mg base CX0 n f fd ps (qG K S)
def rm (n:Nat) (d0:Dt) (a:Addr) (es0 ds:List Dt):DS:=.some d0::.arg a es0::(ds.map Sl.some++List.replicate (n - (ds.length+2)) Sl.none)
section
variable {P:Program} {w:World} {K:PySem.W.Frag} {mg:Str→Option Value} {base:Heap}
theorem ky {W:Vw} {N:List Str} {d0:Dt} {v0:V} {a:Addr} {es0 ds:List Dt} {xs vs:List V} (hg:W.g a=none) (ha:W.h a=some (.lst xs)) (i0:Is K W.g d0 v0) (i1:AllIs K W.g es0 xs) (i2:AllIs K W.g ds vs):
  Rl K (fun _=>none) (W.del a hg).h W (rm N.length d0 a es0 ds) (L2.start N (v0::.ref a::vs)):=by
 have hl:=i2.length
 have cls:∀ (i:Nat) (y:Sl),(ds.map Sl.some++List.replicate (N.length - (ds.length+2)) Sl.none)[i]? = some y→(∃ d,ds[i]? = some d∧y=.some d)∨y=.none:=fun i y e=>by
  by_cases hi:i<ds.length
  ·rw [List.getElem?_append_left (by rw [List.length_map]; exact hi),List.getElem?_map] at e
   obtain ⟨d',h1,h2⟩:=Option.map_eq_some_iff.mp e
   exact .inl ⟨d',h1,h2.symm⟩
  ·rw [List.getElem?_append_right (by rw [List.length_map]; omega),List.getElem?_replicate] at e
   split at e
   ·exact .inr (Option.some.inj e).symm
   ·cases e
 have noOwn:∀ (i:Nat) (es:List Dt),(rm N.length d0 a es0 ds)[i]? = some (.own es)→False:=fun i es e=>by
  match i,e with
  | 0,e=>cases e
  | 1,e=>cases e
  | i+2,e=>
   rcases cls i _ e with ⟨_,_,e1⟩ | e1 <;> cases e1
 have dela:(W.del a hg).h a=none:=if_pos rfl
 refine ⟨?_,fun i d e=>?_,fun i es e=>(noOwn i es e).elim,fun i j es fs _ e _=>(noOwn i es e).elim,(eK W a hg).h,(fun _ _ q=>nomatch q),fun i c es e=>?_⟩
 ·unfold L2.start rm
  rw [List.length_cons,List.length_cons,List.length_append,List.length_append,List.length_map,List.length_map,List.length_replicate,List.length_replicate,List.length_cons,List.length_cons,hl]
  omega
 ·match i,e with
  | 0,e=>cases e; exact ⟨v0,rfl,i0⟩
  | 1,e=>cases e
  | i+2,e=>
   rcases cls i _ e with ⟨d',q,e1⟩ | e1
   ·cases e1
    obtain ⟨v,h1,h2⟩:=i2.get q
    refine ⟨v,?_,h2⟩
    have hi:i<vs.length:=by
     rcases Nat.lt_or_ge i vs.length with h | h
     ·exact h
     ·rw [List.getElem?_eq_none h] at h1; cases h1
    unfold L2.start
    show (vs.map some++_)[i]? = _
    rw [List.getElem?_append_left (by rw [List.length_map]; exact hi),List.getElem?_map,h1]
    rfl
   ·cases e1
 ·have hone:∀ (j:Nat) (b:Addr) (es:List Dt),(rm N.length d0 a es0 ds)[j]? = some (.arg b es)→j=1∧b=a∧es=es0:=fun j b es e=>by
   match j,e with
   | 0,e=>cases e
   | 1,e=>cases e; exact ⟨rfl,rfl,rfl⟩
   | j + 2,e=>rcases cls j _ e with ⟨_,_,e1⟩ | e1 <;> cases e1
  obtain ⟨rfl,rfl,rfl⟩:=hone i c es e
  exact ⟨⟨xs,rfl,ha,hg,dela,i1⟩,fun j es e=>(noOwn j es e).elim,fun j b es e=>(hone j b es e).1⟩
theorem okA {x qual:Str} {st:Stmt} {f:Addr} {fd:FuncData} {N ps:List Str} {k:Nat} {S:ASp} (F:Fun K x qual st f fd) (sc:zh N ps (defScope st)) (len:∀ d0 es0 ds Q,S d0 es0 ds Q→ds.length+2=ps.length)
  (hbody:∀ (cdv:Value) (A:Around) (outer:List Env) (s:Shared) (H:Hp) (E:XK),Room k (A.deeper (envOfC qual (defScope st) s.heap.objs.size f cdv))→∀ (d0:Dt) (es0 ds:List Dt) (Q:List Dt→Prop) (a:Addr),S d0 es0 ds Q→
   ∃ t,DSs (yu CX0 P w K mg base N qual (defScope st) f cdv A outer s H E).nox.arg .d (defBody st) t∧t { nx:=fun ρ=>∃ es,ρ[1]? = some (.arg a es)∧Q es,rt:=fun _=>False } (rm N.length d0 a es0 ds)):FnOk P w K mg base CX0 (k+1) f fd ps (qG K S):=by
 refine F.ok sc (fun vs H Q E h=>?_) (fun cdv A outer s H vs Q E hr h=>?_)
 ·obtain ⟨W,d0,es0,ds,Qd,v0,a,xs,vs',hg,rfl,rfl,h1,h2,h3,h4,hS,_⟩:=h
  rw [List.length_cons,List.length_cons,← h4.length]
  exact len _ _ _ _ hS
 obtain ⟨W,d0,es0,ds,Qd,v0,a,xs,vs',hg,rfl,rfl,h1,h2,h3,h4,hS,kk⟩:=h
 obtain ⟨t,⟨ts,p,l⟩,ht⟩:=hbody cdv A outer s W.h E hr d0 es0 ds Qd a hS
 rw [Yy] at l
 refine ⟨ts,p.outA (fun _=>rfl),l (W.del a hg) W.g _ (start N (v0::.ref a::vs')) W { nx:=fun ρ=>∃ es,ρ[1]? = some (.arg a es)∧Qd es,rt:=fun _=>False } _ ⟨eK W a hg,Same.refl _,ky hg h1 h2 h3 h4⟩ ⟨fun ρ σ W' at_ ⟨es,e,q⟩=>?_,fun _ _ _ _ _ q=>q.elim,fun _ _ _ _ q=>q.elim,fun _ _ _ _ q=>q.elim⟩ ht⟩
 obtain ⟨⟨ys,_,g2,g3,_,g5⟩,_,_⟩:=at_.rl.ar 1 a es e
 exact kk es ys W' at_.le g2 g3 g5 q
theorem AOk.mk' {x qual:Str} {st:Stmt} {f:Addr} {fd:FuncData} {ps:List Str} {n:Nat} {S:ASp} (F:Fun K x qual st f fd) (hm:mg x=some (.ref f)) (hb:Binds K fd ps []) (h:FnOk P w K mg base CX0 n f fd ps (qG K S)):AOk P w K mg base n x S:=
 ⟨f,fd,ps,hm,F.kp,hb,h⟩
end
section
variable {X:Cx} {fr:Fr} {e e0 k:Expr} {es:List Expr} {t te tk:DTE} {ta:DTA} {n:Nat} {x y:Str} {S:ASp} {p pos p0 p1 p2 p3:Pos} {i:Nat}
def UA (i:Nat) (S:ASp) (t:DTE) (ta:DTA):DTS:=fun D ρ=>∃ ds,ρ[i]? = some (.own ds)∧t ρ fun d0=>ta ρ fun fs=>S d0 ds fs fun es=>D.nx (ρ.set i (.own es))
theorem o_ (i:Nat) (G:AOk X.prog X.w X.K X.mg X.base n x S) (hr:Room n X.A) (hg:Gl X x) (h0:DE X e0 t) (ha:DA X es ta) (hN:X.N[i]? = some y:=by rfl) (hv:Vis X.env.scope y:=by first | exact Or.inl rfl | exact Or.inr (Or.inl rfl) | exact Or.inr (Or.inr rfl)) (hd:(y == ("__debug__":Str))=false:=by decide)
  (hcd:(y == ("__classdict__":Str))=false:=by decide) (hdb:(x == ("__debug__":Str))=false:=by decide)
  (he:starEach (e0::.Name y p1::es) X.env=(false,eval e0 X.env)::starEach (.Name y p1::es) X.env:=by rfl) (he2:starEach (.Name y p1::es) X.env=(false,eval (.Name y p1) X.env)::starEach es X.env:=by rfl)
  (hpl:(backTo p2 (starEach (.Name y p1::es) X.env)).any (·.1)=false:=by rfl) (hs:swapsWith (.Call (.Name x p) (e0::.Name y p1::es) [] p2) none pos.line X.env=pure false:=by rfl):
  DSt X fr (.Expr (.Call (.Name x p) (e0::.Name y p1::es) [] p2) pos) (UA i S t ta):=by
 obtain ⟨f,fd,ps,hm,hk,hb,F⟩:=G.ex
 obtain ⟨tt,q0,l0⟩:=h0
 obtain ⟨tts,q1,l1⟩:=ha
 refine ⟨_,w9 (x6 F hr hg hm hk hb .nil sK (zC q0 (zC (z5 hN hv hd hcd) q1 he2) he) hdb he hpl) hs,fun W0 G ρ σ W D D' at_ s h=>?_⟩
 obtain ⟨ds,ei,h⟩:=h
 obtain ⟨a,xs,k1,k2,k3,k4,k5⟩:=at_.rl.ow i ds ei
 refine l0 ρ σ W _ at_.rl h _ fun d0 v0 W1 s1 i0 h=>?_
 refine ⟨.ref a,k1,l1 ρ σ W1 _ (at_.rl.mono s1) h _ fun fs vs W2 s2 i2 h=>?_⟩
 have s12:=s1.trans s2
 have hg2:W2.g a=none:=s12.n a (by rw [k2]; intro z; cases z) k3
 show qG X.K S ((v0::.ref a::vs)++[]) W2.h _ E0
 rw [List.append_nil]
 refine ⟨W2,d0,ds,fs,_,v0,a,xs,vs,hg2,rfl,rfl,s12.h _ _ k2,i0.mono s2,k5.mono s12,i2,h,fun es ys W' le m1 m2 m3 q=>?_⟩
 have a2:=at_.step s12
 exact s.nx _ _ W' ⟨a2.le.undel k4 le,a2.gs.trans le.g,a2.rl.lent ei k1 hg2 k4 le m1 m2 m3⟩ q
def SS (i:Nat):DTE:=fun ρ Q=>∃ a ds,ρ[i]? = some (.arg a ds)∧Q (.int ds.length)
theorem ZP (i:Nat) (hg:Gl X "len") (hm:X.mg "len"=none) (hN:X.N[i]? = some x:=by rfl) (hv:Vis X.env.scope x:=by first | exact Or.inl rfl | exact Or.inr (Or.inl rfl) | exact Or.inr (Or.inr rfl)) (hd:(x == ("__debug__":Str))=false:=by decide)
  (hcd:(x == ("__classdict__":Str))=false:=by decide) (hs:starEach [.Name x p1] X.env=(false,eval (.Name x p1) X.env)::starEach [] X.env:=by rfl) (hpl:(backTo pos (starEach [] X.env)).any (·.1)=false:=by rfl):
  DE X (.Call (.Name "len" p0) [.Name x p1] [] pos) (SS i):=by
 refine ⟨_,yH wo hg hm PySem.boot_len (zC (z5 hN hv hd hcd) z4 hs) (by decide) (by decide) hs hpl,fun ρ σ H Q r h R k=>?_⟩
 obtain ⟨a,ds,e,q⟩:=h
 obtain ⟨⟨xs,e1,e2,e3,e4,e5⟩,_,_⟩:=r.ar i a ds e
 exact ⟨.ref a,e1,a,xs,rfl,.inl (.of e2),by rw [← e5.length]; exact k _ _ H (Le.refl H) (is_int.mpr rfl) q⟩
def S7 (i:Nat) (te:DTE):DTS:=fun D ρ=>∃ a ds,ρ[i]? = some (.arg a ds)∧te ρ fun d=>ds.length≤100000∧D.nx (ρ.set i (.arg a (ds++[d])))
theorem ZJ (i:Nat) (h:DE X e te) (hN:X.N[i]? = some x:=by rfl) (hv:Vis X.env.scope x:=by first | exact Or.inl rfl | exact Or.inr (Or.inl rfl) | exact Or.inr (Or.inr rfl)) (hd:(x == ("__debug__":Str))=false:=by decide)
  (hcd:(x == ("__classdict__":Str))=false:=by decide) (hst:starEach [e] X.env=(false,eval e X.env)::starEach [] X.env:=by rfl) (hpl:(backTo p2 (starEach [] X.env)).any (·.1)=false:=by rfl)
  (hfew:((backTo p2 (starEach [e] X.env)).all (fun x=>!x.1) && (backToKw p2 (keywordEach [] X.env)).all (fun x=>x.1.isSome)
   && decide ([e].length+([]:List Keyword).length+(if ([]:List Keyword).isEmpty then 0 else 1)<30))=true:=by rfl)
  (hbase:attributeBase (.Name x p0) "append" X.env (eval (.Name x p0) X.env)=eval (.Name x p0) X.env:=by rfl) (hline:(p1.endLine == p2.line)=true:=by rfl)
  (hs:swapsWith (.Call (.Attribute (.Name x p0) "append" p1) [e] [] p2) none pos.line X.env=pure false:=by rfl):
  DSt X fr (.Expr (.Call (.Attribute (.Name x p0) "append" p1) [e] [] p2) pos) (S7 i te):=by
 obtain ⟨tt,p,l⟩:=h
 refine ⟨_,w9 (j9 PySem.F.plainAttrs_list PySem.F.slot_list_append PySem.F.type_list_append uM (z5 hN hv hd hcd) (zC p z4 hst) hbase hfew hline hst hpl) hs,fun W0 G ρ σ W D D' at_ s h=>?_⟩
 obtain ⟨b,ds,ei,h⟩:=h
 obtain ⟨⟨xs,e1,e2,e3,e4,e5⟩,_,_⟩:=at_.rl.ar i b ds ei
 refine ⟨.ref b,e1,.inl ⟨rfl,xs,.of e2⟩,l ρ σ W _ at_.rl h _ fun d v W1 s1 i1 ⟨hl,q1⟩=>?_⟩
 have a1:=at_.step s1
 have hg1:W1.g b=none:=s1.n b (by rw [e2]; intro z; cases z) e3
 refine ⟨b,xs,v,rfl,rfl,s1.h _ _ e2,by rw [← e5.length]; exact Nat.lt_of_le_of_lt hl (by decide),?_⟩
 exact s.nx _ _ _ (a1.putA ei hg1 e4 ((e5.mono s1).append (allIs_cons.mpr ⟨v,[],rfl,i1,allIs_nil.mpr rfl⟩))) q1
def S6 (i:Nat) (g:Int→Int→Int) (tk te:DTE):DTS:=fun D ρ=>∃ a ds,ρ[i]? = some (.arg a ds)∧tk ρ fun z=>∃ n m,z=.int n∧0≤n∧ds[n.toNat]? = some (.int m)∧te ρ fun d=>∃ y,d=.int y∧D.nx (ρ.set i (.arg a (ds.set n.toNat (.int (g m y)))))
theorem V9 {n:Int} {k:Nat} (h0:0≤n) (h:n.toNat<k):ixN k n=some n.toNat:=by
 unfold ixN
 rw [if_pos h0,if_pos (by omega)]
theorem uc (i:Nat) {op:Operator} {g:Int→Int→Int} (ho:PIp X op (ipI g)) (hk:DE X k tk) (h:DE X e te) (hN:X.N[i]? = some x:=by rfl) (hv:Vis X.env.scope x:=by first | exact Or.inl rfl | exact Or.inr (Or.inl rfl) | exact Or.inr (Or.inr rfl)) (hd:(x == ("__debug__":Str))=false:=by decide)
  (hcd:(x == ("__classdict__":Str))=false:=by decide)
  (ha:∀ ov iv new,augStore k ov iv new=(do holding [new,ov,iv] (setItem ov iv new); release [new,ov,iv] []; pure .next):=by intros; rfl):
  DSt X fr (.AugAssign (.Subscript (.Name x p0) k p1) op e pos) (S6 i g tk te):=by
 obtain ⟨tt,p,l⟩:=h
 obtain ⟨tk',pk,lk⟩:=hk
 refine ⟨_,cb (z5 hN hv hd hcd) pk fL p ho og ha,fun W0 G ρ σ W D D' at_ s h=>?_⟩
 obtain ⟨b,ds,ei,h⟩:=h
 obtain ⟨⟨xs,e1,e2,e3,e4,e5⟩,_,_⟩:=at_.rl.ar i b ds ei
 refine ⟨.ref b,e1,lk ρ σ W _ at_.rl h _ fun z v W1 s1 i1 ⟨n,m,ez,h0,hm,q1⟩=>?_⟩
 subst ez
 obtain rfl:=is_int.mp i1
 obtain ⟨u,hu,iu⟩:=e5.get hm
 obtain rfl:=is_int.mp iu
 refine ⟨b,xs,n,.int m,rfl,rfl,h0,s1.h _ _ e2,hu,l ρ σ W1 _ (at_.rl.mono s1) q1 _ fun d v W2 s2 i2 ⟨y,ed,q2⟩=>?_⟩
 subst ed
 have s12:=s1.trans s2
 have hg2:W2.g b=none:=s12.n b (by rw [e2]; intro z; cases z) e3
 have hl:n.toNat<xs.length:=by
  rcases Nat.lt_or_ge n.toNat xs.length with z | z
  ·exact z
  ·rw [List.getElem?_eq_none z] at hu; cases hu
 refine ⟨m,y,rfl,is_int.mp i2,b,xs,n,n.toNat,rfl,rfl,s12.h _ _ e2,V9 h0 hl,?_⟩
 exact s.nx _ _ _ ((at_.step s12).putA ei hg2 e4 ((e5.mono s12).set n.toNat (is_int.mpr rfl))) q2
def Qh (i:Nat) (te:DTE):DTS:=fun D ρ=>∃ ds,ρ[i]? = some (.own ds)∧te ρ fun d=>∃ es,d=.lst es∧ds.length+es.length≤16000000∧D.nx (ρ.set i (.own (ds++es)))
theorem Uh (i:Nat) (h:DE X e te) (hN:X.N[i]? = some x:=by rfl) (hv:Vis X.env.scope x:=by first | exact Or.inl rfl | exact Or.inr (Or.inl rfl) | exact Or.inr (Or.inr rfl)) (hd:(x == ("__debug__":Str))=false:=by decide)
  (hcd:(x == ("__classdict__":Str))=false:=by decide) (hst:starEach [e] X.env=(false,eval e X.env)::starEach [] X.env:=by rfl) (hpl:(backTo p2 (starEach [] X.env)).any (·.1)=false:=by rfl)
  (hfew:((backTo p2 (starEach [e] X.env)).all (fun x=>!x.1) && (backToKw p2 (keywordEach [] X.env)).all (fun x=>x.1.isSome)
   && decide ([e].length+([]:List Keyword).length+(if ([]:List Keyword).isEmpty then 0 else 1)<30))=true:=by rfl)
  (hbase:attributeBase (.Name x p0) "extend" X.env (eval (.Name x p0) X.env)=eval (.Name x p0) X.env:=by rfl) (hline:(p1.endLine == p2.line)=true:=by rfl)
  (hs:swapsWith (.Call (.Attribute (.Name x p0) "extend" p1) [e] [] p2) none pos.line X.env=pure false:=by rfl):
  DSt X fr (.Expr (.Call (.Attribute (.Name x p0) "extend" p1) [e] [] p2) pos) (Qh i te):=by
 obtain ⟨tt,p,l⟩:=h
 refine ⟨_,w9 (j9 PySem.F.plainAttrs_list PySem.F.slot_list_extend PySem.F.type_list_extend kX (z5 hN hv hd hcd) (zC p z4 hst) hbase hfew hline hst hpl) hs,fun W0 G ρ σ W D D' at_ s h=>?_⟩
 obtain ⟨ds,ei,h⟩:=h
 obtain ⟨b,xs,e1,e2,e3,e4,e5⟩:=at_.rl.ow i ds ei
 refine ⟨.ref b,e1,.inl ⟨rfl,xs,.of e2⟩,l ρ σ W _ at_.rl h _ fun d v W1 s1 i1 ⟨es,ed,hl,q1⟩=>?_⟩
 subst ed
 obtain ⟨c,zs,rfl,hc,ic⟩:=is_lst.mp i1
 have a1:=at_.step s1
 have hg1:W1.g b=none:=s1.n b (by rw [e2]; intro z; cases z) e3
 refine ⟨b,c,xs,zs,rfl,rfl,s1.h _ _ e2,W1.sub _ _ hc,by rw [← e5.length,← ic.length]; exact Nat.le_trans hl (by decide),?_⟩
 exact s.nx _ _ _ (a1.put ei e1 hg1 e4 ((e5.mono s1).append ic)) q1
def RC:Dt→Bool
 | .tup ds=>ds.all u8
 | d=>u8 d
theorem oj {K:PySem.W.Frag} {G G':Hp}:∀ {ds:List Dt} {vs:List V},ds.all u8=true→AllIs K G ds vs→AllIs K G' ds vs
 | [],_,_,h=>allIs_nil.mpr (allIs_nil.mp h)
 | d::ds,_,z,h=>by
  obtain ⟨x,r,rfl,h1,h2⟩:=allIs_cons.mp h
  rw [List.all_cons,Bool.and_eq_true] at z
  exact allIs_cons.mpr ⟨x,r,rfl,qO z.1 h1,oj z.2 h2⟩
def S4 (t:DTE):DTE:=fun ρ Q=>t (ρ.map fz) fun d=>RC d=true∧Q d
theorem lU (h:DE X e t):DE X e (S4 t):=by
 obtain ⟨te,p,l⟩:=h
 refine ⟨te,p,fun ρ σ H Q r hq R k=>?_⟩
 obtain ⟨W',e,sg,r',gl⟩:=r.bor
 have:=l (ρ.map fz) σ W' _ r' hq R fun d v H1 s1 i1 ⟨hs,q1⟩=>by
  obtain ⟨H2,e2,_,s2⟩:=rk e s1 sg
  cases d with
  | tup ds=>
   obtain ⟨p,xs,rfl,hp,ia⟩:=is_tup.mp i1
   have sub:Same (upd H.g p (.tup xs)) H1.h:=fun b o q=>by
    by_cases hb:b=p
    ·subst hb; rw [zt] at q; rw [← Option.some.inj q]; exact H1.sub _ _ hp
    ·rw [zw hb] at q; exact H1.sub _ _ (s1.g _ _ (sg _ _ q))
   have le:Le H ⟨upd H.g p (.tup xs),H1.h,sub⟩:=⟨fun b o q=>by
     show upd H.g p (.tup xs) b=some o
     by_cases hb:b=p
     ·subst hb
      rw [zt]
      have:=s1.g _ _ (sg _ _ q)
      rw [hp] at this
      exact this
     ·rw [zw hb]; exact q,e ▸ s1.h,fun b z1 z2=>by
     show upd H.g p (.tup xs) b=none
     have hb:b≠p:=fun hb=>by
      subst hb
      cases hw:W'.g b with
      | none=>
       have:=s1.n b (by rw [e]; exact z1) hw
       rw [hp] at this
       cases this
      | some o=>
       rcases gl b o hw with z | ⟨ys,rfl⟩
       ·rw [z2] at z; cases z
       ·have:=s1.g _ _ hw
        rw [hp] at this
        cases this
     rw [zw hb]; exact z2⟩
   exact k (.tup ds) (.ref p) ⟨upd H.g p (.tup xs),H1.h,sub⟩ le (is_tup.mpr ⟨p,xs,rfl,zt,oj hs ia⟩) q1
  | _=>
   rw [← e2]
   first | (refine k _ v H2 s2 (qO ?_ i1) q1; exact hs) | cases hs
 rw [e] at this
 exact this
end
end OD
namespace OD
variable {Z:Hp}
open PySem PySem.Spec PyProof.Rows L2
def Its (lo:Int) (n:Nat):It:=⟨fun i _=>i<n,fun i H x H'=>H'=H∧x=.int (lo+2*i),fun i _=>n≤i⟩
theorem jx {P:Program} {w:World} {K:PySem.W.Frag} {tg:Expr} (it:Addr) (lo:Int) (n:Nat):nu P w K tg (Its lo n) [it] it (fun i h=>IsRangeIter h it (lo+(i:Nat)*2) ((n:Int) - (i:Nat)) 2) where
 mem:=by simp
 obj:=fun i h st b hb=>by
  have e:b=it:=by simpa using hb
  subst e
  exact ⟨_,st,fun v z=>by
   have z':Data.fields _=Data.cell v:=z
   cases z'⟩
 keep:=fun i h h' st k=>k it (by simp) _ st
 item:=by
  intro X hP hw hK hc i pins s σ H E I hf st hg
  subst hP hw hK
  obtain ⟨f0,f1,f2,f3,f4,f5⟩:=hf it (by simp)
  have W:=Walks.range (prog:=X.prog) (w:=X.w) (I.ok.hd hc) it lo 2 n
  refine W.item i s _ _ hg st fun v h' tk hv st' kk=>?_
  obtain ⟨t,rfl⟩:=hv
  have I1:Inv X pins σ H { s with heap:=h',toks:=tk }:=I.turned (fun b o hb e=>kk b o (by simpa using hb) e) f0 f1 f3 f4 f5
  refine ⟨_,rfl,lH (s:={ s with heap:=h',toks:=tk }) (n:="range_iterator") st' rfl rfl (by decide) ⟨.int (lo+2*i),H,I1,⟨t,?_⟩,⟨rfl,rfl⟩,st',fun b hb=>(hf b hb).1⟩⟩
  rw [show lo+(i:Int)*2=lo+2*i by omega]
 done:=by
  intro X hP hw hK hc i pins s σ H E I hf st hg
  subst hP hw hK
  obtain ⟨f0,f1,f2,f3,f4,f5⟩:=hf it (by simp)
  exact wpAny_pyNext_range_end (I.ok.hd hc) st (by have:n≤i:=hg; omega) fun h' eb=>⟨rfl,I.turned (t':=s.toks) (fun b o hb e=>eb b o hb e) f0 f1 f3 f4 f5⟩
 self:=fun _ _ _ _ _ st h=>wpAny_pyIter_rangeiter st h
theorem vm (a b:Int):Builtin.Range.rangeSize a b 2=if a<b then (b - a - 1) / 2+1 else 0:=by
 unfold Builtin.Range.rangeSize
 rw [if_pos (by decide)]
theorem ku {a b:Int} (ha:-(2 ^ 30)≤a) (ha':a<2 ^ 30) (hb:-(2 ^ 30)≤b) (hb':b<2 ^ 30):Builtin.Range.small a b 2=true:=by
 unfold Builtin.Range.small
 rw [vm]
 simp only [Builtin.Range.rangeFitsLong,Bool.and_eq_true,Bool.or_eq_true,decide_eq_true_eq,beq_iff_eq,show (2:Int)>0 by decide,if_true]
 split <;> omega
section
variable {X:Cx} {tg:Expr}
def RX (ta:TA):TI:=fun σ H R=>ta σ H fun vs H1=>∃ i j:Int,vs=[.int i,.int j,.int 2]∧(-(2 ^ 30)≤i∧i<2 ^ 30∧-(2 ^ 30)≤j∧j<2 ^ 30)∧R (Its i ((j - i+1) / 2).toNat) H1
theorem YX {a b c:Expr} {ta:TA} {p pos:Pos} (hg:Gl X "range") (hm:X.mg "range"=none) (ha:PA X [a,b,c] ta) (hs:starEach [a,b,c] X.env=(false,eval a X.env)::starEach [b,c] X.env:=by rfl)
  (hpl:(backTo pos (starEach [b,c] X.env)).any (·.1)=false:=by rfl):PI X tg (.Call (.Name "range" p) [a,b,c] [] pos) (RX ta):=by
 intro pins s σ H R I h
 refine Call_ (xG I hg hm boot_range (PyProof.Rows.callWith_type1 (thn (ha pos pins s σ H _ I h) fun us s1 ⟨vs,H1,I1,r1,q1⟩=>?_) hs hpl))
 obtain ⟨i,j,e,⟨q1,q2,q3,q4⟩,q⟩:=q1
 subst e
 cases r1 with
 | cons r rr=>
 cases rr with
 | cons r' rr=>
 cases rr with
 | cons r'' rr=>
  cases rr
  obtain ⟨t,rfl⟩:=r
  obtain ⟨t',rfl⟩:=r'
  obtain ⟨t'',rfl⟩:=r''
  refine call_range_3 (by decide) ?_ (Or.inl (PyProof.noPylong_small (by omega)))
  refine wpAny_pyIter_range (IsRange.new ..) (ku (by omega) (by omega) (by omega) (by omega)) ?_
  have I2:Inv X pins σ H1 { s1 with heap:=s1.heap.push { cls:=.type "range",data:=.fields #[.int i t,.int j t',.int 2 t''] },toks:=s1.toks }:=I1.kept fun b o e=>Heap.get?_push_of_some _ e
  refine ⟨(s1.heap.push { cls:=.type "range",data:=.fields #[.int i t,.int j t',.int 2 t''] }).objs.size,[(s1.heap.push { cls:=.type "range",data:=.fields #[.int i t,.int j t',.int 2 t''] }).objs.size],_,_,H1,rfl,
   I2.kept (t':=s1.toks) fun b o e=>Heap.get?_push_of_some _ e,jx _ i ((j - i+1) / 2).toNat,?_,fun b hb=>?_,q⟩
  ·have e1:i+((0:Nat):Int)*2=i:=by simp
   have e2:((((j - i + 1) / 2).toNat:Nat):Int) - ((0:Nat):Int)=Builtin.Range.rangeSize i j 2:=by rw [vm]; split <;> omega
   show IsRangeIter _ _ (i+((0:Nat):Int)*2) (((((j - i+1) / 2).toNat:Nat):Int) - ((0:Nat):Int)) 2
   rw [e1,e2]
   exact Heap.get?_push_size _ rfl
  ·have e:b=(s1.heap.push { cls:=.type "range",data:=.fields #[.int i t,.int j t',.int 2 t''] }).objs.size:=by simpa using hb
   subst e
   exact I2.fpOk (Nat.le_refl _) (I2.hok.fresh (Nat.le_refl _))
variable {a b c:Expr} {ta:DTA} {p0 pos1:Pos}
def Yo (ta:DTA):DTI:=fun ρ Q=>ta ρ fun ds=>∃ m n:Int,ds=[.int m,.int n,.int 2]∧-1000≤m∧m≤1000∧-1000≤n∧n≤100000∧Q ((n - m+1) / 2).toNat fun i e=>e=.int (m+2*i)
theorem qw (hg:Gl X "range") (hm:X.mg "range"=none) (h:DA X [a,b,c] ta) (hst:starEach [a,b,c] X.env=(false,eval a X.env)::starEach [b,c] X.env:=by rfl) (hpl:(backTo pos1 (starEach [b,c] X.env)).any (·.1)=false:=by rfl):DI X tg (.Call (.Name "range" p0) [a,b,c] [] pos1) (Yo ta):=by
 obtain ⟨te,p,l⟩:=h
 refine ⟨_,YX hg hm p hst hpl,fun ρ σ W Q r h R k=>l ρ σ W _ r h _ fun ds vs W1 s1 i1 ⟨m,n,ed,m1,m2,n1,n2,q⟩=>?_⟩
 subst ed
 obtain ⟨v1,v2,v3,rfl,j1,j2,j3⟩:=i1.three
 refine ⟨m,n,by rw [is_int.mp j1,is_int.mp j2,is_int.mp j3],⟨by omega,by omega,by omega,by omega⟩,k _ _ (fun i e=>e=.int (m+2*i)) W1 s1 (by omega) (fun W2 s2=>⟨fun i hi=>⟨hi,fun v H3 ⟨e1,e2⟩=>⟨e1,.int (m+2*i),rfl,is_int.mpr e2⟩⟩,Nat.le_refl _⟩) q⟩
end
end OD
namespace L2
open PySem PySem.Spec PyProof.Rows
section
variable {X:Cx}
end
end L2
namespace OD
variable {Z:Hp}
open PySem PySem.Spec PyProof.Rows L2
abbrev DTB:=Prop→(Addr→Prop)→DS→Prop
section
variable {X:Cx} {e:Expr} {es:List Expr} {t:DTA} {n:Nat} {x y m:Str} {j:Nat} {S:yn} {p pos py hpos epos tpos:Pos} {fr:Fr} {th:DTS} {c:Value} {b₀:Stmt} {suite body:List Stmt} {d:DTB}
end
end OD
namespace OD
open PySem L2
variable {X:Cx} {e:Expr} {t:DTE}
end OD
namespace OD
open PySem L2 PyProof.Rows
section
variable {Z F:Hp} {K:PySem.W.Frag} {W W' W0:Vw} {G:Hp} {ρ:DS} {σ:L2.St}
theorem jG {α:Type} {l:List α} {x y:α} {i:Nat} (q:(l++[x])[i]? = some y):l[i]? = some y∨(i=l.length∧x=y):=by
 rcases Nat.lt_trichotomy i l.length with h | h | h
 ·rw [List.getElem?_append_left h] at q; exact .inl q
 ·subst h
  rw [List.getElem?_append_right (Nat.le_refl _),Nat.sub_self] at q
  exact .inr ⟨rfl,Option.some.inj q⟩
 ·rw [List.getElem?_eq_none (by rw [List.length_append]; show l.length+1≤i; omega)] at q
  cases q
theorem ra {α:Type} {l:List α} {y:α} {i:Nat} (q:l[i]? = some y):i<l.length:=by
 rcases Nat.lt_or_ge i l.length with h | h
 ·exact h
 ·rw [List.getElem?_eq_none h] at q; cases q
theorem xQ {α:Type} {l:List α} {x y:α} {i:Nat} (q:l[i]? = some y):(l++[x])[i]? = some y:=by rw [List.getElem?_append_left (ra q)]; exact q
theorem ln {α:Type} {l:List α} {x:α} {i:Nat} (h:i<l.length):(l++[x])[i]? = l[i]?:=List.getElem?_append_left h
theorem Rl.push (r:Rl K Z F W ρ σ):Rl K Z F W (ρ++[Sl.none]) (σ++[none]):=by
 have hs:∀ i y,ρ[i]? = some y→(σ++[none])[i]? = σ[i]?:=fun i y q=>ln (by rw [← r.len]; exact ra q)
 have cl:∀ i y,(ρ++[Sl.none])[i]? = some y→y≠Sl.none→ρ[i]? = some y:=fun i y q hy=>by
  rcases jG q with q | ⟨_,e⟩
  ·exact q
  ·exact absurd e.symm hy
 refine ⟨by rw [List.length_append,List.length_append,r.len]; rfl,fun i d q=>?_,fun i ds q=>?_,fun i k ds es hik q1 q2=>?_,r.fr,r.z,fun i c ds q=>?_⟩
 ·have q:=cl i _ q (fun z=>nomatch z)
  rw [hs i _ q]; exact r.at_ i d q
 ·have q:=cl i _ q (fun z=>nomatch z)
  rw [hs i _ q]; exact r.ow i ds q
 ·have q1:=cl i _ q1 (fun z=>nomatch z)
  have q2:=cl k _ q2 (fun z=>nomatch z)
  rw [hs i _ q1,hs k _ q2]; exact r.ne i k ds es hik q1 q2
 ·have q:=cl i _ q (fun z=>nomatch z)
  obtain ⟨⟨xs,h1,h2⟩,k1,k2⟩:=r.ar i c ds q
  refine ⟨⟨xs,by rw [hs i _ q]; exact h1,h2⟩,fun k es q'=>?_,fun k b es q'=>k2 k b es (cl k _ q' (fun z=>nomatch z))⟩
  have q':=cl k _ q' (fun z=>nomatch z)
  rw [hs k _ q']; exact k1 k es q'
theorem Rl.snocOff {x:Sl} {o:Option V} (r:Rl K Z F W (ρ++[x]) (σ++[o])):Rl K Z F W ρ σ:=by
 have len:ρ.length=σ.length:=by have:=r.len; rw [List.length_append,List.length_append] at this; exact Nat.succ.inj this
 have hs:∀ i y,ρ[i]? = some y→(σ++[o])[i]? = σ[i]?:=fun i y q=>ln (by rw [← len]; exact ra q)
 refine ⟨len,fun i d q=>?_,fun i ds q=>?_,fun i k ds es hik q1 q2=>?_,r.fr,r.z,fun i c ds q=>?_⟩
 ·rw [← hs i _ q]; exact r.at_ i d (xQ q)
 ·rw [← hs i _ q]; exact r.ow i ds (xQ q)
 ·rw [← hs i _ q1,← hs k _ q2]; exact r.ne i k ds es hik (xQ q1) (xQ q2)
 ·obtain ⟨⟨xs,h1,h2⟩,k1,k2⟩:=r.ar i c ds (xQ q)
  exact ⟨⟨xs,by rw [← hs i _ q]; exact h1,h2⟩,fun k es q'=>by rw [← hs k _ q']; exact k1 k es (xQ q'),fun k b es q'=>k2 k b es (xQ q')⟩
theorem jF {α:Type} {l:List α} {x y:α} {n:Nat} (h:n=l.length):(l++[x]).set n y=l++[y]:=by
 subst h
 rw [List.set_append_right _ _ (Nat.le_refl _),Nat.sub_self]; rfl
theorem tS {α:Type} {l:List α} {x:α} {n:Nat} (h:n=l.length):(l++[x])[n]? = some x:=by
 subst h
 rw [List.getElem?_append_right (Nat.le_refl _),Nat.sub_self]; rfl
structure TAt (K:PySem.W.Frag) (Z:Hp) (W0:Vw) (G:Hp) (W:Vw) (ρ:DS) (σ:L2.St) (i:Nat) (es:List Dt) (d:Dt):Prop where
 ex:∃ p q v,At K Z W0 G W (ρ++[.own es]) (σ++[some (.ref p)])∧σ[i]? = some (some (.ref q))∧W.g q=some (.tup [.ref p,v])∧Is K W.g d v
variable {i:Nat} {es:List Dt} {d:Dt}
theorem TAt.step (t:TAt K Z W0 G W ρ σ i es d) (s:Le W W'):TAt K Z W0 G W' ρ σ i es d:=
 let ⟨p,q,v,a,h1,h2,h3⟩:=t.ex; ⟨p,q,v,a.step s,h1,s.g _ _ h2,h3.mono s⟩
theorem TAt.off (t:TAt K Z W0 G W ρ σ i es d):At K Z W0 G W ρ σ:=let ⟨_,_,_,a,_⟩:=t.ex; ⟨a.le,a.gs,a.rl.snocOff⟩
theorem TAt.bor (t:TAt K Z W0 G W ρ σ i es d):∃ W':Vw,W'.h=W.h∧Same W.g W'.g∧Rl K Z W0.h W' ((ρ.set i (.some (.tup [.lst es,d]))).map fz) σ:=by
 obtain ⟨p,q,v,a,h1,h2,h3⟩:=t.ex
 have len:ρ.length=σ.length:=by have:=a.rl.len; rw [List.length_append,List.length_append] at this; exact Nat.succ.inj this
 obtain ⟨b,xs,e1,e2,e3,e4,e5⟩:=a.rl.ow ρ.length es (tS rfl)
 rw [tS len] at e1
 cases e1
 have r1:=a.rl.frz (tS rfl) (tS len) e2 e3 e5
 rw [jF rfl] at r1
 have sg:Same W.g (W.frz p _ e2).g:=zL e3 _
 have r2:=r1.snocOff.set (d:=.tup [.lst es,d]) (v:=.ref q) i (is_tup.mpr ⟨q,_,rfl,sg _ _ h2,allIs_cons.mpr ⟨_,_,rfl,is_lst.mpr ⟨p,xs,rfl,zt,AllIs.mono0 sg e5⟩,allIs_cons.mpr ⟨v,_,rfl,Is.mono0 sg h3,allIs_nil.mpr rfl⟩⟩⟩)
 have es:σ.set i (some (.ref q))=σ:=by
  apply List.ext_getElem?
  intro j
  by_cases hj:i=j
  ·subst hj; rw [List.getElem?_set_self (ra h1)]; exact h1.symm
  ·rw [List.getElem?_set_ne hj]
 rw [es] at r2
 obtain ⟨W',f1,f2,f3,_⟩:=r2.bor
 exact ⟨W',f1,sg.trans f2,f3⟩
abbrev DTG:=List Dt→Dt→DTS
end
section
variable {X:Cx} {fr:Fr} {st:Stmt} {yB:List Stmt} {t:DTE} {u:DTS} {ug:DTG} {e:Expr} {te:DTE} {pos p0 p1 p2 p3 pos':Pos} {i j:Nat} {x y:Str}
end
end OD
namespace OD
open PySem L2
section
variable {js:List Nat} {ta te:DTE} {X:Cx} {e:Expr} {fr:Fr} {st:Stmt} {i:Nat}
theorem each_t {s:DS} {P R:Prop}:(tj s fun b=>if b=true then P else R)=P:=by show (if true=true then P else R)=P; rw [if_pos rfl]
theorem Z8 {e:Dt} {s:List Dt→DS} {P R:List Dt→Prop} (h:∃ as,mM e as∧tj (s as) fun b=>if b=true then P as else R as):P [e]:=by
 obtain ⟨as,z,h⟩:=h
 cases z
 exact each_t.mp h
theorem eY:eT js ta te=wX js (Uq ta) mM tj te:=funext fun ρ=>funext fun Q=>congrArg (ta ρ) (funext fun d=>propext
 ⟨fun ⟨m,Pv,h1,h2,h3,h4,h5,h6⟩=>⟨m,h1,h2,h3,Pv,h4,fun i e es hi he hp=>⟨_,rfl,each_t.mpr (he ▸ h5 i es hi hp)⟩,h6⟩,
  fun ⟨m,h1,h2,h3,Pv,h4,h5,h6⟩=>⟨m,Pv,h1,h2,h3,h4,fun i es hi hp=>Z8 (h5 i _ es hi rfl hp),h6⟩⟩)
theorem eZ:lW js ta te=wX js (eS ta) mM tj te:=funext fun ρ=>funext fun Q=>congrArg (ta ρ) (funext fun d=>propext
 ⟨fun ⟨ds,Pv,h1,h3,h4,h5,h6⟩=>⟨ds,h1,h3,Pv,h4,fun i e es _ he hp=>⟨_,rfl,each_t.mpr (h5 i e es he hp)⟩,h6⟩,
  fun ⟨ds,h1,h3,Pv,h4,h5,h6⟩=>⟨ds,Pv,h1,h3,h4,fun i e es he hp=>Z8 (h5 i e es (ra he) he hp),h6⟩⟩)
theorem Rc (h:DF X e (wX js (Uq ta) mM tj te)):DF X e (eT js ta te):=eY ▸ h
theorem Re (h:DF X e (wX js (eS ta) mM tj te)):DF X e (lW js ta te):=eZ ▸ h
end
end OD
namespace My
open PySem L2 OD
local macro_rules | `(tactic| walk_at "sc") => `(tactic| exact ⟨rfl, rfl, rfl, by decide +kernel, rfl, by decide +kernel, by decide +kernel⟩)
local macro_rules | `(tactic| walk_at "ln") => `(tactic| (intros; rename_i h; repeat (first | (obtain ⟨e, _⟩ := h; subst e; rfl) | obtain ⟨_, h⟩ := h)))
local macro_rules | `(tactic| walk_at "rd1") => `(tactic| first | refine ⟨_, rfl, ?_⟩ | refine ⟨_, _, rfl, rfl, ?_⟩ | refine ⟨_, _, _, _, rfl, rfl, rfl, ?_⟩ | refine ⟨_, _, _, rfl, rfl, rfl, ?_⟩ | refine RV ?_ | refine RW ?_ | refine ⟨rfl, rfl, ?_⟩ | refine ⟨rfl, ?_⟩ | refine ⟨e8 (by decide), ?_⟩ | refine ⟨e7 (by decide), ?_⟩ | refine ⟨S9 (by decide), ?_⟩ | refine ⟨Sd (by decide), ?_⟩ | refine ⟨Zl (by decide), ?_⟩ | refine ⟨_, _, rfl, ?_⟩)
local macro_rules | `(tactic| walk_at "rd") => `(tactic| repeat (walk_at "rd1"))
theorem ifT {b:Bool} {A B:Prop} (e:b=true) (h:A):if b=true then A else B:=by rw [if_pos e]; exact h
theorem ifF {b:Bool} {A B:Prop} (e:b=false) (h:B):if b=true then A else B:=by rw [if_neg (by rw [e]; exact Bool.false_ne_true)]; exact h
theorem ifB {b:Bool} {A B:Prop} (h1:b=true→A) (h2:b=false→B):if b=true then A else B:=by
 cases b with
 | true=>exact ifT rfl (h1 rfl)
 | false=>exact ifF rfl (h2 rfl)
theorem eqI {a b:Int} (h:a=b):eqD (.int a) (.int b)=true:=by rw [y7]; exact beq_iff_eq.mpr h
theorem neI {a b:Int} (h:a≠b):eqD (.int a) (.int b)=false:=by rw [y7]; exact beq_eq_false_iff_ne.mpr h
theorem mi {a b:Int} (h:eqD (.int a) (.int b)=true):a=b:=by rw [y7] at h; exact beq_iff_eq.mp h
theorem sT {a b:Int} (h:eqD (.int a) (.int b)=false):a≠b:=by rw [y7] at h; exact beq_eq_false_iff_ne.mp h
theorem nT {b:Bool} (h:b=true):(!b)=false:=by rw [h]; rfl
theorem nF {b:Bool} (h:b=false):(!b)=true:=by rw [h]; rfl
theorem Tq {b:Bool} (h:(!b)=true):b=false:=by cases b <;> first | rfl | cases h
theorem Tr {b:Bool} (h:(!b)=false):b=true:=by cases b <;> first | rfl | cases h
def zB (ns:List Int):Dt:=.lst (ns.map Dt.int)
def trim (ns:List Int):List Int:=(ns.reverse.dropWhile (· == 0)).reverse
def dG:DSp:=fun ds Q=>∃ ns k,ds=[.scr ns,.int k]∧0≤k∧∀ z:Int,Q (.int z)
def kd:DSp:=fun ds Q=>∃ ns:List Int,ds=[.scr ns]∧ns.length≤63∧Q (.bl true)
theorem wr {xs:List Int} {k:Int} (h0:0≤k) (h:k<xs.length):atI (xs.map Dt.int) k=some (.int (xs.getD k.toNat 0)):=by
 have e:((k.toNat:Nat):Int)=k:=Int.toNat_of_nonneg h0
 have hl:k.toNat<xs.length:=by omega
 have:=wu (j:=k.toNat) (xs:=xs.map Dt.int) (v:=.int (xs.getD k.toNat 0)) (by
  rw [List.getElem?_map,List.getElem?_eq_getElem hl,List.getD_eq_getElem?_getD,List.getElem?_eq_getElem hl]
  rfl)
 rwa [e] at this
theorem xk {ns:List Int} {i:Nat} (h:i<ns.length):atI (ns.map Dt.int) (i:Int)=some (.int (ns.getD i 0)):=by
 refine wu ?_
 rw [List.getElem?_map,List.getElem?_eq_getElem h,List.getD_eq_getElem?_getD,List.getElem?_eq_getElem h]
 rfl
theorem Zs {n:Nat} {k:Int} (h0:0≤k) (h:k<n):ixN n k=some k.toNat:=by
 unfold ixN
 rw [if_pos h0,if_pos h]
theorem fF {n:Nat} (h:0<n):ixN n (-1)=some (n - 1):=by
 unfold ixN
 rw [if_neg (by decide),if_pos (by omega)]
 congr 1
 omega
theorem wZ {xs:List Int} {z:Int}:atI ((xs++[z]).map Dt.int) (-1)=some (.int z):=by
 unfold atI
 rw [fF (by rw [List.length_map,List.length_append]; exact Nat.succ_pos _)]
 show ((xs++[z]).map Dt.int)[((xs++[z]).map Dt.int).length - 1]? = _
 rw [List.length_map,List.length_append,List.map_append,List.getElem?_append_right (by rw [List.length_map]; exact Nat.le_of_eq (Nat.add_sub_cancel ..).symm)]
 rw [List.length_map,show xs.length+[z].length - 1 - xs.length=0 by simp]
 rfl
theorem dj {ns:List Int} {n:Nat}:(ns.map Dt.int).all (okE n)=true:=by
 rw [List.all_eq_true]
 intro x hx
 obtain ⟨z,_,e⟩:=List.mem_map.mp hx
 subst e
 cases n <;> rfl
theorem cw (ns:List Int):okE 40 (zB ns)=true:=dj (n:=39)
theorem sS (ns:List Int):okE 39 (zB ns)=true:=dj (n:=38)
theorem Ud (ns:List Int):eqD (zB ns) (zB ns)=true:=xp 40 (cw ns)
theorem eW (ms:List Int) (lo hi:Option Int):∃ ms':List Int,qa (ms.map Dt.int) lo hi=ms'.map Dt.int∧ms'.length≤ms.length∧∀ z∈ms',z∈ms:=by
 unfold qa
 rw [← List.map_drop,← List.map_take]
 refine ⟨_,rfl,?_,fun t ht=>List.mem_of_mem_drop (List.mem_of_mem_take ht)⟩
 rw [List.length_take,List.length_drop]
 omega
theorem fM {ns:List Int} {i:Nat} {x:Dt} (h:(ns.map Dt.int)[i]? = some x):x=.int (ns.getD i 0)∧i<ns.length:=by
 rw [List.getElem?_map] at h
 cases q:ns[i]? with
 | none=>rw [q] at h; cases h
 | some z=>
  rw [q] at h
  have hl:i<ns.length:=by
   rcases Nat.lt_or_ge i ns.length with h | h
   ·exact h
   ·rw [List.getElem?_eq_none h] at q; cases q
  rw [List.getD_eq_getElem?_getD,q]
  exact ⟨(Option.some.inj h).symm,hl⟩
theorem uh (xs:List Int) (z:Int):xs.map Dt.int++[.int z]=(xs++[z]).map Dt.int:=by rw [List.map_append]; rfl
theorem xJ (xs:List Int) (j:Nat) (z:Int):(xs.map Dt.int).set j (.int z)=(xs.set j z).map Dt.int:=by rw [List.map_set]
theorem qv (xs:List Int):(xs.map Dt.int).dropLast=xs.dropLast.map Dt.int:=by rw [List.map_dropLast]
theorem zE (xs:List Int):(xs.map Dt.int).length=xs.length:=List.length_map _
theorem p7:trim []=[]:=rfl
theorem xH (xs:List Int):trim (xs++[0])=trim xs:=by
 unfold trim
 rw [List.reverse_append]
 rfl
theorem vL {xs:List Int} {z:Int} (h:z≠0):trim (xs++[z])=xs++[z]:=by
 unfold trim
 rw [List.reverse_append]
 show (List.dropWhile _ (z::xs.reverse)).reverse=_
 rw [List.dropWhile_cons,if_neg (by simpa using h),List.reverse_cons,List.reverse_reverse]
theorem zH (xs:List Int):xs=[]∨∃ l z,xs=l++[z]:=by
 rcases List.eq_nil_or_concat xs with h | ⟨l,z,h⟩
 ·exact .inl h
 ·exact .inr ⟨l,z,by rw [h,List.concat_eq_append]⟩
theorem vM (xs:List Int):(trim xs).length≤xs.length:=by
 unfold trim
 rw [List.length_reverse]
 refine Nat.le_trans (List.dropWhile_sublist _).length_le ?_
 rw [List.length_reverse]
 exact Nat.le_refl _
theorem nC {i:Nat} {D:DEnds} {ρ:DS} {ms:List Int} (hi:ρ[i]? = some (.own (ms.map Dt.int))) (q:D.nx (ρ.set i (.own ((trim ms).map Dt.int)))):
  mK (UB (ue (dOp (gI fun i j=>Dt.bl (decide (j<i))) (Yp i) (dC (Dt.int 0)))) (ue (dOp gEq (Uy i (Uv (dC (Dt.int 1)))) (dC (Dt.int 0))))) (Us i) D ρ:=by
 have hl:i<ρ.length:=by
  rcases Nat.lt_or_ge i ρ.length with h | h
  ·exact h
  ·rw [List.getElem?_eq_none h] at hi; cases hi
 refine ⟨fun m ρ'=>∃ l:List Int,ρ'=ρ.set i (.own (l.map Dt.int))∧l.length=m∧trim l=trim ms,⟨_,ms,?_,rfl,rfl⟩,?_⟩
 ·apply List.ext_getElem?
  intro j
  by_cases hj:i=j
  ·subst hj; rw [List.getElem?_set_self hl]; exact hi
  ·rw [List.getElem?_set_ne hj]
 ·rintro m ρ' ⟨l,rfl,rfl,ht⟩
  have hg:(ρ.set i (.own (l.map Dt.int)))[i]? = some (.own (l.map Dt.int)):=List.getElem?_set_self hl
  refine ⟨_,hg,_,_,rfl,rfl,_,rfl,?_⟩
  rcases zH l with rfl | ⟨l',z,rfl⟩
  ·refine ifF rfl (ifF rfl ?_)
   rw [← ht,p7] at q
   exact q
  ·refine ifT (by rw [decide_eq_true_iff,List.length_map,List.length_append]; simp) ?_
   refine ⟨_,hg,_,rfl,_,_,rfl,wZ,rfl,rfl,_,rfl,?_⟩
   by_cases hz:z=0
   ·refine ifT (eqI hz) ?_
    subst hz
    refine ⟨_,hg,by simp,l'.length,by rw [List.length_append]; exact Nat.lt_succ_self _,l',?_,rfl,?_⟩
    ·rw [qv,List.dropLast_concat,List.set_set]
    ·rw [← ht,xH]
   ·refine ifF (neI hz) ?_
    rw [← ht,vL hz] at q
    exact q
theorem pY {i:Nat} {D:DEnds} {ρ:DS} {ms:List Int} (hi:ρ[i]? = some (.own (ms.map Dt.int))) (q:D.nx (ρ.set i (.own ((trim ms).map Dt.int)))):
  mK (UB (Yn i) (ue (dOp gEq (Uy i (Uv (dC (Dt.int 1)))) (dC (Dt.int 0))))) (Us i) D ρ:=by
 have hl:i<ρ.length:=by
  rcases Nat.lt_or_ge i ρ.length with h | h
  ·exact h
  ·rw [List.getElem?_eq_none h] at hi; cases hi
 refine ⟨fun m ρ'=>∃ l:List Int,ρ'=ρ.set i (.own (l.map Dt.int))∧l.length=m∧trim l=trim ms,⟨_,ms,?_,rfl,rfl⟩,?_⟩
 ·apply List.ext_getElem?
  intro j
  by_cases hj:i=j
  ·subst hj; rw [List.getElem?_set_self hl]; exact hi
  ·rw [List.getElem?_set_ne hj]
 ·rintro m ρ' ⟨l,rfl,rfl,ht⟩
  have hg:(ρ.set i (.own (l.map Dt.int)))[i]? = some (.own (l.map Dt.int)):=List.getElem?_set_self hl
  refine ⟨_,hg,?_⟩
  rcases zH l with rfl | ⟨l',z,rfl⟩
  ·refine ifF rfl (ifF rfl ?_)
   rw [← ht,p7] at q
   exact q
  ·refine ifT (by simp) ?_
   refine ⟨_,hg,_,rfl,_,_,rfl,wZ,rfl,rfl,_,rfl,?_⟩
   by_cases hz:z=0
   ·refine ifT (eqI hz) ?_
    subst hz
    refine ⟨_,hg,by simp,l'.length,by rw [List.length_append]; exact Nat.lt_succ_self _,l',?_,rfl,?_⟩
    ·rw [qv,List.dropLast_concat,List.set_set]
    ·rw [← ht,xH]
   ·refine ifF (neI hz) ?_
    rw [← ht,vL hz] at q
    exact q
inductive Kd where | plain | below | balanced | growing | falling | pairs
def Kd.num:Kd→Int
 | .plain=>0 | .below=>1 | .balanced=>2 | .growing=>3 | .falling=>4 | .pairs=>5
def Kd.fld:Kd→Str
 | .plain=>"base" | .below=>"base" | .balanced=>"half" | .growing=>"first" | .falling=>"most" | .pairs=>"most"
def Kd.lo:Kd→Int
 | .plain=>2 | .below=>2 | .balanced=>1 | .growing=>2 | .falling=>1 | .pairs=>1
def Kd.hi:Kd→Int
 | .plain=>60 | .below=>60 | .balanced=>30 | .growing=>60 | .falling=>9 | .pairs=>9
def Kd.ok (k:Kd) (n:Int):Prop:=k.lo≤n∧n≤k.hi
def yK:Dt→Option Bool
 | .int _=>some true
 | .bl _=>some false
 | .tup _=>some false
 | .lst _=>some false
 | _=>none
def y9:DSp:=fun ds Q=>∃ d b,ds=[d]∧yK d=some b∧Q (.bl b)
def yP:DSp:=fun ds Q=>∃ n lo hi,ds=[.int n,.int lo,.int hi]∧lo≤n∧n≤hi∧Q (.int n)
inductive Nm where | i (n:Int) | p (a b:Int)
def Nm.dt:Nm→Dt
 | .i n=>.int n
 | .p a b=>.tup [.int a,.int b]
def Nm.re:Nm→Int
 | .i n=>n
 | .p a _=>a
def Nm.im:Nm→Int
 | .i _=>0
 | .p _ b=>b
def Nm.mul:Nm→Nm→Nm
 | .i a,.i b=>.i (a*b)
 | m,n=>.p (m.re*n.re - m.im*n.im) (m.re*n.im+m.im*n.re)
def Nm.mulOk (m n:Nm):Prop:=IntMulOk m.re n.re∧IntMulOk m.im n.im∧IntMulOk m.re n.im∧IntMulOk m.im n.re
def sW:Dt→Option Nm
 | .int a=>some (.i a)
 | .tup [.int a,.int b]=>some (.p a b)
 | _=>none
def vh:DSp:=fun ds Q=>∃ d m,ds=[d]∧sW d=some m∧Q (.tup [.int m.re,.int m.im])
def mW:DSp:=fun ds Q=>∃ d e m n,ds=[d,e]∧sW d=some m∧sW e=some n∧m.mulOk n∧Q (m.mul n).dt
theorem yR {d:Dt} {m:Nm} (h:sW d=some m):d=m.dt:=by
 unfold sW at h
 split at h
 ·cases h; rfl
 ·cases h; rfl
 ·cases h
theorem yQ (m:Nm):sW m.dt=some m:=by cases m <;> rfl
theorem x_ (m:Nm):okE 40 m.dt=true:=by cases m <;> rfl
theorem small {n:Int} (h0:-1000000≤n) (h1:n≤1000000) (c:Int):IntMulOk c n:=Sd (by rw [decide_eq_true_iff]; omega)
theorem vn {n:Int} (h0:-1000000≤n) (h1:n≤1000000) (c:Int):IntMulOk n c:=Zl (by rw [decide_eq_true_iff]; omega)
def Kd.four:Kd→Bool
 | .plain=>true | .below=>true | .balanced=>true | .growing=>true | _=>false
def Kd.five:Kd→Bool
 | .falling=>false | _=>true
def Kd.low:Kd→Int→Int→Int
 | .balanced,n,_=>-n
 | _,_,_=>0
def Kd.high:Kd→Int→Int→Int
 | .plain,n,_=>n - 1
 | .below,n,_=>n - 1
 | .balanced,n,_=>n
 | .growing,n,p=>n+p - 1
 | .falling,n,_=>n
 | .pairs,n,_=>n*n
def Kd.rat:Kd→Int→Int→Int
 | .plain,n,_=>n
 | .below,n,_=>-n
 | .balanced,n,_=>2*n+1
 | .growing,n,p=>n+p
 | _,_,_=>0
def Kd.ratN:Kd→Int→Int→Nm
 | .pairs,n,_=>.p (-n) 1
 | k,n,p=>.i (k.rat n p)
def Nm.add:Nm→Nm→Nm
 | .i a,.i b=>.i (a+b)
 | m,n=>.p (m.re+n.re) (m.im+n.im)
def pS:DSp:=fun ds Q=>∃ d e m n,ds=[d,e]∧sW d=some m∧sW e=some n∧Q (m.add n).dt
def Kd.zero:Kd→Nm
 | .pairs=>.p 0 0
 | _=>.i 0
def wtF (n:Int):Nat→Int × Int
 | 0=>(1,1)
 | j+1=>((wtF n j).2,n*(wtF n j).2+(wtF n j).1)
def wtR (k:Kd) (n:Int):Nat→Nm
 | 0=>k.zero.add (.i 1)
 | j+1=>(k.ratN n j).mul (wtR k n j)
def wt:Kd→Int→Nat→Nm
 | .falling,n,j=>.i (wtF n j).2
 | k,n,j=>wtR k n j
theorem ww {k:Kd} {n:Int} (h:k.ok n):1≤n∧n≤60:=by
 obtain ⟨h1,h2⟩:=h
 cases k <;> simp only [Kd.lo,Kd.hi] at * <;> omega
theorem YL {k:Kd} {n p:Int} (h:k.ok n) (p0:0≤p) (p1:p≤1000):-1000000≤(k.ratN n p).re∧(k.ratN n p).re≤1000000∧-1000000≤(k.ratN n p).im∧(k.ratN n p).im≤1000000:=by
 obtain ⟨h1,h2⟩:=ww h
 cases k <;> simp only [Kd.ratN,Kd.rat,Nm.re,Nm.im] <;> omega
theorem dI {k:Kd} {n:Int} {j:Nat} (h:k.five=true):wt k n j=wtR k n j:=by cases k <;> first | rfl | cases h
theorem Yg {a:Int} {k:Nat} (h:a.natAbs<2 ^ k):Builtin.Int.intBits a≤k:=by
 rw [intBits_le_iff]
 exact h
def bdN (m:Nm) (k:Nat):Prop:=m.re.natAbs<2 ^ k∧m.im.natAbs<2 ^ k
theorem fv {a b:Int} {i j:Nat} (h:a.natAbs<2 ^ i) (h':b.natAbs<2 ^ j) (hij:i+j≤134217728):IntMulOk a b:=IntMulOk.of_le (Yg h) (Yg h') hij
def yL (k:Kd) (n:Int) (ns:List Int):Nat→Nm
 | 0=>k.zero
 | j+1=>(yL k n ns j).add ((Nm.i (ns.getD j 0)).mul (wt k n j))
def bdR (ns:List Int):Prop:=∀ t∈ns,t.natAbs<2 ^ 5000
theorem dX {ns:List Int} {i:Nat} {x:Dt} (h:(ns.map Dt.int)[i]? = some x):x=.int (ns.getD i 0)∧i<ns.length:=by
 rw [List.getElem?_map] at h
 cases q:ns[i]? with
 | none=>rw [q] at h; cases h
 | some z=>
  rw [q] at h
  have hl:i<ns.length:=by
   rcases Nat.lt_or_ge i ns.length with h | h
   ·exact h
   ·rw [List.getElem?_eq_none h] at q; cases q
  rw [List.getD_eq_getElem?_getD,q]
  exact ⟨(Option.some.inj h).symm,hl⟩
theorem l4 {ns:List Int} (h:bdR ns) (i:Nat):(ns.getD i 0).natAbs<2 ^ 5000:=by
 rw [List.getD_eq_getElem?_getD]
 cases q:ns[i]? with
 | none=>exact Nat.two_pow_pos 5000
 | some z=>exact h z (List.mem_of_getElem? q)
theorem ju {n:Int} (h1:1≤n) (h2:n≤60):∀ j:Nat,(wtF n j).1.natAbs<2 ^ (12*j+1)∧(wtF n j).2.natAbs<2 ^ (12*j+1)
 | 0=>⟨(by decide:(1:Int).natAbs<2 ^ 1),(by decide:(1:Int).natAbs<2 ^ 1)⟩
 | j+1=>by
  obtain ⟨a,b⟩:=ju h1 h2 j
  have pw:2 ^ (12*(j+1)+1)=2 ^ (12*j+1)*4096:=by rw [show 12*(j+1)+1=(12*j+1)+12 by omega,Nat.pow_add]
  rw [pw]
  unfold wtF
  dsimp only
  generalize 2 ^ (12 * j + 1)=B at *
  have hm:(n*(wtF n j).2).natAbs≤60*(wtF n j).2.natAbs:=by
   rw [Int.natAbs_mul]
   exact Nat.mul_le_mul_right _ (by omega)
  have hs:=Int.natAbs_add_le (n*(wtF n j).2) (wtF n j).1
  exact ⟨by omega,by omega⟩
theorem VZ (r w:Nm):(r.mul w).re=r.re * w.re - r.im * w.im:=by cases r <;> cases w <;> simp [Nm.mul,Nm.re,Nm.im]
theorem V0 (r w:Nm):(r.mul w).im=r.re * w.im + r.im * w.re:=by cases r <;> cases w <;> simp [Nm.mul,Nm.re,Nm.im]
theorem jt {k:Kd} {n:Int} (h:k.ok n):∀ j:Nat,j≤1000→bdN (wtR k n j) (12*j+1)
 | 0,_=>by cases k <;> exact ⟨(by decide:(1:Int).natAbs < 2 ^ 1),(by decide:(0:Int).natAbs < 2 ^ 1)⟩
 | j+1,hj=>by
  obtain ⟨a,b⟩:=jt h j (by omega)
  have pw:2 ^ (12*(j+1)+1)=2 ^ (12*j+1)*4096:=by rw [show 12*(j+1)+1=(12*j+1)+12 by omega,Nat.pow_add]
  obtain ⟨r1,r2,r3,r4⟩:=YL (p:=(j:Int)) h (by omega) (by omega)
  have hr:(k.ratN n j).re.natAbs≤2000∧(k.ratN n j).im.natAbs≤1:=by
   obtain ⟨h1,h2⟩:=ww h
   cases k <;> simp only [Kd.ratN,Kd.rat,Nm.re,Nm.im] <;> constructor <;> omega
  unfold bdN
  rw [pw]
  unfold wtR
  generalize 2 ^ (12 * j + 1)=B at *
  generalize k.ratN n j=r at *
  generalize wtR k n j=w at *
  obtain ⟨c,d⟩:=hr
  have m1:(r.re*w.re).natAbs≤2000*w.re.natAbs:=by rw [Int.natAbs_mul]; exact Nat.mul_le_mul_right _ c
  have m2:(r.im*w.im).natAbs≤1*w.im.natAbs:=by rw [Int.natAbs_mul]; exact Nat.mul_le_mul_right _ d
  have m3:(r.re*w.im).natAbs≤2000*w.im.natAbs:=by rw [Int.natAbs_mul]; exact Nat.mul_le_mul_right _ c
  have m4:(r.im*w.re).natAbs≤1*w.re.natAbs:=by rw [Int.natAbs_mul]; exact Nat.mul_le_mul_right _ d
  have s1:(r.re*w.re - r.im*w.im).natAbs≤(r.re*w.re).natAbs+(r.im*w.im).natAbs:=by omega
  have s2:=Int.natAbs_add_le (r.re*w.im) (r.im*w.re)
  rw [VZ,V0]
  exact ⟨by omega,by omega⟩
theorem UJ {k:Kd} {n:Int} (h:k.ok n) {j:Nat} (hj:j≤1000):bdN (wt k n j) (12*j+1):=by
 by_cases h5:k.five=true
 ·rw [dI h5]; exact jt h j hj
 ·cases k with
  | falling=>
   obtain ⟨h1,h2⟩:=ww h
   exact ⟨(ju h1 h2 j).2,show (0:Int).natAbs<_ from Nat.two_pow_pos _⟩
  | _=>exact absurd rfl h5
theorem wt4 {k:Kd} {n:Int} (h:k.four=true):∀ j,∃ w,wtR k n j=.i w
 | 0=>by cases k <;> cases h <;> exact ⟨_,rfl⟩
 | j+1=>by
  obtain ⟨w,e⟩:=wt4 (n:=n) h j
  unfold wtR
  rw [e]
  cases k <;> cases h <;> exact ⟨_,rfl⟩
theorem wt2 {n:Int}:∀ j,∃ x y,wtR .pairs n j=.p x y
 | 0=>⟨_,_,rfl⟩
 | j+1=>by
  obtain ⟨x,y,e⟩:=wt2 (n:=n) j
  unfold wtR
  rw [e]
  exact ⟨_,_,rfl⟩
theorem wtI {k:Kd} {n:Int} (h:k≠.pairs) (j:Nat):∃ w,wt k n j=.i w:=by
 cases k with
 | pairs=>exact absurd rfl h
 | falling=>exact ⟨_,rfl⟩
 | _=>exact wt4 rfl _
theorem wsI {k:Kd} {n:Int} {ns:List Int} (h:k≠.pairs):∀ j,∃ w,yL k n ns j=.i w
 | 0=>by cases k <;> first | exact ⟨_,rfl⟩ | exact absurd rfl h
 | j+1=>by
  obtain ⟨a,ea⟩:=wsI (n:=n) (ns:=ns) h j
  obtain ⟨w,ew⟩:=wtI (n:=n) h j
  unfold yL
  rw [ea,ew]
  exact ⟨_,rfl⟩
theorem wsP {n:Int} {ns:List Int}:∀ j,∃ x y,yL .pairs n ns j=.p x y
 | 0=>⟨_,_,rfl⟩
 | j+1=>by
  obtain ⟨x,y,e⟩:=wsP (n:=n) (ns:=ns) j
  obtain ⟨u,v,ew⟩:=wt2 (n:=n) j
  unfold yL
  rw [e]
  show ∃ _ _,(Nm.p x y).add ((Nm.i _).mul (wtR .pairs n j))=_
  rw [ew]
  exact ⟨_,_,rfl⟩
def sF (k:Kd) (n:Int) (j:Nat) (t:Nm):Int:=match k with
 | .pairs=>(t.re+n*t.im).fmod (n*n+1)
 | k=>k.low n j+(t.re - k.low n j).fmod (k.high n j - k.low n j+1)
def sC (k:Kd) (n:Int) (j:Nat) (t:Nm):Nm:=match k with
 | .pairs=>.p (((t.re - sF .pairs n j t)*(-n) - t.im*(-1)).fdiv (n*n+1)) (((t.re - sF .pairs n j t)*(-1)+t.im*(-n)).fdiv (n*n+1))
 | k=>.i ((t.re - sF k n j t).fdiv (k.rat n j))
def Nm.ty (k:Kd) (m:Nm):Prop:=match k with
 | .pairs=>∃ a b,m=.p a b
 | _=>∃ a,m=.i a
def tot (k:Kd) (m:Nm):Prop:=k≠.pairs→∃ a,m=.i a
def cAt (k:Kd) (n:Int) (ts:List Nm):Nat→Nm
 | 0=>k.zero
 | j+1=>sC k n j ((cAt k n ts j).add (ts.getD j (.i 0)))
def fAt (k:Kd) (n:Int) (ts:List Nm) (j:Nat):Int:=sF k n j ((cAt k n ts j).add (ts.getD j (.i 0)))
def xn (k:Kd) (n:Int) (ts:List Nm) (j:Nat):List Int:=(List.range j).map (fAt k n ts)
def crs (k:Kd) (n:Int) (ts:List Nm) (j:Nat):List Nm:=(List.range j).map (cAt k n ts)
def y6:Kd→Nm→Bool
 | .below,.i _=>true
 | .balanced,.i _=>true
 | .pairs,.p _ _=>true
 | .pairs,.i _=>false
 | _,.i a=>decide (0≤a)
 | _,.p _ _=>false
structure Fin (k:Kd) (n:Int) (ts:List Nm) (J:Nat):Prop where
 le:ts.length≤J
 z:cAt k n ts J=k.zero
 nz:∀ j,ts.length≤j→j<J→cAt k n ts j≠k.zero∧y6 k (cAt k n ts j)=true
def wN (k:Kd) (n:Int) (ts:List Nm):Nat→Nm
 | 0=>k.zero
 | j+1=>(wN k n ts j).add ((ts.getD j (.i 0)).mul (wt k n j))
def wF (k:Kd) (n:Int) (f:Nat→Int):Nat→Nm
 | 0=>k.zero
 | j+1=>(wF k n f j).add ((Nm.i (f j)).mul (wt k n j))
theorem yx (m n:Nm):(m.add n).re=m.re + n.re:=by cases m <;> cases n <;> simp [Nm.add,Nm.re]
theorem yO (m n:Nm):(m.add n).im=m.im + n.im:=by cases m <;> cases n <;> simp [Nm.add,Nm.im]
theorem zK (r w:Nm):(r.mul w).re=r.re * w.re - r.im * w.im:=by cases r <;> cases w <;> simp [Nm.mul,Nm.re,Nm.im]
theorem zQ (r w:Nm):(r.mul w).im=r.re * w.im + r.im * w.re:=by cases r <;> cases w <;> simp [Nm.mul,Nm.re,Nm.im]
theorem xt {k:Kd} {m:Nm} (h:k≠.pairs) (t:m.ty k):∃ a,m=.i a:=by
 cases k <;> first | exact t | exact absurd rfl h
theorem w8 {k:Kd} {a:Int} (h:k≠.pairs):(Nm.i a).ty k:=by
 cases k <;> first | exact ⟨_,rfl⟩ | exact absurd rfl h
theorem yC (k:Kd):(k.zero).ty k:=by cases k <;> first | exact ⟨_,rfl⟩ | exact ⟨_,_,rfl⟩
theorem zZ (k:Kd):(k.zero).re=0:=by cases k <;> rfl
theorem yo (k:Kd):(k.zero).im=0:=by cases k <;> rfl
theorem wP {k:Kd} {m m':Nm} (t:m.ty k) (t':m'.ty k) (h1:m.re=m'.re) (h2:m.im=m'.im):m=m':=by
 by_cases hk:k=.pairs
 ·subst hk
  obtain ⟨a,b,rfl⟩:=t
  obtain ⟨a',b',rfl⟩:=t'
  simp only [Nm.re,Nm.im] at h1 h2
  rw [h1,h2]
 ·obtain ⟨a,rfl⟩:=xt hk t
  obtain ⟨a',rfl⟩:=xt hk t'
  simp only [Nm.re] at h1
  rw [h1]
theorem Z5 (k:Kd) (n:Int) (j:Nat) (t:Nm):(sC k n j t).ty k:=by
 cases k <;> first | exact ⟨_,rfl⟩ | exact ⟨_,_,rfl⟩
theorem yN (k:Kd) (n:Int) (ts:List Nm):∀ j,(cAt k n ts j).ty k
 | 0=>yC k
 | j+1=>Z5 k n j _
theorem wv {k:Kd} {c t:Nm} (h:c.ty k) (h':tot k t):(c.add t).ty k:=by
 by_cases hk:k=.pairs
 ·subst hk
  obtain ⟨a,b,rfl⟩:=h
  cases t <;> exact ⟨_,_,rfl⟩
 ·obtain ⟨a,rfl⟩:=xt hk h
  obtain ⟨b,rfl⟩:=h' hk
  exact w8 hk
theorem yE {k:Kd} {ts:List Nm} (h:∀ t∈ts,tot k t) (j:Nat):tot k (ts.getD j (.i 0)):=by
 rw [List.getD_eq_getElem?_getD]
 cases q:ts[j]? with
 | none=>exact fun _=>⟨0,rfl⟩
 | some t=>exact h t (List.mem_of_getElem? q)
theorem kq {lo t n:Int} (hn:0<n):lo≤lo+(t - lo).fmod n∧lo+(t - lo).fmod n≤lo+n - 1∧(lo+(t - lo).fmod n)+((t - (lo+(t - lo).fmod n)).fdiv n)*n=t:=by
 have h0:=Int.fmod_nonneg_of_pos (t - lo) hn
 have h1:=Int.fmod_lt_of_pos (t - lo) hn
 have e:t - (lo+(t - lo).fmod n)=n*(t - lo).fdiv n:=by
  have:=Int.fmod_def (t - lo) n
  omega
 refine ⟨by omega,by omega,?_⟩
 have d:(t - (lo+(t - lo).fmod n)).fdiv n=(t - lo).fdiv n:=by
  rw [e]
  exact Int.mul_fdiv_cancel_left _ (by omega)
 rw [d,Int.mul_comm]
 omega
theorem kr {lo t n:Int} (hn:0<n):lo≤lo+(t - lo).fmod n∧lo+(t - lo).fmod n≤lo+n - 1∧(lo+(t - lo).fmod n)+((t - (lo+(t - lo).fmod n)).fdiv (-n))*(-n)=t:=by
 have h0:=Int.fmod_nonneg_of_pos (t - lo) hn
 have h1:=Int.fmod_lt_of_pos (t - lo) hn
 have e:t - (lo+(t - lo).fmod n)=(-n)*(-((t - lo).fdiv n)):=by
  have:=Int.fmod_def (t - lo) n
  rw [Int.neg_mul_neg]
  omega
 refine ⟨by omega,by omega,?_⟩
 have d:(t - (lo+(t - lo).fmod n)).fdiv (-n)=-((t - lo).fdiv n):=by
  rw [e]
  exact Int.mul_fdiv_cancel_left _ (by omega)
 rw [d,Int.neg_mul_neg,Int.mul_comm]
 have:=Int.fmod_def (t - lo) n
 omega
theorem sr {a b m:Int} (N:Int) (hN:N=m*m+1) (f:Int) (hf:f=(a+m*b).fmod N) (t0 t1:Int) (h0:t0=(a - f)*(-m) - b*(-1)) (h1:t1=(a - f)*(-1)+b*(-m)):
  0≤f∧f≤m*m∧f - m*(t0.fdiv N) - t1.fdiv N=a∧t0.fdiv N - m*(t1.fdiv N)=b:=by
 have sq:0≤m*m:=by
  rcases Int.le_total 0 m with h | h
  ·exact Int.mul_nonneg h h
  ·exact Int.mul_nonneg_of_nonpos_of_nonpos h h
 have hp:0<N:=by omega
 have g0:=Int.fmod_nonneg_of_pos (a+m*b) hp
 have g1:=Int.fmod_lt_of_pos (a+m*b) hp
 have e:=Int.fmod_def (a+m*b) N
 rw [← hf] at e g0 g1
 generalize (a+m*b).fdiv N=q at e
 have e0:t0=N*(b - m*q):=by subst hN; grind
 have e1:t1=N*(-q):=by subst hN; grind
 have d0:t0.fdiv N=b - m*q:=by rw [e0]; exact Int.mul_fdiv_cancel_left _ (by omega)
 have d1:t1.fdiv N=-q:=by rw [e1]; exact Int.mul_fdiv_cancel_left _ (by omega)
 rw [d0,d1]
 refine ⟨g0,by omega,?_,?_⟩ <;> subst hN <;> grind
def Kd.size:Kd→Int→Int→Int
 | .plain,n,_=>n
 | .below,n,_=>n
 | .balanced,n,_=>2*n+1
 | .growing,n,p=>n+p
 | _,_,_=>0
theorem pG {k:Kd} (h5:k.five=true) (hk:k≠.pairs):k.four=true:=by
 cases k <;> first | rfl | exact absurd rfl hk | cases h5
theorem qM {k:Kd} (h:k.four=true) (n p:Int):k.high n p - k.low n p+1=k.size n p∧(k.rat n p=k.size n p∨k.rat n p=-(k.size n p)):=by
 cases k <;> cases h <;> simp only [Kd.high,Kd.low,Kd.size,Kd.rat] <;> refine ⟨by omega,?_⟩ <;> first | exact .inl rfl | exact .inr rfl | exact .inr trivial | exact .inl trivial
theorem sw {k:Kd} {n:Int} (h:k.four=true) (hn:k.ok n) (j:Nat):2≤k.size n j:=by
 obtain ⟨h1,h2⟩:=hn
 cases k <;> cases h <;> simp only [Kd.lo,Kd.hi,Kd.size] at * <;> omega
theorem vO {k:Kd} {n:Int} {j:Nat} {t:Nm} (h5:k.five=true) (hn:k.ok n) (ht:t.ty k):
  k.low n j≤sF k n j t∧sF k n j t≤k.high n j∧t.re=sF k n j t+((k.ratN n j).mul (sC k n j t)).re∧t.im=((k.ratN n j).mul (sC k n j t)).im:=by
 by_cases hk:k=.pairs
 ·subst hk
  obtain ⟨g1,g2,g3,g4⟩:=sr (a:=t.re) (b:=t.im) (m:=n) (n*n+1) rfl _ rfl _ _ rfl rfl
  refine ⟨g1,g2,?_,?_⟩
  ·rw [zK]
   show t.re=_+(-n*_ - 1*_)
   unfold sC sF Nm.re Nm.im at *
   dsimp only at *
   grind
  ·rw [zQ]
   show t.im=(-n*_+1*_)
   unfold sC sF Nm.re Nm.im at *
   dsimp only at *
   grind
 ·have h4:=pG h5 hk
  obtain ⟨e1,e2⟩:=qM h4 n j
  have hp:=sw h4 hn j
  obtain ⟨a,rfl⟩:=xt hk ht
  have eF:sF k n j (.i a)=k.low n j + (a - k.low n j).fmod (k.size n j):=by rw [← e1]; cases k <;> first | rfl | exact absurd rfl hk
  have eC:sC k n j (.i a)=.i ((a - sF k n j (.i a)).fdiv (k.rat n j)):=by cases k <;> first | rfl | exact absurd rfl hk
  have eR:k.ratN n j=.i (k.rat n j):=by cases k <;> first | rfl | exact absurd rfl hk
  have s1:=kq (lo:=k.low n j) (t:=a) (n:=k.size n j) (by omega)
  have s2:=kr (lo:=k.low n j) (t:=a) (n:=k.size n j) (by omega)
  rw [eC,eR,eF]
  refine ⟨s1.1,by have:=s1.2.1; omega,?_,rfl⟩
  show a=_+k.rat n j*_
  rw [Int.mul_comm (k.rat n j)]
  rcases e2 with e | e
  ·rw [e]; exact s1.2.2.symm
  ·rw [e]; exact s2.2.2.symm
theorem yD {k:Kd} {n:Int} (h5:k.five=true) (j:Nat):wt k n (j+1)=(k.ratN n j).mul (wt k n j):=by
 cases k <;> first | rfl | cases h5
theorem km {T1 T2 F1 F2 w1 w2 c1 c2 t1 t2 f r1 r2 d1 d2:Int} (h1:T1=F1+(w1*c1 - w2*c2)) (h2:T2=F2+(w1*c2+w2*c1)) (s1:c1+t1=f+(r1*d1 - r2*d2)) (s2:c2+t2=r1*d2+r2*d1):
  T1+(t1*w1 - t2*w2)=F1+(f*w1 - 0*w2)+((r1*w1 - r2*w2)*d1 - (r1*w2+r2*w1)*d2)∧T2+(t1*w2+t2*w1)=F2+(f*w2+0*w1)+((r1*w1 - r2*w2)*d2+(r1*w2+r2*w1)*d1):=by
 have e1:c1=f+(r1*d1 - r2*d2) - t1:=by omega
 have e2:c2=r1*d2+r2*d1 - t2:=by omega
 subst e1 e2 h1 h2
 constructor <;> grind
theorem YE {k:Kd} {n:Int} {ts:List Nm} (h5:k.five=true) (hn:k.ok n) (ht:∀ t∈ts,tot k t):∀ j,
  (wN k n ts j).re=(wF k n (fAt k n ts) j).re+((wt k n j).mul (cAt k n ts j)).re∧(wN k n ts j).im=(wF k n (fAt k n ts) j).im+((wt k n j).mul (cAt k n ts j)).im
 | 0=>by
  unfold wN wF cAt
  rw [zK,zQ,zZ,yo]
  constructor <;> grind
 | j+1=>by
  obtain ⟨i1,i2⟩:=YE h5 hn ht j
  obtain ⟨_,_,s1,s2⟩:=vO (j:=j) h5 hn (wv (yN k n ts j) (yE ht j))
  have ec:cAt k n ts (j+1)=sC k n j ((cAt k n ts j).add (ts.getD j (.i 0))):=rfl
  have ef:fAt k n ts j=sF k n j ((cAt k n ts j).add (ts.getD j (.i 0))):=rfl
  rw [← ec,← ef] at s1
  rw [← ec] at s2
  rw [yx] at s1
  rw [yO] at s2
  have e1:(wN k n ts (j+1))=(wN k n ts j).add ((ts.getD j (.i 0)).mul (wt k n j)):=rfl
  have e2:(wF k n (fAt k n ts) (j+1))=(wF k n (fAt k n ts) j).add ((Nm.i (fAt k n ts j)).mul (wt k n j)):=rfl
  rw [e1,e2,yD h5]
  rw [zK] at s1
  rw [zQ] at s2
  rw [zK] at i1
  rw [zQ] at i2
  have R:=km i1 i2 s1 s2
  simp only [zK,zQ,yx,yO]
  exact R
theorem Rf {k:Kd} {c:Nm} (h:c.ty k):c.add (.i 0)=c:=by
 by_cases hk:k=.pairs
 ·subst hk
  obtain ⟨a,b,rfl⟩:=h
  show Nm.p (a+0) (b+0)=_
  rw [Int.add_zero,Int.add_zero]
 ·obtain ⟨a,rfl⟩:=xt hk h
  show Nm.i (a+0)=_
  rw [Int.add_zero]
theorem ZU {k:Kd} {n:Int} {ts:List Nm} {j:Nat} (h:ts.length≤j):cAt k n ts (j+1)=sC k n j (cAt k n ts j):=by
 have e:ts.getD j (.i 0)=.i 0:=by rw [List.getD_eq_getElem?_getD,List.getElem?_eq_none h]; rfl
 show sC k n j ((cAt k n ts j).add (ts.getD j (.i 0)))=_
 rw [e,Rf (yN k n ts j)]
theorem oE {s t f a:Int} (hs:2≤s) (f1:0≤f) (f2:f≤s - 1) (q:t=f+s*a):2*a.natAbs≤t.natAbs+1∧(0≤t→0≤a)∧(t.natAbs≤1→0≤t→a=0):=by
 have hm:∀ x:Int,0≤x→2*x≤s*x:=fun x hx=>Int.mul_le_mul_of_nonneg_right hs hx
 have e2:s*(-a)=-(s*a):=Int.mul_neg ..
 have e3:s*(-a - 1)=-(s*a) - s:=by rw [Int.mul_sub,Int.mul_one,e2]
 rcases (by omega:0≤a∨a≤-1) with z | z
 ·have:=hm a z
  exact ⟨by omega,fun _=>z,fun _ _=>by omega⟩
 ·have:=hm (-a - 1) (by omega)
  exact ⟨by omega,fun _=>by omega,fun _ _=>by omega⟩
theorem p9 {k:Kd} {n:Int} {j:Nat} {t a:Int} (h4:k.four=true) (hn:k.ok n) (e:sC k n j (.i t)=.i a):
  2*a.natAbs≤t.natAbs+1∧(y6 k (.i t)=true→y6 k (.i a)=true)∧(t.natAbs≤1→y6 k (.i t)=true→a=0∨(t=-1∧a=1)):=by
 have h5:k.five=true:=by cases k <;> first | rfl | cases h4
 have hk:k≠.pairs:=fun z=>by rw [z] at h4; cases h4
 obtain ⟨f1,f2,q,_⟩:=vO (j:=j) h5 hn (t:=.i t) (w8 hk)
 rw [e,zK] at q
 have hs:=sw h4 hn j
 obtain ⟨h1,h2⟩:=hn
 generalize sF k n j (.i t)=f at *
 cases k with
 | falling=>cases h4
 | pairs=>cases h4
 | plain=>
  simp only [Kd.ratN,Kd.rat,Nm.re,Nm.im,Kd.low,Kd.high,Kd.size,y6,decide_eq_true_iff] at *
  obtain ⟨p1,p2,p3⟩:=oE (t:=t) (a:=a) hs f1 f2 (by omega)
  exact ⟨p1,p2,fun x y=>.inl (p3 x y)⟩
 | below=>
  simp only [Kd.ratN,Kd.rat,Nm.re,Nm.im,Kd.low,Kd.high,Kd.size,y6] at *
  have q':t=f - n*a:=by rw [q,Int.neg_mul]; omega
  have hm:∀ x:Int,0≤x→2*x≤n*x:=fun x hx=>Int.mul_le_mul_of_nonneg_right hs hx
  have e1:n*(a - 1)=n*a - n:=by rw [Int.mul_sub,Int.mul_one]
  have e2:n*(-a)=-(n*a):=Int.mul_neg ..
  have e3:n*(-a - 1)=-(n*a) - n:=by rw [Int.mul_sub,Int.mul_one,e2]
  refine ⟨?_,fun _=>trivial,fun h3 _=>?_⟩
  ·rcases (by omega:1≤a∨a=0∨a≤-1) with z | z | z
   ·have:=hm (a - 1) (by omega); omega
   ·omega
   ·have:=hm (-a) (by omega); omega
  ·rcases (by omega:2≤a∨a=1∨a=0∨a≤-1) with z | z | z | z
   ·have:=hm (a - 1) (by omega); omega
   ·subst z; omega
   ·exact .inl z
   ·have:=hm (-a) (by omega); omega
 | balanced=>
  simp only [Kd.ratN,Kd.rat,Nm.re,Nm.im,Kd.low,Kd.high,Kd.size,y6,Kd.lo] at *
  have q':t=f+2*(n*a)+a:=by rw [q,Int.add_mul,Int.mul_assoc]; omega
  have hm:∀ x:Int,0≤x→x≤n*x:=fun x hx=>by
   have:=Int.mul_le_mul_of_nonneg_right h1 hx
   omega
  have e1:n*(a - 1)=n*a - n:=by rw [Int.mul_sub,Int.mul_one]
  have e2:n*(-a)=-(n*a):=Int.mul_neg ..
  have e3:n*(-a - 1)=-(n*a) - n:=by rw [Int.mul_sub,Int.mul_one,e2]
  have key:2*a.natAbs≤t.natAbs:=by
   rcases (by omega:1≤a∨a=0∨a≤-1) with z | z | z
   ·have:=hm (a - 1) (by omega); have:=hm a (by omega); omega
   ·omega
   ·have:=hm (-a - 1) (by omega); have:=hm (-a) (by omega); omega
  exact ⟨by omega,fun _=>trivial,fun _ _=>.inl (by omega)⟩
 | growing=>
  simp only [Kd.ratN,Kd.rat,Nm.re,Nm.im,Kd.low,Kd.high,Kd.size,y6,decide_eq_true_iff] at *
  obtain ⟨p1,p2,p3⟩:=oE (t:=t) (a:=a) (s:=n+(j:Int)) hs f1 (by omega) (by omega)
  exact ⟨p1,p2,fun x y=>.inl (p3 x y)⟩
theorem ZZ {k:Kd} (h4:k.four=true):k.zero=.i 0:=by cases k <;> first | rfl | cases h4
theorem sC4 {k:Kd} {n:Int} {j:Nat} {t:Nm} (h4:k.four=true):∃ a,sC k n j t=.i a:=xt (fun z=>by rw [z] at h4; cases h4) (Z5 k n j t)
theorem Yj {k:Kd} {n:Int} (h4:k.four=true) (hn:k.ok n):∀ (b:Nat) (j:Nat) (c:Nat→Nm) (t:Int),c 0=.i t→(∀ i,c (i+1)=sC k n (j+i) (c i))→y6 k (.i t)=true→t.natAbs≤2 ^ b→∃ m,m≤b+2∧c m=k.zero
 | 0,j,c,t,h0,hc,hh,hb=>by
  obtain ⟨a,ea⟩:=sC4 (n:=n) (j:=j) (t:=.i t) h4
  have e1:c 1=.i a:=by rw [hc 0,h0]; exact ea
  obtain ⟨_,s2,s3⟩:=p9 h4 hn ea
  rcases s3 hb hh with z | ⟨_,z⟩
  ·exact ⟨1,by omega,by rw [e1,z,ZZ h4]⟩
  ·obtain ⟨a2,ea2⟩:=sC4 (n:=n) (j:=j+1) (t:=.i a) h4
   have e2:c 2=.i a2:=by rw [hc 1,e1]; exact ea2
   obtain ⟨_,_,s5⟩:=p9 h4 hn ea2
   rcases s5 (by omega) (s2 hh) with y | ⟨y,_⟩
   ·exact ⟨2,by omega,by rw [e2,y,ZZ h4]⟩
   ·omega
 | b+1,j,c,t,h0,hc,hh,hb=>by
  obtain ⟨a,ea⟩:=sC4 (n:=n) (j:=j) (t:=.i t) h4
  have e1:c 1=.i a:=by rw [hc 0,h0]; exact ea
  obtain ⟨s1,s2,_⟩:=p9 h4 hn ea
  have hp:2 ^ (b+1)=2*2 ^ b:=by rw [Nat.pow_succ]; omega
  obtain ⟨m,hm,e⟩:=Yj h4 hn b (j+1) (fun i=>c (i+1)) a e1 (fun i=>by rw [hc (i+1),show j+(i+1)=j+1+i by omega]) (s2 hh) (by omega)
  exact ⟨m+1,by omega,e⟩
theorem oh {k:Kd} {n:Int} (h4:k.four=true) (hn:k.ok n) {j:Nat} {c:Nat→Nm} {t:Int} (h0:c 0=.i t) (hc:∀ i,c (i+1)=sC k n (j+i) (c i)) (hh:y6 k (.i t)=true):∀ i,∃ a,c i=.i a∧y6 k (.i a)=true
 | 0=>⟨t,h0,hh⟩
 | i+1=>by
  obtain ⟨a,e,h⟩:=oh h4 hn h0 hc hh i
  obtain ⟨a',e'⟩:=sC4 (n:=n) (j:=j+i) (t:=.i a) h4
  exact ⟨a',by rw [hc i,e]; exact e',(p9 h4 hn e').2.1 h⟩
def pA (n a b:Int):Int:=((a - (a+n*b).fmod (n*n+1))*(-n) - b*(-1)).fdiv (n*n+1)
def pB (n a b:Int):Int:=((a - (a+n*b).fmod (n*n+1))*(-1)+b*(-n)).fdiv (n*n+1)
theorem dU (n:Int) (j:Nat) (a b:Int):sC .pairs n j (.p a b)=.p (pA n a b) (pB n a b):=rfl
def pz (n:Int):Nat→Int→Int→Bool
 | 0,a,b=>a == 0 && b == 0
 | m+1,a,b=>(a == 0 && b == 0) || pz n m (pA n a b) (pB n a b)
theorem YM:(List.range 9).all (fun n=>(List.range 31).all fun a=>(List.range 31).all fun b=>pz ((n:Int)+1) 14 ((a:Int) - 15) ((b:Int) - 15))=true:=by decide +kernel
theorem jS {n a b:Int} (n1:1≤n) (n2:n≤9) (a1:-15≤a) (a2:a≤15) (b1:-15≤b) (b2:b≤15):pz n 14 a b=true:=by
 have h:=List.all_eq_true.mp YM (n - 1).toNat (List.mem_range.mpr (by omega))
 have h:=List.all_eq_true.mp h (a+15).toNat (List.mem_range.mpr (by omega))
 have h:=List.all_eq_true.mp h (b+15).toNat (List.mem_range.mpr (by omega))
 rw [show (((n - 1).toNat:Nat):Int)+1=n by omega,show (((a+15).toNat:Nat):Int) - 15=a by omega,show (((b+15).toNat:Nat):Int) - 15=b by omega] at h
 exact h
theorem qV {n:Int}:∀ (m j:Nat) (c:Nat→Nm) (a b:Int),c 0=.p a b→(∀ i,c (i+1)=sC .pairs n (j+i) (c i))→pz n m a b=true→∃ i,i≤m∧c i=Kd.zero .pairs
 | 0,j,c,a,b,h0,hc,h=>by
  unfold pz at h
  rw [Bool.and_eq_true,beq_iff_eq,beq_iff_eq] at h
  exact ⟨0,Nat.le_refl _,by rw [h0,h.1,h.2]; rfl⟩
 | m+1,j,c,a,b,h0,hc,h=>by
  unfold pz at h
  rw [Bool.or_eq_true] at h
  rcases h with h | h
  ·rw [Bool.and_eq_true,beq_iff_eq,beq_iff_eq] at h
   exact ⟨0,by omega,by rw [h0,h.1,h.2]; rfl⟩
  ·obtain ⟨i,hi,e⟩:=qV m (j+1) (fun i=>c (i+1)) _ _ (by rw [hc 0,h0]; exact dU n _ a b) (fun i=>by rw [hc (i+1),show j+(i+1)=j+1+i by omega]) h
   exact ⟨i+1,by omega,e⟩
theorem lz {n a b:Int}:∃ f,0≤f∧f≤n*n∧(a - f)*(a - f)+b*b=(n*n+1)*(pA n a b*pA n a b+pB n a b*pB n a b):=by
 obtain ⟨g1,g2,g3,g4⟩:=sr (a:=a) (b:=b) (m:=n) (n*n+1) rfl _ rfl _ _ rfl rfl
 refine ⟨_,g1,g2,?_⟩
 have e1:pA n a b=((a - (a+n*b).fmod (n*n+1))*(-n) - b*(-1)).fdiv (n*n+1):=rfl
 have e2:pB n a b=((a - (a+n*b).fmod (n*n+1))*(-1)+b*(-n)).fdiv (n*n+1):=rfl
 rw [← e1,← e2] at g3
 rw [← e1,← e2] at g4
 generalize (a + n * b).fmod (n * n + 1)=f at *
 generalize pA n a b=x at *
 generalize pB n a b=y at *
 have ea:a - f=-(n*x) - y:=by omega
 have eb:b=x - n*y:=by omega
 rw [ea,eb]
 grind
theorem z7 (x:Int):0≤x*x:=by
 rcases Int.le_total 0 x with h | h
 ·exact Int.mul_nonneg h h
 ·exact Int.mul_nonneg_of_nonpos_of_nonpos h h
theorem Uc {a S:Int} (h:a*a≤S) (h2:256≤S):16*a≤S:=by
 by_cases z:16≤a
 ·exact Int.le_trans (Int.mul_le_mul_of_nonneg_right z (by omega)) h
 ·omega
theorem jE {a:Int} (h:¬ (-15≤a∧a≤15)):256≤a*a:=by
 rcases (by omega:16≤a∨16≤-a) with z | z
 ·have:=Int.mul_le_mul z z (by decide) (by omega); omega
 ·have:=Int.mul_le_mul z z (by decide) (by omega); rw [Int.neg_mul_neg] at this; omega
theorem ZA {S N p q t:Int} (h1:-(16*p)≤t) (h2:q≤82*N - 81) (h3:1≤N) (h5:256*(4*N - 3)≤4*t - 3*S):8*(S - 2*p+q)≤5*(t+S):=by omega
theorem fV {n a b f:Int} (n1:1≤n) (n2:n≤9) (f0:0≤f) (f1:f≤n*n) (h:¬ (-15≤a∧a≤15∧-15≤b∧b≤15)):8*((a - f)*(a - f)+b*b)≤5*((n*n+1)*(a*a+b*b)):=by
 have q1:1≤n*n:=Int.mul_le_mul n1 n1 (by decide) (Int.le_trans (by decide) n1)
 have q2:n*n≤81:=Int.mul_le_mul n2 n2 (Int.le_trans (by decide) n1) (by decide)
 generalize n * n=N at *
 have hS:256≤a*a+b*b:=by
  have sa:=z7 a
  have sb:=z7 b
  by_cases z:-15≤a∧a≤15
  ·have:=jE (a:=b) fun y=>h ⟨z.1,z.2,y.1,y.2⟩
   omega
  ·have:=jE z
   omega
 have h16:16 * -a≤a*a+b*b:=Uc (by rw [Int.neg_mul_neg]; have:=z7 b; omega) hS
 have e:(a - f)*(a - f)+b*b=(a*a+b*b) - 2*(a*f)+f*f:=by grind
 rw [e,Int.add_mul,Int.one_mul]
 generalize a * a + b * b=S at *
 have k1:=Int.mul_le_mul_of_nonneg_left h16 f0
 have k2:=Int.mul_le_mul_of_nonneg_right f1 (show 0≤S by omega)
 have k3:f*f≤N*N:=Int.mul_le_mul f1 f1 f0 (by omega)
 have k4:=Int.mul_nonneg (show 0≤N - 1 by omega) (show 0≤81 - N by omega)
 have e4:(N - 1)*(81 - N)=82*N - 81 - N*N:=by grind
 have k5:=Int.mul_le_mul_of_nonneg_left hS (show 0≤4*N - 3 by omega)
 have e5:(4*N - 3)*S=4*(N*S) - 3*S:=by grind
 have e1:f*(16 * -a)=-(16*(a*f)):=by grind
 rw [e4] at k4
 rw [e5] at k5
 rw [e1] at k1
 exact ZA (Int.le_trans k1 k2) (by omega) q1 (by rw [Int.mul_comm]; exact k5)
theorem oR {n a b:Int} (n1:1≤n) (n2:n≤9) (h:¬ (-15≤a∧a≤15∧-15≤b∧b≤15)):8*(pA n a b*pA n a b+pB n a b*pB n a b)≤5*(a*a+b*b):=by
 obtain ⟨f,f0,f1,e⟩:=lz (n:=n) (a:=a) (b:=b)
 have k:=fV n1 n2 f0 f1 h
 rw [e] at k
 have q1:0<n*n+1:=by have:=z7 n; omega
 generalize pA n a b * pA n a b + pB n a b * pB n a b=X at *
 generalize a * a + b * b=Y at *
 generalize n * n + 1=N at *
 have k':N*(8*X)≤N*(5*Y):=by
  have r1:N*(8*X)=8*(N*X):=by grind
  have r2:N*(5*Y)=5*(N*Y):=by grind
  rw [r1,r2]; exact k
 exact Int.le_of_mul_le_mul_left k' q1
theorem Sw {n:Int} (n1:1≤n) (n2:n≤9):∀ (d j:Nat) (c:Nat→Nm) (a b:Int),c 0=.p a b→(∀ i,c (i+1)=sC .pairs n (j+i) (c i))→a*a+b*b≤((2 ^ d:Nat):Int)→∃ m,m≤2*d+16∧c m=Kd.zero .pairs:=by
 intro d
 induction d with
 | zero=>
  intro j c a b h0 hc hb
  have sa:=z7 a
  have sb:=z7 b
  have hb':a*a+b*b≤1:=hb
  have ha:-15≤a∧a≤15:=by
   constructor
   ·rcases Int.lt_or_le a (-15) with z | z
    ·have:=Int.mul_le_mul (show 16≤-a by omega) (show 16≤-a by omega) (by decide) (by omega)
     rw [Int.neg_mul_neg] at this; omega
    ·exact z
   ·rcases Int.lt_or_le 15 a with z | z
    ·have:=Int.mul_le_mul (show 16≤a by omega) (show 16≤a by omega) (by decide) (by omega)
     omega
    ·exact z
  have hbb:-15≤b∧b≤15:=by
   constructor
   ·rcases Int.lt_or_le b (-15) with z | z
    ·have:=Int.mul_le_mul (show 16≤-b by omega) (show 16≤-b by omega) (by decide) (by omega)
     rw [Int.neg_mul_neg] at this; omega
    ·exact z
   ·rcases Int.lt_or_le 15 b with z | z
    ·have:=Int.mul_le_mul (show 16≤b by omega) (show 16≤b by omega) (by decide) (by omega)
     omega
    ·exact z
  obtain ⟨i,hi,e⟩:=qV 14 j c a b h0 hc (jS n1 n2 ha.1 ha.2 hbb.1 hbb.2)
  exact ⟨i,by omega,e⟩
 | succ d ih=>
  intro j c a b h0 hc hb
  by_cases hin:-15≤a∧a≤15∧-15≤b∧b≤15
  ·obtain ⟨i,hi,e⟩:=qV 14 j c a b h0 hc (jS n1 n2 hin.1 hin.2.1 hin.2.2.1 hin.2.2.2)
   exact ⟨i,by omega,e⟩
  ·have e1:c 1=.p (pA n a b) (pB n a b):=by rw [hc 0,h0]; exact dU n _ a b
   have k1:=oR n1 n2 hin
   by_cases hin2:-15≤pA n a b∧pA n a b≤15∧-15≤pB n a b∧pB n a b≤15
   ·obtain ⟨i,hi,e⟩:=qV 14 (j+1) (fun i=>c (i+1)) _ _ e1 (fun i=>by rw [hc (i+1),show j+(i+1)=j+1+i by omega]) (jS n1 n2 hin2.1 hin2.2.1 hin2.2.2.1 hin2.2.2.2)
    exact ⟨i+1,by omega,e⟩
   ·have k2:=oR n1 n2 hin2
    have e2:c 2=.p (pA n (pA n a b) (pB n a b)) (pB n (pA n a b) (pB n a b)):=by rw [hc 1,e1]; exact dU n _ _ _
    have hp:((2 ^ (d+1):Nat):Int)=2*((2 ^ d:Nat):Int):=by rw [Nat.pow_succ]; omega
    have h2:(0:Int)≤((2 ^ d:Nat):Int):=Int.natCast_nonneg _
    obtain ⟨m,hm,e⟩:=ih (j+2) (fun i=>c (i+2)) _ _ e2 (fun i=>by rw [hc (i+2),show j+(i+2)=j+2+i by omega]) (by omega)
    exact ⟨m+2,by omega,e⟩
theorem YJ {k:Kd} {n:Int} {j:Nat} {c t:Nm} {T:Nat} (h4:k.four=true) (hn:k.ok n) (hc:c.ty k) (ht:tot k t) (b1:c.re.natAbs≤T+1) (b2:t.re.natAbs≤T):(sC k n j (c.add t)).re.natAbs≤T+1:=by
 have hk:k≠.pairs:=fun z=>by rw [z] at h4; cases h4
 obtain ⟨x,rfl⟩:=xt hk hc
 obtain ⟨y,rfl⟩:=ht hk
 obtain ⟨a,ea⟩:=sC4 (n:=n) (j:=j) (t:=.i (x+y)) h4
 have e:(Nm.i x).add (.i y)=.i (x+y):=rfl
 rw [e,ea]
 have:=(p9 h4 hn ea).1
 simp only [Nm.re] at *
 omega
theorem lZ {k:Kd} {n:Int} {ts:List Nm} {T:Nat} (h4:k.four=true) (hn:k.ok n) (ht:∀ t∈ts,tot k t) (hb:∀ t∈ts,t.re.natAbs≤T):∀ j,(cAt k n ts j).re.natAbs≤T+1
 | 0=>by
  show (k.zero).re.natAbs≤_
  rw [zZ]
  exact Nat.zero_le _
 | j+1=>by
  refine YJ h4 hn (yN k n ts j) (yE ht j) (lZ h4 hn ht hb j) ?_
  rw [List.getD_eq_getElem?_getD]
  cases q:ts[j]? with
  | none=>exact Nat.zero_le _
  | some t=>exact hb t (List.mem_of_getElem? q)
theorem Z2 {x T:Int} (h1:-T≤x) (h2:x≤T):x*x≤T*T:=by
 rcases Int.le_total 0 x with z | z
 ·exact Int.mul_le_mul h2 h2 z (by omega)
 ·have:=Int.mul_le_mul (show -x≤T by omega) (show -x≤T by omega) (by omega) (by omega)
  rwa [Int.neg_mul_neg] at this
theorem kW {n a b x y T:Int} (hT:81≤T) (n1:1≤n) (n2:n≤9) (hx1:-T≤x) (hx2:x≤T) (hy1:-T≤y) (hy2:y≤T) (h:a*a+b*b≤30*(T*T)):
  pA n (a+x) (b+y)*pA n (a+x) (b+y)+pB n (a+x) (b+y)*pB n (a+x) (b+y)≤30*(T*T):=by
 obtain ⟨f,f0,f1,e⟩:=lz (n:=n) (a:=a+x) (b:=b+y)
 have q1:1≤n*n:=by have:=Int.mul_le_mul n1 n1 (by omega) (by omega); omega
 have q2:n*n≤81:=by have:=Int.mul_le_mul n2 n2 (by omega) (by omega); omega
 generalize pA n (a + x) (b + y) * pA n (a + x) (b + y) + pB n (a + x) (b + y) * pB n (a + x) (b + y)=X at *
 have hX:2*X≤(n*n+1)*X∨X<0:=by
  rcases Int.lt_or_le X 0 with z | z
  ·exact .inr z
  ·exact .inl (Int.mul_le_mul_of_nonneg_right (by omega) z)
 have r1:2*((a+x - f)*(a+x - f))≤3*(a*a)+6*((x - f)*(x - f)):=by
  have:=z7 (a - 2*(x - f))
  have e1:(a - 2*(x - f))*(a - 2*(x - f))=a*a - 4*(a*(x - f))+4*((x - f)*(x - f)):=by grind
  have e2:(a+x - f)*(a+x - f)=a*a+2*(a*(x - f))+(x - f)*(x - f):=by grind
  omega
 have r2:2*((b+y)*(b+y))≤3*(b*b)+6*(y*y):=by
  have:=z7 (b - 2*y)
  have e1:(b - 2*y)*(b - 2*y)=b*b - 4*(b*y)+4*(y*y):=by grind
  have e2:(b+y)*(b+y)=b*b+2*(b*y)+y*y:=by grind
  omega
 have s1:(x - f)*(x - f)≤(2*T)*(2*T):=Z2 (by omega) (by omega)
 have s2:y*y≤T*T:=Z2 hy1 hy2
 have s3:(2*T)*(2*T)=4*(T*T):=by grind
 have s4:=z7 T
 omega
theorem lY {n:Int} {ts:List Nm} {T:Nat} (hT:81≤T) (hn:Kd.pairs.ok n) (hb:∀ t∈ts,t.re.natAbs≤T∧t.im.natAbs≤T):∀ j,∃ a b,cAt .pairs n ts j=.p a b∧a*a+b*b≤30*((T:Int)*T)
 | 0=>⟨0,0,rfl,by have:=z7 (T:Int); omega⟩
 | j+1=>by
  obtain ⟨a,b,e,h⟩:=lY hT hn hb j
  have ht:(ts.getD j (.i 0)).re.natAbs≤T∧(ts.getD j (.i 0)).im.natAbs≤T:=by
   rw [List.getD_eq_getElem?_getD]
   cases q:ts[j]? with
   | none=>exact ⟨Nat.zero_le _,Nat.zero_le _⟩
   | some t=>exact hb t (List.mem_of_getElem? q)
  have ea:(Nm.p a b).add (ts.getD j (.i 0))=.p (a+(ts.getD j (.i 0)).re) (b+(ts.getD j (.i 0)).im):=by
   cases ts.getD j (.i 0) <;> rfl
  refine ⟨_,_,by show sC .pairs n j ((cAt .pairs n ts j).add _)=_; rw [e,ea]; exact dU ..,?_⟩
  have h1:(1:Int)≤n:=hn.1
  have h2:n≤9:=hn.2
  exact kW (by omega) h1 h2 (by omega) (by omega) (by omega) (by omega) h
theorem Sf {P:Nat→Prop}:∀ (m:Nat),P m→∃ i,i≤m∧P i∧∀ l,l<i→¬ P l:=by
 intro m
 induction m using Nat.strongRecOn with
 | ind m ih=>
  intro h
  by_cases hx:∃ l,l<m∧P l
  ·obtain ⟨l,hl,pl⟩:=hx
   obtain ⟨i,hi,h2⟩:=ih l hl pl
   exact ⟨i,by omega,h2⟩
  ·exact ⟨m,Nat.le_refl _,h,fun l hl pl=>hx ⟨l,hl,pl⟩⟩
theorem dP {k:Kd} {n:Int} {ts:List Nm} {b:Nat} (h5:k.five=true) (hn:k.ok n) (ht:∀ t∈ts,tot k t) (hb:∀ t∈ts,t.re.natAbs≤2 ^ b∧t.im.natAbs≤2 ^ b) (b7:7≤b) (hh:y6 k (cAt k n ts ts.length)=true):
  ∃ J,Fin k n ts J∧J≤ts.length+4*b+30∧(k≠.pairs→J≤ts.length+b+3):=by
 have hpow:2 ^ (b+1)=2*2 ^ b:=by rw [Nat.pow_succ]; omega
 have h128:128≤2 ^ b:=Nat.pow_le_pow_right (by decide:0<2) b7
 have main:∃ m,m≤4*b+30∧(k≠.pairs→m≤b+3)∧cAt k n ts (ts.length+m)=k.zero∧∀ i,y6 k (cAt k n ts (ts.length+i))=true:=by
  have hc:∀ i,cAt k n ts (ts.length+(i+1))=sC k n (ts.length+i) (cAt k n ts (ts.length+i)):=fun i=>ZU (j:=ts.length+i) (by omega)
  by_cases hk:k=.pairs
  ·subst hk
   obtain ⟨x,y,e,hxy⟩:=lY (T:=2 ^ b) (by omega) hn hb ts.length
   have hbig:30*(((2 ^ b:Nat):Int)*((2 ^ b:Nat):Int))≤((2 ^ (2*b+5):Nat):Int):=by
    have:2 ^ (2*b+5)=32*(2 ^ b*2 ^ b):=by rw [← Nat.pow_add,show 2*b+5=(b+b)+5 by omega,Nat.pow_add]; omega
    rw [this,← Int.natCast_mul]
    omega
   obtain ⟨m,hm,em⟩:=Sw hn.1 hn.2 (2*b+5) ts.length (fun i=>cAt .pairs n ts (ts.length+i)) x y e hc (Int.le_trans hxy hbig)
   refine ⟨m,by omega,fun z=>absurd rfl z,em,fun i=>?_⟩
   obtain ⟨u,v,e'⟩:=yN .pairs n ts (ts.length+i)
   rw [e']
   rfl
  ·have h4:=pG h5 hk
   obtain ⟨t,et⟩:=xt hk (yN k n ts ts.length)
   rw [et] at hh
   have bd:=lZ h4 hn ht (fun t h=>(hb t h).1) ts.length
   rw [et] at bd
   have bd':t.natAbs≤2 ^ b+1:=bd
   obtain ⟨m,hm,em⟩:=Yj h4 hn (b+1) ts.length (fun i=>cAt k n ts (ts.length+i)) t et hc hh (by omega)
   refine ⟨m,by omega,fun _=>by omega,em,fun i=>?_⟩
   obtain ⟨a,e',h'⟩:=oh h4 hn (c:=fun i=>cAt k n ts (ts.length+i)) et hc hh i
   have e':cAt k n ts (ts.length+i)=.i a:=e'
   rw [e']
   exact h'
 obtain ⟨m,hm,hm4,em,hall⟩:=main
 obtain ⟨i,hi,pi,hl⟩:=Sf (P:=fun i=>cAt k n ts (ts.length+i)=k.zero) m em
 refine ⟨ts.length+i,⟨by omega,pi,fun j h1 h2=>?_⟩,by omega,fun z=>by have:=hm4 z; omega⟩
 have e:j=ts.length+(j - ts.length):=by omega
 rw [e]
 exact ⟨hl _ (by omega),hall _⟩
theorem wS (k:Kd) (n:Int) (ts:List Nm) (j:Nat):(xn k n ts j).length=j:=by unfold xn; rw [List.length_map,List.length_range]
theorem o5 {k:Kd} {n:Int} {ts:List Nm} {j i:Nat} (h:i<j):(xn k n ts j).getD i 0=fAt k n ts i:=by
 unfold xn
 rw [List.getD_eq_getElem?_getD,List.getElem?_map,List.getElem?_range h]
 rfl
theorem qs (k:Kd) (n:Int) (ts:List Nm) (j:Nat):xn k n ts (j+1)=xn k n ts j++[fAt k n ts j]:=by
 unfold xn
 rw [List.range_succ,List.map_append]
 rfl
theorem nl (k:Kd) (n:Int) (ts:List Nm) (j:Nat):crs k n ts (j+1)=crs k n ts j++[cAt k n ts j]:=by
 unfold crs
 rw [List.range_succ,List.map_append]
 rfl
theorem lX (k:Kd) (n:Int) (ts:List Nm) (j:Nat):(crs k n ts j).length=j:=by unfold crs; rw [List.length_map,List.length_range]
def Kd.isF:Kd→Bool
 | .falling=>true
 | _=>false
structure Legal (k:Kd) (n:Int) (r:List Int):Prop where
 fig:∀ p,p<r.length→k.low n p≤r.getD p 0∧r.getD p 0≤k.high n p
 fal:k.isF=true→∀ p,p+1<r.length→r.getD (p+1) 0=n→r.getD p 0=0
 end_:r=[]∨r.getD (r.length - 1) 0≠0
open Classical in
noncomputable def oU (k:Kd) (n:Int) (r:List Int):Bool:=decide (Legal k n r)
open Classical in
theorem lC {k:Kd} {n:Int} {r:List Int} (h:Legal k n r):oU k n r=true:=by unfold oU; exact decide_eq_true h
open Classical in
theorem pr {k:Kd} {n:Int} {r:List Int} (h:¬ Legal k n r):oU k n r=false:=by unfold oU; exact decide_eq_false h
structure Lg (k:Kd) (n:Int) (r:List Int):Prop where
 fig:∀ p,p<r.length→k.low n p≤r.getD p 0∧r.getD p 0≤k.high n p
 fal:k.isF=true→∀ p,p+1<r.length→r.getD (p+1) 0=n→r.getD p 0=0
theorem uN {k:Kd} {n:Int} (h:k.ok n) (p:Nat):k.low n p≤0∧0≤k.high n p:=by
 obtain ⟨h1,h2⟩:=h
 cases k <;> simp only [Kd.lo,Kd.hi,Kd.low,Kd.high] at * <;> first | omega | exact ⟨Int.le_refl _,Int.mul_nonneg (by omega) (by omega)⟩
theorem zD {r:List Int} {z:Int} {p:Nat} (h:p<r.length):(r++[z]).getD p 0=r.getD p 0:=by
 rw [List.getD_eq_getElem?_getD,List.getD_eq_getElem?_getD,List.getElem?_append_left h]
theorem getD_snoc_eq {r:List Int} {z:Int}:(r++[z]).getD r.length 0=z:=by
 rw [List.getD_eq_getElem?_getD,List.getElem?_append_right (Nat.le_refl _)]
 simp
theorem Lg.nil (k:Kd) (n:Int):Lg k n []:=⟨fun p h=>absurd h (Nat.not_lt_zero _),fun _ p h=>absurd h (Nat.not_lt_zero _)⟩
theorem Lg.pop {k:Kd} {n:Int} {r:List Int} {z:Int} (h:Lg k n (r++[z])):Lg k n r:=by
 refine ⟨fun p hp=>?_,fun hk p hp=>?_⟩
 ·have:=h.fig p (by rw [List.length_append]; omega)
  rwa [zD hp] at this
 ·have:=h.fal hk p (by rw [List.length_append]; omega)
  rwa [zD hp,zD (by omega)] at this
theorem Lg.trim {k:Kd} {n:Int}:∀ {r:List Int},Lg k n r→Legal k n (trim r):=by
 intro r
 generalize hl:r.length=m
 induction m generalizing r with
 | zero=>
  intro h
  obtain rfl:r=[]:=List.length_eq_zero_iff.mp hl
  exact ⟨h.fig,h.fal,.inl rfl⟩
 | succ m ih=>
  intro h
  rcases zH r with rfl | ⟨l,z,rfl⟩
  ·cases hl
  ·by_cases hz:z=0
   ·subst hz
    rw [xH]
    exact ih (by rw [List.length_append] at hl; exact Nat.succ.inj hl) h.pop
   ·rw [vL hz]
    exact ⟨h.fig,h.fal,.inr (by rw [List.length_append]; exact fun e=>hz (by rw [← e]; exact getD_snoc_eq.symm))⟩
theorem Lg.push {k:Kd} {n z:Int} {r:List Int} (h:Lg k n r) (hz:k.low n r.length≤z∧z≤k.high n r.length) (hf:k.isF=true→z=n→r=[]∨r.getD (r.length - 1) 0=0):Lg k n (r++[z]):=by
 refine ⟨fun p hp=>?_,fun hk p hp e=>?_⟩
 ·rw [List.length_append] at hp
  rcases (by simp at hp; omega:p<r.length∨p=r.length) with q | q
  ·rw [zD q]; exact h.fig p q
  ·subst q; rw [getD_snoc_eq]; exact hz
 ·rw [List.length_append] at hp
  rcases (by simp at hp; omega:p+1<r.length∨p+1=r.length) with q | q
  ·rw [zD q] at e
   rw [zD (by omega)]
   exact h.fal hk p q e
  ·rw [q,getD_snoc_eq] at e
   rw [zD (by omega)]
   rcases hf hk e with z | z
   ·rw [z] at q; cases q
   ·rw [show r.length - 1=p by omega] at z; exact z
theorem yz {r:List Int} {i j:Nat} {z:Int} (h:i≠j):(r.set i z).getD j 0=r.getD j 0:=by
 rw [List.getD_eq_getElem?_getD,List.getD_eq_getElem?_getD,List.getElem?_set_ne h]
theorem yA {r:List Int} {i:Nat} {z:Int} (h:i<r.length):(r.set i z).getD i 0=z:=by
 rw [List.getD_eq_getElem?_getD,List.getElem?_set_self h]
 rfl
theorem Lg.zero {k:Kd} {n:Int} {r:List Int} (hn:k.ok n) (h:Lg k n r):Lg k n (r.set (r.length - 1) 0):=by
 refine ⟨fun p hp=>?_,fun hk p hp e=>?_⟩
 ·rw [List.length_set] at hp
  by_cases q:r.length - 1=p
  ·subst q; rw [yA hp]; exact uN hn _
  ·rw [yz q]; exact h.fig p hp
 ·rw [List.length_set] at hp
  have n1:n≠0:=by have:=hn.1; cases k <;> simp only [Kd.lo] at this <;> omega
  by_cases q:r.length - 1=p+1
  ·rw [← q,yA (by omega)] at e; exact absurd e.symm n1
  ·rw [yz q] at e
   rw [yz (by omega)]
   exact h.fal hk p hp e
theorem w4 (k:Kd) (n:Int) (ns:List Int):∀ j,yL k n ns j=wF k n (fun i=>ns.getD i 0) j
 | 0=>rfl
 | j+1=>by unfold yL wF; rw [w4 k n ns j]
theorem sj {k:Kd} {n:Int} {f g:Nat→Int}:∀ j,(∀ i,i<j→f i=g i)→wF k n f j=wF k n g j
 | 0,_=>rfl
 | j+1,h=>by
  unfold wF
  rw [sj j fun i hi=>h i (by omega),h j (by omega)]
theorem mY (k:Kd) (n:Int) (j:Nat):(wt k n j).ty k:=by
 by_cases hk:k=.pairs
 ·subst hk; exact wt2 j
 ·obtain ⟨w,e⟩:=wtI (n:=n) hk j
  rw [e]
  exact w8 hk
theorem sY {k:Kd} {t w:Nm} (ht:tot k t) (hw:w.ty k):(t.mul w).ty k:=by
 by_cases hk:k=.pairs
 ·subst hk
  obtain ⟨a,b,rfl⟩:=hw
  cases t <;> exact ⟨_,_,rfl⟩
 ·obtain ⟨a,rfl⟩:=ht hk
  obtain ⟨b,rfl⟩:=xt hk hw
  exact w8 hk
theorem y_ {k:Kd} {m:Nm} (h:m.ty k):tot k m:=fun hk=>xt hk h
theorem u6 (k:Kd) (a:Int):tot k (.i a):=fun _=>⟨a,rfl⟩
theorem jv (k:Kd) (n:Int) (f:Nat→Int):∀ j,(wF k n f j).ty k
 | 0=>yC k
 | j+1=>wv (jv k n f j) (y_ (sY (u6 k _) (mY k n j)))
theorem si {k:Kd} {n:Int} {ts:List Nm} (ht:∀ t∈ts,tot k t):∀ j,(wN k n ts j).ty k
 | 0=>yC k
 | j+1=>wv (si ht j) (y_ (sY (yE ht j) (mY k n j)))
theorem nr {k:Kd} {m w:Nm} (hm:m.ty k) (hw:w.ty k):m.add ((Nm.i 0).mul w)=m:=by
 refine wP (wv hm (y_ (sY (u6 k 0) hw))) hm ?_ ?_
 ·rw [yx,zK]; show m.re+(0*w.re - 0*w.im)=_; rw [Int.zero_mul,Int.zero_mul]; omega
 ·rw [yO,zQ]; show m.im+(0*w.im+0*w.re)=_; rw [Int.zero_mul,Int.zero_mul]; omega
theorem nE {k:Kd} {n:Int} {ts:List Nm} (ht:∀ t∈ts,tot k t):∀ i,wN k n ts (ts.length+i)=wN k n ts ts.length
 | 0=>rfl
 | i+1=>by
  have e:ts.getD (ts.length+i) (.i 0)=.i 0:=by rw [List.getD_eq_getElem?_getD,List.getElem?_eq_none (by omega)]; rfl
  show (wN k n ts (ts.length+i)).add ((ts.getD (ts.length+i) (.i 0)).mul (wt k n (ts.length+i)))=_
  rw [e,nr (si ht _) (mY k n _)]
  exact nE ht i
def ya (k:Kd) (n:Int) (ts:List Nm):Nm:=wN k n ts ts.length
def zo (k:Kd) (n:Int) (r:List Int):Nm:=yL k n r r.length
theorem Fin.worth {k:Kd} {n:Int} {ts:List Nm} {J:Nat} (F:Fin k n ts J) (h5:k.five=true) (hn:k.ok n) (ht:∀ t∈ts,tot k t):zo k n (xn k n ts J)=ya k n ts:=by
 unfold zo ya
 rw [wS,w4,sj (g:=fAt k n ts) J (fun i hi=>o5 hi)]
 have e:wN k n ts J=wN k n ts ts.length:=by
  rw [show J=ts.length+(J - ts.length) by have:=F.le; omega]
  exact nE ht _
 obtain ⟨t1,t2⟩:=YE h5 hn ht J
 rw [F.z,zK,zZ,yo] at t1
 rw [F.z,zQ,zZ,yo] at t2
 rw [← e]
 refine wP (jv k n _ J) (si ht J) ?_ ?_
 ·rw [t1,Int.mul_zero,Int.mul_zero]; omega
 ·rw [t2,Int.mul_zero,Int.mul_zero]; omega
theorem qI {k:Kd} {n:Int} {l:List Int} {z:Int} {j:Nat} (h:j≤l.length):yL k n (l++[z]) j=yL k n l j:=by
 rw [w4,w4]
 exact sj j fun i hi=>zD (by omega)
theorem wA (k:Kd) (n:Int) (l:List Int) (z:Int):zo k n (l++[z])=(zo k n l).add ((Nm.i z).mul (wt k n l.length)):=by
 unfold zo
 rw [List.length_append]
 show (yL k n (l++[z]) l.length).add ((Nm.i ((l++[z]).getD l.length 0)).mul (wt k n l.length))=_
 rw [qI (Nat.le_refl _),getD_snoc_eq]
theorem zN (k:Kd) (n:Int) (r:List Int):(zo k n r).ty k:=by
 unfold zo
 rw [w4]
 exact jv k n _ _
theorem pV (k:Kd) (n:Int) (r:List Int):zo k n (trim r)=zo k n r:=by
 generalize hl:r.length=m
 induction m generalizing r with
 | zero=>
  obtain rfl:r=[]:=List.length_eq_zero_iff.mp hl
  rfl
 | succ m ih=>
  rcases zH r with rfl | ⟨l,z,rfl⟩
  ·cases hl
  ·by_cases hz:z=0
   ·subst hz
    rw [xH,ih l (by rw [List.length_append] at hl; exact Nat.succ.inj hl),wA,nr (zN k n l) (mY k n _)]
   ·rw [vL hz]
theorem vW {k:Kd} (h5:k.five=true):k.isF=false:=by cases k <;> first | rfl | cases h5
theorem Zy {k:Kd} {n:Int} {ts:List Nm} (h5:k.five=true) (hn:k.ok n) (ht:∀ t∈ts,tot k t) (J:Nat):Lg k n (xn k n ts J):=by
 refine ⟨fun p hp=>?_,fun hF=>?_⟩
 ·rw [wS] at hp
  rw [o5 hp]
  obtain ⟨a,b,_⟩:=vO (j:=p) h5 hn (wv (yN k n ts p) (yE ht p))
  exact ⟨a,b⟩
 ·rw [vW h5] at hF
  cases hF
def dQ (k:Kd) (n:Int) (ts:List Nm) (J:Nat):List Int:=trim (xn k n ts J)
theorem nK {k:Kd} {n:Int} {ts:List Nm} {J:Nat} (h5:k.five=true) (hn:k.ok n) (ht:∀ t∈ts,tot k t):Legal k n (dQ k n ts J):=(Zy h5 hn ht J).trim
theorem nJ {k:Kd} {n:Int} {ts:List Nm} {J:Nat} (F:Fin k n ts J) (h5:k.five=true) (hn:k.ok n) (ht:∀ t∈ts,tot k t):zo k n (dQ k n ts J)=ya k n ts:=by
 unfold dQ
 rw [pV,F.worth h5 hn ht]
def wf (n:Int) (j:Nat):Int:=(wtF n j).2
theorem qJ (n:Int):wf n 0=1:=rfl
theorem nD (n:Int):wf n 1=n+1:=by show n*1+1=_; rw [Int.mul_one]
theorem rA (n:Int) (j:Nat):wf n (j+2)=n*wf n (j+1)+wf n j:=rfl
theorem yb {n:Int} (h:1≤n):∀ j,1≤wf n j∧wf n j≤wf n (j+1)
 | 0=>by rw [qJ,nD]; omega
 | j+1=>by
  obtain ⟨a,b⟩:=yb h j
  have:wf n (j+1)≤n*wf n (j+1):=by
   have:=Int.mul_le_mul_of_nonneg_right h (show 0≤wf n (j+1) by omega)
   omega
  rw [rA]
  omega
def rs (n m:Int) (L:Nat):Nat→Int
 | 0=>m
 | i+1=>(rs n m L i).fmod (wf n (L - 1 - i))
def gs (n m:Int) (L:Nat) (p:Nat):Int:=(rs n m L (L - 1 - p)).fdiv (wf n p)
theorem UI (a b:Int):a=b*a.fdiv b+a.fmod b:=by have:=Int.fmod_def a b; omega
theorem fJ (k:Kd):y6 k k.zero=true:=by cases k <;> rfl
def Vt (k:Kd) (n:Int):Nat→List Int→Nm
 | _,[]=>k.zero
 | j,f::r=>(Nm.i f).add ((k.ratN n j).mul (Vt k n (j+1) r))
theorem jR {k:Kd} {n:Int} {j:Nat} (h5:k.five=true):(k.ratN n j).ty k:=by
 cases k <;> first | exact ⟨_,rfl⟩ | exact ⟨_,_,rfl⟩ | cases h5
theorem oX {k:Kd} {f:Int} {m:Nm} (h:m.ty k):((Nm.i f).add m).ty k:=by
 by_cases hk:k=.pairs
 ·subst hk
  obtain ⟨a,b,rfl⟩:=h
  exact ⟨_,_,rfl⟩
 ·obtain ⟨a,rfl⟩:=xt hk h
  exact w8 hk
theorem nt {k:Kd} {n:Int} (h5:k.five=true):∀ (r:List Int) (j:Nat),(Vt k n j r).ty k
 | [],_=>yC k
 | _::r,j=>oX (sY (y_ (jR h5)) (nt h5 r (j+1)))
theorem dJ {P1 P2 w1 w2 f r1 r2 v1 v2:Int}:P1+(f*w1 - 0*w2)+((r1*w1 - r2*w2)*v1 - (r1*w2+r2*w1)*v2)=P1+(w1*(f+(r1*v1 - r2*v2)) - w2*(0+(r1*v2+r2*v1)))∧P2+(f*w2+0*w1)+((r1*w1 - r2*w2)*v2+(r1*w2+r2*w1)*v1)=P2+(w1*(0+(r1*v2+r2*v1))+w2*(f+(r1*v1 - r2*v2))):=by
 constructor <;> grind
theorem pT {k:Kd} {n:Int} (h5:k.five=true):∀ (r pre:List Int),
  (zo k n (pre++r)).re=(zo k n pre).re+((wt k n pre.length).mul (Vt k n pre.length r)).re∧(zo k n (pre++r)).im=(zo k n pre).im+((wt k n pre.length).mul (Vt k n pre.length r)).im
 | [],pre=>by
  rw [List.append_nil]
  unfold Vt
  rw [zK,zQ,zZ,yo,Int.mul_zero,Int.mul_zero]
  exact ⟨by omega,by omega⟩
 | f::r,pre=>by
  obtain ⟨i1,i2⟩:=pT h5 r (pre++[f])
  have e:pre++f::r=(pre++[f])++r:=by rw [List.append_assoc]; rfl
  have el:(pre++[f]).length=pre.length+1:=by rw [List.length_append]; rfl
  have ev:Vt k n pre.length (f::r)=(Nm.i f).add ((k.ratN n pre.length).mul (Vt k n (pre.length+1) r)):=rfl
  rw [e,i1,i2,el,wA,yD h5,ev]
  simp only [zK,zQ,yx,yO]
  have fr:(Nm.i f).re=f:=rfl
  have fi:(Nm.i f).im=0:=rfl
  rw [fr,fi]
  exact dJ
theorem pU {k:Kd} {n:Int} (h5:k.five=true) (r:List Int):zo k n r=Vt k n 0 r:=by
 obtain ⟨a,b⟩:=pT (n:=n) h5 r []
 have e:wt k n 0=k.zero.add (.i 1):=by cases k <;> first | rfl | cases h5
 have r1:(wt k n 0).re=1:=by rw [e,yx,zZ]; rfl
 have r2:(wt k n 0).im=0:=by rw [e,yO,yo]; rfl
 have z1:(zo k n []).re=0:=zZ k
 have z2:(zo k n []).im=0:=yo k
 simp only [List.length_nil,List.nil_append] at a b
 rw [zK,r1,r2,z1] at a
 rw [zQ,r1,r2,z2] at b
 refine wP (zN k n r) (nt h5 r 0) ?_ ?_
 ·rw [a]; omega
 ·rw [b]; omega
theorem qf {lo n r t f c:Int} (hr:r=n∨r=-n) (h1:lo≤f) (h2:f≤lo+n - 1) (h3:lo≤t) (h4:t≤lo+n - 1) (e:f+c*r=t):c=0∧f=t:=by
 have hc:c=0:=by
  rcases (by omega:c=0∨1≤c∨c≤-1) with h | h | h
  ·exact h
  ·rcases hr with rfl | rfl
   ·have:=Int.mul_le_mul_of_nonneg_right h (show 0≤r by omega)
    omega
   ·have:=Int.mul_le_mul_of_nonneg_right h (show 0≤n by omega)
    rw [Int.mul_neg] at e
    omega
  ·rcases hr with rfl | rfl
   ·have:=Int.mul_le_mul_of_nonneg_right h (show 0≤r by omega)
    omega
   ·have:=Int.mul_le_mul_of_nonneg_right h (show 0≤n by omega)
    rw [Int.mul_neg] at e
    omega
 subst hc
 omega
theorem qj {k:Kd} {n f g:Int} {j:Nat} {c d:Nm} (h5:k.five=true) (hn:k.ok n) (f1:k.low n j≤f) (f2:f≤k.high n j) (g1:k.low n j≤g) (g2:g≤k.high n j) (tc:c.ty k) (td:d.ty k)
  (e:(Nm.i f).add ((k.ratN n j).mul c)=(Nm.i g).add ((k.ratN n j).mul d)):f=g∧c=d:=by
 have e1:=congrArg Nm.re e
 have e2:=congrArg Nm.im e
 rw [yx,yx,zK,zK] at e1
 rw [yO,yO,zQ,zQ] at e2
 by_cases hk:k=.pairs
 ·subst hk
  obtain ⟨a,b,rfl⟩:=tc
  obtain ⟨x,y,rfl⟩:=td
  simp only [Kd.ratN,Nm.re,Nm.im,Kd.low,Kd.high] at *
  have q1:f - n*(a - x) - (b - y)=g:=by rw [Int.mul_sub]; simp only [Int.neg_mul,Int.one_mul] at e1; omega
  have q2:(a - x) - n*(b - y)=0:=by rw [Int.mul_sub]; simp only [Int.neg_mul,Int.one_mul] at e2; omega
  generalize hu:a - x=u at *
  generalize hv:b - y=v at *
  have eu:u=n*v:=by omega
  rw [eu] at q1
  have e3:f+(-v)*(n*n+1)=g:=by
   have r1:n*(n*v)=v*(n*n):=by grind
   have r2:(-v)*(n*n+1)=-(v*(n*n)) - v:=by grind
   omega
  obtain ⟨h1,h2⟩:=qf (lo:=0) (n:=n*n+1) (.inl rfl) f1 (by omega) g1 (by omega) e3
  have v0:v=0:=by omega
  rw [v0,Int.mul_zero] at eu
  exact ⟨h2,by rw [show a=x by omega,show b=y by omega]⟩
 ·have h4:=pG h5 hk
  obtain ⟨a,rfl⟩:=xt hk tc
  obtain ⟨x,rfl⟩:=xt hk td
  have eR:k.ratN n j=.i (k.rat n j):=by cases k <;> first | rfl | exact absurd rfl hk
  rw [eR] at e1
  obtain ⟨z1,z2⟩:=qM h4 n j
  have q:f+(a - x)*k.rat n j=g:=by
   have e1':f+(k.rat n j*a - 0*0)=g+(k.rat n j*x - 0*0):=e1
   rw [Int.sub_mul,Int.mul_comm a,Int.mul_comm x]
   omega
  obtain ⟨h1,h2⟩:=qf (lo:=k.low n j) (n:=k.size n j) z2 f1 (by omega) g1 (by omega) q
  exact ⟨h2,by rw [show a=x by omega]⟩
def Figs (k:Kd) (n:Int) (j:Nat) (r:List Int):Prop:=∀ p,p<r.length→k.low n ((j+p:Nat):Int)≤r.getD p 0∧r.getD p 0≤k.high n ((j+p:Nat):Int)
theorem Figs.cons {k:Kd} {n f:Int} {j:Nat} {r:List Int} (h:Figs k n j (f::r)):(k.low n j≤f∧f≤k.high n j)∧Figs k n (j+1) r:=by
 refine ⟨h 0 (by simp),fun p hp=>?_⟩
 have:=h (p+1) (by simp; exact hp)
 rw [show j+(p+1)=j+1+p by omega] at this
 exact this
theorem UE {k:Kd} {n:Int} (h5:k.five=true) (hn:k.ok n):∀ (r s:List Int) (j:Nat),Figs k n j r→Figs k n j s→Vt k n j r=Vt k n j s→∀ p,r.getD p 0=s.getD p 0:=by
 have zz:∀ j:Nat,k.zero=(Nm.i 0).add ((k.ratN n j).mul k.zero):=fun j=>by
  refine wP (yC k) (oX (sY (y_ (jR h5)) (yC k))) ?_ ?_
  ·rw [yx,zK,zZ,yo,Int.mul_zero,Int.mul_zero]; rfl
  ·rw [yO,zQ,zZ,yo,Int.mul_zero,Int.mul_zero]; rfl
 have nilc:∀ (s:List Int) (j:Nat),Figs k n j s→k.zero=Vt k n j s→∀ p,(0:Int)=s.getD p 0:=by
  intro s
  induction s with
  | nil=>intro j _ _ p; rfl
  | cons g s ih=>
   intro j hs e p
   obtain ⟨⟨g1,g2⟩,hs'⟩:=hs.cons
   obtain ⟨l1,l2⟩:=uN hn j
   rw [zz j] at e
   obtain ⟨q1,q2⟩:=qj h5 hn l1 l2 g1 g2 (yC k) (nt h5 s (j+1)) e
   cases p with
   | zero=>exact q1
   | succ p=>exact ih (j+1) hs' q2 p
 intro r
 induction r with
 | nil=>intro s j _ hs e p; exact nilc s j hs e p
 | cons f r ih=>
  intro s j hr hs e p
  cases s with
  | nil=>exact (nilc (f::r) j hr e.symm p).symm
  | cons g s=>
   obtain ⟨⟨f1,f2⟩,hr'⟩:=hr.cons
   obtain ⟨⟨g1,g2⟩,hs'⟩:=hs.cons
   obtain ⟨q1,q2⟩:=qj h5 hn f1 f2 g1 g2 (nt h5 r (j+1)) (nt h5 s (j+1)) e
   cases p with
   | zero=>exact q1
   | succ p=>exact ih s (j+1) hr' hs' q2 p
theorem oZ {r:List Int} {p:Nat} (h:r.length≤p):r.getD p 0=0:=by rw [List.getD_eq_getElem?_getD,List.getElem?_eq_none h]; rfl
theorem dY {r s:List Int} (h:∀ p,r.getD p 0=s.getD p 0) (hr:r=[]∨r.getD (r.length - 1) 0≠0) (hs:s=[]∨s.getD (s.length - 1) 0≠0):r=s:=by
 have hl:r.length=s.length:=by
  rcases (by omega:r.length=s.length∨r.length<s.length∨s.length<r.length) with z | z | z
  ·exact z
  ·rcases hs with hs | hs
   ·rw [hs] at z; simp at z
   ·exact absurd (by rw [← h]; exact oZ (by omega)) hs
  ·rcases hr with hr | hr
   ·rw [hr] at z; simp at z
   ·exact absurd (by rw [h]; exact oZ (by omega)) hr
 apply List.ext_getElem hl
 intro i h1 h2
 have:=h i
 rw [List.getD_eq_getElem?_getD,List.getD_eq_getElem?_getD,List.getElem?_eq_getElem h1,List.getElem?_eq_getElem h2] at this
 exact this
theorem yy (n:Int) (l:List Int) (z:Int):(zo .falling n (l++[z])).re=(zo .falling n l).re+z*wf n l.length:=by
 rw [wA,yx]
 rfl
theorem Lg.nonneg {n:Int} {r:List Int} (h:Lg .falling n r) (h1:1≤n):0≤(zo .falling n r).re:=by
 generalize hl:r.length=m
 induction m generalizing r with
 | zero=>obtain rfl:r=[]:=List.length_eq_zero_iff.mp hl; exact Int.le_refl 0
 | succ m ih=>
  rcases zH r with rfl | ⟨l,z,rfl⟩
  ·cases hl
  ·have hz:=h.fig l.length (by rw [List.length_append]; simp)
   rw [getD_snoc_eq] at hz
   have hz0:0≤z:=hz.1
   have:=ih h.pop (by rw [List.length_append] at hl; exact Nat.succ.inj hl)
   rw [yy]
   have:=Int.mul_nonneg hz0 (show 0≤wf n l.length by have:=(yb h1 l.length).1; omega)
   omega
theorem Lg.lt {n:Int} (h1:1≤n):∀ (m:Nat) (r:List Int),r.length=m→Lg .falling n r→(zo .falling n r).re<wf n m:=by
 intro m
 induction m using Nat.strongRecOn with
 | ind m ih=>
  intro r hl h
  rcases zH r with rfl | ⟨l,z,rfl⟩
  ·subst hl; show (0:Int)<wf n 0; rw [qJ]; decide
  ·have el:l.length+1=m:=by rw [List.length_append] at hl; exact hl
   have hz:=h.fig l.length (by rw [List.length_append]; simp)
   rw [getD_snoc_eq] at hz
   have hz0:0≤z:=hz.1
   have hz1:z≤n:=hz.2
   have il:=ih l.length (by omega) l rfl h.pop
   have wp:=(yb h1 l.length).1
   rw [yy,← el]
   rcases (by omega:z≤n - 1∨z=n) with c | c
   ·have k1:=Int.mul_le_mul_of_nonneg_right c (show 0≤wf n l.length by omega)
    have k2:(n - 1)*wf n l.length=n*wf n l.length - wf n l.length:=by rw [Int.sub_mul,Int.one_mul]
    have k3:n*wf n l.length<wf n (l.length+1):=by
     cases l.length with
     | zero=>rw [nD,qJ]; omega
     | succ q=>rw [rA]; have:=(yb h1 q).1; omega
    omega
   ·subst c
    rcases zH l with rfl | ⟨l',y,rfl⟩
    ·show (0:Int)+z*wf z 0<wf z 1
     rw [qJ,nD]; omega
    ·have hy:=h.fal rfl l'.length (by rw [List.length_append,List.length_append]; simp) (by
      have:=getD_snoc_eq (r:=l'++[y]) (z:=z)
      rw [List.length_append] at this
      exact this)
     rw [zD (by rw [List.length_append]; simp),getD_snoc_eq] at hy
     subst hy
     have i2:=ih l'.length (by rw [List.length_append] at el; simp at el; omega) l' rfl h.pop.pop
     rw [yy,Int.zero_mul,Int.add_zero,List.length_append]
     show _+z*wf z (l'.length+1)<wf z (l'.length+2)
     rw [rA]
     omega
theorem qe {n:Int} (h1:1≤n):∀ (m:Nat) (r s:List Int),r.length=m→s.length=m→Lg .falling n r→Lg .falling n s→(zo .falling n r).re=(zo .falling n s).re→r=s
 | 0,r,s,hr,hs,_,_,_=>by rw [List.length_eq_zero_iff.mp hr,List.length_eq_zero_iff.mp hs]
 | m+1,r,s,hr,hs,Lr,Ls,e=>by
  rcases zH r with rfl | ⟨l,z,rfl⟩
  ·cases hr
  rcases zH s with rfl | ⟨l',z',rfl⟩
  ·cases hs
  have e1:l.length=m:=by rw [List.length_append] at hr; exact Nat.succ.inj hr
  have e2:l'.length=m:=by rw [List.length_append] at hs; exact Nat.succ.inj hs
  rw [yy,yy,e1,e2] at e
  have a1:=Lr.pop.nonneg h1
  have a2:=Lr.pop.lt h1 m l e1
  have b1:=Ls.pop.nonneg h1
  have b2:=Ls.pop.lt h1 m l' e2
  have wp:=(yb h1 m).1
  have hz:z=z':=by
   rcases (by omega:z=z'∨z+1≤z'∨z'+1≤z) with c | c | c
   ·exact c
   ·have:=Int.mul_le_mul_of_nonneg_right c (show 0≤wf n m by omega)
    rw [Int.add_mul,Int.one_mul] at this
    omega
   ·have:=Int.mul_le_mul_of_nonneg_right c (show 0≤wf n m by omega)
    rw [Int.add_mul,Int.one_mul] at this
    omega
  subst hz
  rw [qe h1 m l l' e1 e2 Lr.pop Ls.pop (by omega)]
theorem Legal.lg {k:Kd} {n:Int} {r:List Int} (h:Legal k n r):Lg k n r:=⟨h.fig,h.fal⟩
theorem Legal.geF {n:Int} {r:List Int} (h:Legal .falling n r) (h1:1≤n) (hr:r≠[]):wf n (r.length - 1)≤(zo .falling n r).re:=by
 rcases zH r with rfl | ⟨l,z,rfl⟩
 ·exact absurd rfl hr
 ·have hz:=h.fig l.length (by rw [List.length_append]; simp)
  rw [getD_snoc_eq] at hz
  have hz0:0≤z:=hz.1
  have el:(l++[z]).length - 1=l.length:=by rw [List.length_append]; rfl
  rcases h.end_ with c | c
  ·exact absurd c hr
  ·rw [el,getD_snoc_eq] at c
   rw [yy,el]
   have a1:=h.lg.pop.nonneg h1
   have wp:=(yb h1 l.length).1
   have:=Int.mul_le_mul_of_nonneg_right (show 1≤z by omega) (show 0≤wf n l.length by omega)
   omega
theorem m9 {n:Int} (h1:1≤n) {i j:Nat} (h:i≤j):wf n i≤wf n j:=by
 induction h with
 | refl=>exact Int.le_refl _
 | step _ ih=>exact Int.le_trans ih (yb h1 _).2
theorem YA {k:Kd} {n:Int} {r s:List Int} (hn:k.ok n) (hr:Legal k n r) (hs:Legal k n s) (e:zo k n r=zo k n s):r=s:=by
 by_cases hk:k=.falling
 ·subst hk
  have h1:1≤n:=hn.1
  have e':=congrArg Nm.re e
  rcases (by omega:r.length=s.length∨r.length<s.length∨s.length<r.length) with z | z | z
  ·exact qe h1 _ r s z rfl hr.lg hs.lg e'
  ·have a:=hr.lg.lt h1 _ r rfl
   have b:=hs.geF h1 (by intro q; rw [q] at z; simp at z)
   have:=m9 h1 (show r.length≤s.length - 1 by omega)
   omega
  ·have a:=hs.lg.lt h1 _ s rfl
   have b:=hr.geF h1 (by intro q; rw [q] at z; simp at z)
   have:=m9 h1 (show s.length≤r.length - 1 by omega)
   omega
 ·have h5:k.five=true:=by cases k <;> first | rfl | exact absurd rfl hk
  rw [pU h5,pU h5] at e
  exact dY (UE h5 hn r s 0 (fun p hp=>by rw [Nat.zero_add]; exact hr.fig p hp) (fun p hp=>by rw [Nat.zero_add]; exact hs.fig p hp) e) hr.end_ hs.end_
theorem jr {k:Kd} {n:Int} (hn:k.ok n) {j:Nat}:(k=.below∨k=.balanced∨k=.pairs)∨∃ x,wt k n j=.i x∧1≤x:=by
 obtain ⟨b1,b2⟩:=ww hn
 cases k with
 | below=>exact .inl (.inl rfl)
 | balanced=>exact .inl (.inr (.inl rfl))
 | pairs=>exact .inl (.inr (.inr rfl))
 | falling=>exact .inr ⟨_,rfl,(yb b1 j).1⟩
 | plain=>
  refine .inr ?_
  induction j with
  | zero=>exact ⟨_,rfl,by decide⟩
  | succ j ih=>
   obtain ⟨x,e,h⟩:=ih
   rw [yD rfl,e]
   exact ⟨_,rfl,by show 1≤n*x; have:=Int.mul_le_mul b1 h (by decide) (by omega); omega⟩
 | growing=>
  refine .inr ?_
  induction j with
  | zero=>exact ⟨_,rfl,by decide⟩
  | succ j ih=>
   obtain ⟨x,e,h⟩:=ih
   rw [yD rfl,e]
   exact ⟨_,rfl,by show 1≤(n+(j:Int))*x; have:=Int.mul_le_mul (show 1≤n+(j:Int) by omega) h (by decide) (by omega); omega⟩
def rL (k:Kd):Prop:=k=.plain∨k=.growing
theorem qH {k:Kd} {n:Int} (hk:rL k) (hn:k.ok n) (j:Nat):∃ w,wt k n j=.i w∧1≤w∧wt k n (j+1)=.i (k.rat n j*w)∧k.high n j=k.rat n j - 1∧k.low n j=0:=by
 rcases hk with rfl | rfl
 ·rcases jr hn (j:=j) with (h | h | h) | ⟨w,e,h⟩
  ·cases h
  ·cases h
  ·cases h
  ·exact ⟨w,e,h,by rw [yD rfl,e]; rfl,rfl,rfl⟩
 ·rcases jr hn (j:=j) with (h | h | h) | ⟨w,e,h⟩
  ·cases h
  ·cases h
  ·cases h
  ·exact ⟨w,e,h,by rw [yD rfl,e]; rfl,rfl,rfl⟩
theorem lx {k:Kd} (hk:rL k):k≠.pairs:=by rcases hk with rfl | rfl <;> (intro z; cases z)
theorem YW {k:Kd} (hk:rL k):k.five=true:=by rcases hk with rfl | rfl <;> rfl
theorem pF {k:Kd} {n:Int} {f:Nat→Int} (hk:rL k) (hn:k.ok n):∀ j:Nat,(∀ i:Nat,i<j→k.low n i≤f i∧f i≤k.high n i)→0≤(wF k n f j).re∧(wF k n f j).re<(wt k n j).re
 | 0,_=>by
  obtain ⟨w,e,h,_⟩:=qH hk hn 0
  rw [e]
  show 0≤(k.zero).re∧(k.zero).re<w
  rw [zZ]
  omega
 | j+1,h=>by
  obtain ⟨a,b⟩:=pF hk hn j fun i hi=>h i (by omega)
  obtain ⟨w,e,hw,e2,h1,h2⟩:=qH hk hn j
  obtain ⟨f1,f2⟩:=h j (by omega)
  rw [e2]
  have ew:(wF k n f (j+1)).re=(wF k n f j).re+f j*w:=by
   show ((wF k n f j).add ((Nm.i (f j)).mul (wt k n j))).re=_
   rw [yx,e]
   rfl
  rw [ew]
  rw [e] at b
  have b':(wF k n f j).re<w:=b
  rw [h2] at f1
  rw [h1] at f2
  have m1:=Int.mul_nonneg f1 (show 0≤w by omega)
  have m2:=Int.mul_le_mul_of_nonneg_right f2 (show 0≤w by omega)
  rw [Int.sub_mul,Int.one_mul] at m2
  show 0≤_∧_<k.rat n j*w
  omega
theorem mT {k:Kd} {n:Int} {ts:List Nm} (hk:rL k) (hn:k.ok n) (ht:∀ t∈ts,tot k t) (j:Nat):0≤(wN k n ts j).re↔y6 k (cAt k n ts j)=true:=by
 have h5:=YW hk
 obtain ⟨t1,_⟩:=YE h5 hn ht j
 obtain ⟨c,ec⟩:=xt (lx hk) (yN k n ts j)
 obtain ⟨w,e,hw,_⟩:=qH hk hn j
 obtain ⟨a,b⟩:=pF (f:=fAt k n ts) hk hn j fun i _=>by
  obtain ⟨s1,s2,_⟩:=vO (j:=i) h5 hn (wv (yN k n ts i) (yE ht i))
  exact ⟨s1,s2⟩
 rw [e] at b
 have b':(wF k n (fAt k n ts) j).re<w:=b
 rw [ec,e,zK] at t1
 have t1':(wN k n ts j).re=(wF k n (fAt k n ts) j).re+(w*c - 0*0):=t1
 rw [ec]
 have hh:y6 k (.i c)=decide (0≤c):=by rcases hk with rfl | rfl <;> rfl
 rw [hh,decide_eq_true_iff,t1']
 constructor
 ·intro h
  rcases Int.lt_or_le c 0 with z | z
  ·have:=Int.mul_le_mul_of_nonneg_left (show c≤-1 by omega) (show 0≤w by omega)
   omega
  ·exact z
 ·intro h
  have:=Int.mul_nonneg (show 0≤w by omega) h
  omega
theorem oP {k:Kd} {m:Nm} (h5:k.five=true) (hk:¬ rL k) (hm:m.ty k):y6 k m=true:=by
 cases k with
 | plain=>exact absurd (.inl rfl) hk
 | growing=>exact absurd (.inr rfl) hk
 | falling=>cases h5
 | below=>obtain ⟨a,rfl⟩:=hm; rfl
 | balanced=>obtain ⟨a,rfl⟩:=hm; rfl
 | pairs=>obtain ⟨a,b,rfl⟩:=hm; rfl
theorem jy (r:List Int):(r.map Nm.i).map Nm.dt=r.map Dt.int:=by rw [List.map_map]; rfl
theorem sk {k:Kd} {r:List Int}:∀ t∈r.map Nm.i,tot k t:=fun t h=>by
 obtain ⟨z,_,e⟩:=List.mem_map.mp h
 rw [← e]
 exact u6 k z
theorem lj (k:Kd) (n:Int) (r:List Int):∀ j,wN k n (r.map Nm.i) j=yL k n r j
 | 0=>rfl
 | j+1=>by
  have e:(r.map Nm.i).getD j (.i 0)=.i (r.getD j 0):=by
   rw [List.getD_eq_getElem?_getD,List.getD_eq_getElem?_getD,List.getElem?_map]
   cases r[j]? <;> rfl
  unfold wN yL
  rw [lj k n r j,e]
theorem yS (k:Kd) (n:Int) (r:List Int):ya k n (r.map Nm.i)=zo k n r:=by
 unfold ya zo
 rw [List.length_map,lj]
theorem kZ {k:Kd} {n:Int} {r:List Int} (hn:k.ok n) (h:Legal k n r):y6 k (zo k n r)=true:=by
 by_cases hf:k=.falling
 ·subst hf
  have:=h.lg.nonneg hn.1
  obtain ⟨a,e⟩:=zN .falling n r
  rw [e] at this ⊢
  exact decide_eq_true this
 ·have h5:k.five=true:=by cases k <;> first | rfl | exact absurd rfl hf
  by_cases hk:rL k
  ·have a:=(pF (f:=fun i=>r.getD i 0) hk hn r.length fun i hi=>h.fig i hi).1
   obtain ⟨x,e⟩:=xt (lx hk) (zN k n r)
   have:zo k n r=wF k n (fun i=>r.getD i 0) r.length:=w4 k n r _
   rw [← this,e] at a
   rw [e]
   have a':0≤x:=a
   rcases hk with rfl | rfl <;> exact decide_eq_true a'
  ·exact oP h5 hk (zN k n r)
theorem qt {k:Kd} {n:Int} {r:List Int} (hn:k.ok n) (h:Legal k n r) (hl:r.length≤2000):∀ t∈r,t.natAbs≤4000:=by
 intro t ht
 obtain ⟨i,hi,e⟩:=List.getElem_of_mem ht
 have f:=h.fig i hi
 have eg:r.getD i 0=t:=by rw [List.getD_eq_getElem?_getD,List.getElem?_eq_getElem hi,e]; rfl
 rw [eg] at f
 obtain ⟨b1,b2⟩:=ww hn
 have sq:n*n≤3600:=by have:=Int.mul_le_mul b2 b2 (by omega) (by omega); omega
 cases k <;> simp only [Kd.low,Kd.high] at f <;> omega
theorem mF {k:Kd} {n:Int} {r:List Int} (hn:k.ok n) (h:Legal k n r) (hl:r.length≤2000):bdR r:=fun t ht=>
 Nat.lt_of_le_of_lt (qt hn h hl t ht) (Nat.lt_of_lt_of_le (by decide:4000<2 ^ 12) (Nat.pow_le_pow_right (by decide) (by decide)))
def uZ (k:Kd):DSp:=fun ds Q=>∃ o d m,ds=[o,d]∧sW d=some m∧Q (.bl (y6 k m))
def isP:Nm→Bool
 | .p _ _=>true
 | _=>false
def qD:DSp:=fun ds Q=>∃ d m,ds=[d]∧sW d=some m∧Q (.bl (isP m))
def mU:DSp:=fun ds Q=>∃ r,ds=[zB r]∧Q (zB (trim r))
def vI:DSp:=fun ds Q=>∃ xs p,ds=[.lst xs,.int p]∧0≤p∧Q (xs.getD p.toNat (.int 0))
def vN (ts:List Nm):Dt:=.lst (ts.map Nm.dt)
def vF (k:Kd) (n:Int) (ts:List Nm) (j:Nat):List Dt:=(crs k n ts j).map Nm.dt
theorem tY (ts:List Nm) (j:Nat):(ts.map Nm.dt).getD j (.int 0)=(ts.getD j (.i 0)).dt:=by
 rw [List.getD_eq_getElem?_getD,List.getD_eq_getElem?_getD,List.getElem?_map]
 cases ts[j]? <;> rfl
theorem fX {k:Kd} {m m':Nm} (h:m.ty k) (h':m'.ty k):eqD m.dt m'.dt=true↔m=m':=by
 by_cases hk:k=.pairs
 ·subst hk
  obtain ⟨a,b,rfl⟩:=h
  obtain ⟨c,d,rfl⟩:=h'
  show eqD (.tup [.int a,.int b]) (.tup [.int c,.int d])=true↔_
  rw [vY,xM,xM,vX,y7,y7,Bool.and_eq_true,Bool.and_eq_true,beq_iff_eq,beq_iff_eq]
  constructor
  ·rintro ⟨rfl,rfl,_⟩; rfl
  ·intro e; cases e; exact ⟨rfl,rfl,rfl⟩
 ·obtain ⟨a,rfl⟩:=xt hk h
  obtain ⟨c,rfl⟩:=xt hk h'
  show eqD (.int a) (.int c)=true↔_
  rw [y7,beq_iff_eq]
  constructor
  ·rintro rfl; rfl
  ·intro e; cases e; rfl
abbrev Stp:=Bool × Nat
def hf (h:List Int) (p:Nat):Int:=h.getD p 0
def pt (a:Nat) (c:Int) (i:Nat):Int:=if i=a then c else 0
def chg (n:Int):Stp→List (Nat × Int)
 | (true,p)=>[(p+1,1),(p,-n),(p - 1,-1)]
 | (false,0)=>[(1,1),(0,-n - 1)]
 | (false,1)=>[(2,1),(1,-n - 1),(0,n)]
 | (false,p+2)=>[(p+3,1),(p+2,-n - 1),(p+1,n - 1),(p,1)]
def yw:List (Nat × Int)→Nat→Int
 | [],_=>0
 | x::l,i=>pt x.1 x.2 i+yw l i
def dlt (n:Int) (s:Stp) (i:Nat):Int:=yw (chg n s) i
def Can (n:Int):Stp→(Nat→Int)→Prop
 | (true,p),f=>0<p∧n≤f p∧0<f (p - 1)
 | (false,p),f=>n<f p
def sm (w f:Nat→Int):Nat→Int
 | 0=>0
 | m+1=>sm w f m+f m*w m
def ls (w:Nat→Int):List (Nat × Int)→Int
 | []=>0
 | x::l=>x.2*w x.1+ls w l
theorem sv (w f g:Nat→Int):∀ m,sm w (fun i=>f i+g i) m=sm w f m+sm w g m
 | 0=>rfl
 | m+1=>by
  show sm w (fun i=>f i+g i) m+(f m+g m)*w m=(sm w f m+f m*w m)+(sm w g m+g m*w m)
  rw [sv w f g m,Int.add_mul]
  omega
theorem jI (w f:Nat→Int) (c:Int):∀ m,sm w (fun i=>c*f i) m=c*sm w f m
 | 0=>by show (0:Int)=c*0; rw [Int.mul_zero]
 | m+1=>by
  show sm w (fun i=>c*f i) m+(c*f m)*w m=c*(sm w f m+f m*w m)
  rw [jI w f c m,Int.mul_add,Int.mul_assoc]
theorem Z3 (w:Nat→Int) (a:Nat) (c:Int):∀ m,sm w (pt a c) m=if a<m then c*w a else 0
 | 0=>by rw [if_neg (Nat.not_lt_zero _)]; rfl
 | m+1=>by
  show sm w (pt a c) m+pt a c m*w m=_
  rw [Z3 w a c m]
  unfold pt
  by_cases h:m=a
  ·subst h
   rw [if_neg (Nat.lt_irrefl _),if_pos rfl,if_pos (Nat.lt_succ_self _)]
   omega
  ·rw [if_neg h,Int.zero_mul]
   by_cases h2:a<m
   ·rw [if_pos h2,if_pos (by omega)]; omega
   ·rw [if_neg h2,if_neg (by omega)]; omega
theorem tT (w:Nat→Int) (m:Nat):∀ l:List (Nat × Int),(∀ x∈l,x.1<m)→sm w (yw l) m=ls w l
 | [],_=>by
  show sm w (fun _=>0) m=0
  induction m with
  | zero=>rfl
  | succ m ih=>show sm w (fun _=>0) m+0*w m=0; rw [ih (fun _ h=>nomatch h)]; omega
 | x::l,h=>by
  show sm w (fun i=>pt x.1 x.2 i+yw l i) m=x.2*w x.1+ls w l
  rw [sv,tT w m l (fun y hy=>h y (List.mem_cons_of_mem _ hy))]
  rw [show sm w (fun i=>pt x.1 x.2 i) m=_ from Z3 w x.1 x.2 m,if_pos (h x List.mem_cons_self)]
theorem mS {n:Int} {s:Stp} {m:Nat} (h:s.2+2≤m):∀ x∈chg n s,x.1<m:=by
 intro x hx
 match s,h,hx with
 | (true,p),h,hx=>
  have h:p+2≤m:=h
  rcases List.mem_cons.mp hx with rfl | hx
  ·show p+1<m; omega
  rcases List.mem_cons.mp hx with rfl | hx
  ·show p<m; omega
  rw [List.mem_singleton.mp hx]
  show p - 1<m; omega
 | (false,0),h,hx=>
  have h:0+2≤m:=h
  rcases List.mem_cons.mp hx with rfl | hx
  ·show 1<m; omega
  rw [List.mem_singleton.mp hx]
  show 0<m; omega
 | (false,1),h,hx=>
  have h:1+2≤m:=h
  rcases List.mem_cons.mp hx with rfl | hx
  ·show 2<m; omega
  rcases List.mem_cons.mp hx with rfl | hx
  ·show 1<m; omega
  rw [List.mem_singleton.mp hx]
  show 0<m; omega
 | (false,p+2),h,hx=>
  have h:p+2+2≤m:=h
  rcases List.mem_cons.mp hx with rfl | hx
  ·show p+3<m; omega
  rcases List.mem_cons.mp hx with rfl | hx
  ·show p+2<m; omega
  rcases List.mem_cons.mp hx with rfl | hx
  ·show p+1<m; omega
  rw [List.mem_singleton.mp hx]
  show p<m; omega
theorem Ra {n:Int} {s:Stp} (h:s.1=true→0<s.2):ls (wf n) (chg n s)=0:=by
 match s,h with
 | (true,0),h=>exact absurd (h rfl) (Nat.lt_irrefl _)
 | (true,q+1),_=>
  show 1*wf n (q+2)+(-n*wf n (q+1)+(-1*wf n q+0))=0
  rw [rA]
  grind
 | (false,0),_=>
  show 1*wf n 1+((-n - 1)*wf n 0+0)=0
  rw [nD,qJ]
  omega
 | (false,1),_=>
  show 1*wf n (0+2)+((-n - 1)*wf n 1+(n*wf n 0+0))=0
  rw [rA,nD,qJ]
  grind
 | (false,q+2),_=>
  show 1*wf n ((q+1)+2)+((-n - 1)*wf n (q+2)+((n - 1)*wf n (q+1)+(1*wf n q+0)))=0
  rw [rA n (q+1),rA n q]
  grind
def cst (n:Int) (i:Nat):Int:=if n=1 then (if i=0 then 7 else 4*i+8) else i+1
theorem vg (n:Int) (i:Nat):1≤cst n i∧cst n i≤4*i+8:=by
 unfold cst
 split
 ·split <;> omega
 ·omega
theorem tQ (i:Nat):cst 1 i=if i=0 then (7:Int) else 4*(i:Int)+8:=by unfold cst; rw [if_pos rfl]
theorem tP {n:Int} (h:n≠1) (i:Nat):cst n i=i+1:=by unfold cst; rw [if_neg h]
theorem Rb {n:Int} (hn:1≤n) {s:Stp} (h:s.1=true→0<s.2):ls (cst n) (chg n s)≤-1:=by
 by_cases h1:n=1
 ·subst h1
  match s,h with
  | (true,0),h=>exact absurd (h rfl) (Nat.lt_irrefl _)
  | (true,q+1),_=>
   show 1*cst 1 (q+2)+(-1*cst 1 (q+1)+(-1*cst 1 q+0))≤-1
   rw [tQ,tQ,tQ,if_neg (by omega),if_neg (by omega)]
   split <;> omega
  | (false,0),_=>
   show 1*cst 1 1+((-1 - 1)*cst 1 0+0)≤-1
   rw [tQ,tQ]; decide
  | (false,1),_=>
   show 1*cst 1 2+((-1 - 1)*cst 1 1+(1*cst 1 0+0))≤-1
   rw [tQ,tQ,tQ]; decide
  | (false,q+2),_=>
   show 1*cst 1 (q+3)+((-1 - 1)*cst 1 (q+2)+((1 - 1)*cst 1 (q+1)+(1*cst 1 q+0)))≤-1
   rw [tQ,tQ,tQ,tQ,if_neg (by omega),if_neg (by omega),if_neg (by omega)]
   split <;> omega
 ·match s,h with
  | (true,0),h=>exact absurd (h rfl) (Nat.lt_irrefl _)
  | (true,q+1),_=>
   show 1*cst n (q+2)+(-n*cst n (q+1)+(-1*cst n q+0))≤-1
   rw [tP h1,tP h1,tP h1]
   have hq:0≤n*(q:Int):=Int.mul_nonneg (by omega) (by omega)
   have e:1*(((q+2:Nat):Int)+1)+(-n*(((q+1:Nat):Int)+1)+(-1*((q:Int)+1)+0))=2 - n*q - 2*n:=by
    rw [show ((q+2:Nat):Int)=(q:Int)+2 by omega,show ((q+1:Nat):Int)=(q:Int)+1 by omega]
    grind
   rw [e]
   omega
  | (false,0),_=>
   show 1*cst n 1+((-n - 1)*cst n 0+0)≤-1
   rw [tP h1,tP h1]
   omega
  | (false,1),_=>
   show 1*cst n 2+((-n - 1)*cst n 1+(n*cst n 0+0))≤-1
   rw [tP h1,tP h1,tP h1]
   omega
  | (false,q+2),_=>
   show 1*cst n (q+3)+((-n - 1)*cst n (q+2)+((n - 1)*cst n (q+1)+(1*cst n q+0)))≤-1
   rw [tP h1,tP h1,tP h1,tP h1]
   have e:1*(((q+3:Nat):Int)+1)+((-n - 1)*(((q+2:Nat):Int)+1)+((n - 1)*(((q+1:Nat):Int)+1)+(1*((q:Int)+1)+0)))=-n:=by
    rw [show ((q+3:Nat):Int)=(q:Int)+3 by omega,show ((q+2:Nat):Int)=(q:Int)+2 by omega,show ((q+1:Nat):Int)=(q:Int)+1 by omega]
    grind
   rw [e]
   omega
theorem eG {n:Int} {p:Nat} (h:0<p):dlt n (true,p) p=-n∧dlt n (true,p) (p - 1)=-1∧∀ i,i≠p→i≠p - 1→0≤dlt n (true,p) i:=by
 refine ⟨?_,?_,fun i h1 h2=>?_⟩
 ·show pt (p+1) 1 p+(pt p (-n) p+(pt (p - 1) (-1) p+0))=-n
  unfold pt
  rw [if_neg (by omega),if_pos rfl,if_neg (by omega)]
  omega
 ·show pt (p+1) 1 (p - 1)+(pt p (-n) (p - 1)+(pt (p - 1) (-1) (p - 1)+0))=-1
  unfold pt
  rw [if_neg (by omega),if_neg (by omega),if_pos rfl]
  omega
 ·show 0≤pt (p+1) 1 i+(pt p (-n) i+(pt (p - 1) (-1) i+0))
  unfold pt
  rw [if_neg h1,if_neg h2]
  split <;> omega
theorem nc {n:Int} (hn:1≤n) (p:Nat):dlt n (false,p) p=-n - 1∧∀ i,i≠p→0≤dlt n (false,p) i:=by
 match p with
 | 0=>
  refine ⟨?_,fun i h1=>?_⟩
  ·show pt 1 1 0+(pt 0 (-n - 1) 0+0)=_
   unfold pt
   rw [if_neg (by omega),if_pos rfl]
   omega
  ·show 0≤pt 1 1 i+(pt 0 (-n - 1) i+0)
   unfold pt
   rw [if_neg h1]
   split <;> omega
 | 1=>
  refine ⟨?_,fun i h1=>?_⟩
  ·show pt 2 1 1+(pt 1 (-n - 1) 1+(pt 0 n 1+0))=_
   unfold pt
   rw [if_neg (by omega),if_pos rfl,if_neg (by omega)]
   omega
  ·show 0≤pt 2 1 i+(pt 1 (-n - 1) i+(pt 0 n i+0))
   unfold pt
   rw [if_neg h1]
   split <;> split <;> omega
 | q+2=>
  refine ⟨?_,fun i h1=>?_⟩
  ·show pt (q+3) 1 (q+2)+(pt (q+2) (-n - 1) (q+2)+(pt (q+1) (n - 1) (q+2)+(pt q 1 (q+2)+0)))=_
   unfold pt
   rw [if_neg (by omega),if_pos rfl,if_neg (by omega),if_neg (by omega)]
   omega
  ·show 0≤pt (q+3) 1 i+(pt (q+2) (-n - 1) i+(pt (q+1) (n - 1) i+(pt q 1 i+0)))
   unfold pt
   rw [if_neg h1]
   split <;> split <;> split <;> omega
def Oft (n:Int):Stp→(Nat→Int)→Int→Prop
 | (true,p),f,m=>0<p∧m*n≤f p∧m≤f (p - 1)
 | (false,p),f,m=>m*(n+1)≤f p
theorem Oft.up {n m:Int} {s:Stp} {f:Nat→Int} (h:Oft n s f m):s.1=true→0<s.2:=by
 match s,h with
 | (true,p),h=>exact fun _=>h.1
 | (false,p),_=>exact fun z=>Bool.noConfusion z
theorem Oft.nonneg {n m:Int} (hn:1≤n) (hm:0≤m) {s:Stp} {f:Nat→Int} (h:Oft n s f m) (hf0:∀ i,0≤f i) (i:Nat):0≤f i+m*dlt n s i:=by
 have pos:∀ d:Int,0≤d→0≤f i+m*d:=fun d hd=>by
  have:=Int.mul_nonneg hm hd
  have:=hf0 i
  omega
 match s,h with
 | (true,p),⟨h1,h2,h3⟩=>
  obtain ⟨a,b,c⟩:=eG (n:=n) h1
  by_cases e1:i=p
  ·subst e1; rw [a,Int.mul_neg]; omega
  by_cases e2:i=p - 1
  ·subst e2; rw [b,Int.mul_neg,Int.mul_one]; omega
  exact pos _ (c i e1 e2)
 | (false,p),h=>
  obtain ⟨a,c⟩:=nc hn p
  by_cases e1:i=p
  ·subst e1
   rw [a,show -n - 1=-(n+1) by omega,Int.mul_neg]
   have:m*(n+1)≤f i:=h
   omega
  exact pos _ (c i e1)
theorem Oft.can {n m j:Int} (hn:1≤n) {s:Stp} {f:Nat→Int} (h:Oft n s f m) (hj0:0≤j) (hj:j<m):Can n s (fun i=>f i+j*dlt n s i):=by
 match s,h with
 | (true,p),⟨h1,h2,h3⟩=>
  obtain ⟨a,b,c⟩:=eG (n:=n) h1
  have k:=Int.mul_le_mul_of_nonneg_right (show j+1≤m by omega) (show 0≤n by omega)
  rw [Int.add_mul,Int.one_mul] at k
  refine ⟨h1,?_,?_⟩
  ·show n≤f p+j*dlt n (true,p) p
   rw [a,Int.mul_neg]; omega
  ·show 0<f (p - 1)+j*dlt n (true,p) (p - 1)
   rw [b,Int.mul_neg,Int.mul_one]; omega
 | (false,p),h=>
  obtain ⟨a,c⟩:=nc hn p
  have h:m*(n+1)≤f p:=h
  have k:=Int.mul_le_mul_of_nonneg_right (show j+1≤m by omega) (show 0≤n+1 by omega)
  rw [Int.add_mul,Int.one_mul] at k
  show n<f p+j*dlt n (false,p) p
  rw [a,show -n - 1=-(n+1) by omega,Int.mul_neg]
  omega
def Walk (n:Int):(Nat→Int)→List Stp→(Nat→Int)→Prop
 | f,[],g=>f=g
 | f,s::ss,g=>Can n s f∧Walk n (fun i=>f i+dlt n s i) ss g
theorem Walk.append {n:Int} {g k:Nat→Int} {ts:List Stp} (h2:Walk n g ts k):∀ {ss:List Stp} {f:Nat→Int},Walk n f ss g→Walk n f (ss++ts) k
 | [],_,h=>by rw [show _=g from h]; exact h2
 | s::ss,_,h=>⟨h.1,Walk.append h2 h.2⟩
theorem p5 {n:Int} {s:Stp}:∀ (m:Nat) (f:Nat→Int),(∀ j:Nat,j<m→Can n s (fun i=>f i+j*dlt n s i))→Walk n f (List.replicate m s) (fun i=>f i+m*dlt n s i)
 | 0,f,_=>by
  show f=_
  funext i
  rw [show ((0:Nat):Int)=0 from rfl,Int.zero_mul,Int.add_zero]
 | m+1,f,h=>by
  refine ⟨?_,?_⟩
  ·have:=h 0 (Nat.succ_pos _)
   have e:(fun i=>f i+((0:Nat):Int)*dlt n s i)=f:=by
    funext i
    rw [show ((0:Nat):Int)=0 from rfl,Int.zero_mul,Int.add_zero]
   rw [e] at this
   exact this
  ·have:=p5 m (fun i=>f i+dlt n s i) (fun j hj=>by
    have:=h (j+1) (by omega)
    have e:(fun i=>f i+((j+1:Nat):Int)*dlt n s i)=fun i=>f i+dlt n s i+j*dlt n s i:=by
     funext i
     rw [show ((j+1:Nat):Int)=(j:Int)+1 by omega,Int.add_mul,Int.one_mul]
     omega
    rw [e] at this
    exact this)
   have e:(fun i=>f i+((m+1:Nat):Int)*dlt n s i)=fun i=>f i+dlt n s i+m*dlt n s i:=by
    funext i
    rw [show ((m+1:Nat):Int)=(m:Int)+1 by omega,Int.add_mul,Int.one_mul]
    omega
   rw [e]
   exact this
theorem yJ {h:List Int} {i:Nat} (hi:h.length≤i):hf h i=0:=by unfold hf; rw [List.getD_eq_getElem?_getD,List.getElem?_eq_none hi]; rfl
theorem su (w:Nat→Int) {f:Nat→Int} {k:Nat} (h:∀ i,k≤i→f i=0):∀ m,k≤m→sm w f m=sm w f k
 | 0,hm=>by rw [show k=0 by omega]
 | m+1,hm=>by
  by_cases e:k=m+1
  ·rw [e]
  ·show sm w f m+f m*w m=_
   rw [h m (by omega),Int.zero_mul,su w h m (by omega)]
   omega
def hw (n:Int) (h:List Int):Int:=sm (wf n) (hf h) h.length
def pot (n:Int) (h:List Int):Int:=sm (cst n) (hf h) h.length
theorem Sr {h:List Int} (h0:∀ z∈h,0≤z) (i:Nat):0≤hf h i:=by
 unfold hf
 rw [List.getD_eq_getElem?_getD]
 cases q:h[i]? with
 | none=>exact Int.le_refl _
 | some z=>exact h0 z (List.mem_of_getElem? q)
theorem oe {w f:Nat→Int} (hw:∀ i,0≤w i) (hf:∀ i,0≤f i):∀ m,0≤sm w f m
 | 0=>Int.le_refl _
 | m+1=>Int.add_nonneg (oe hw hf m) (Int.mul_nonneg (hf m) (hw m))
theorem jJ {w f:Nat→Int} (hw:∀ i,0≤w i) (hf:∀ i,0≤f i) {i:Nat}:∀ m,i<m→f i*w i≤sm w f m
 | 0,h=>absurd h (Nat.not_lt_zero _)
 | m+1,h=>by
  show _≤sm w f m+f m*w m
  by_cases e:i=m
  ·subst e
   have:=oe hw hf i
   omega
  ·have:=jJ hw hf (i:=i) m (by omega)
   have:=Int.mul_nonneg (hf m) (hw m)
   omega
theorem jH {n:Int} (hn:1≤n) {f:Nat→Int} (hf:∀ i,0≤f i):∀ m,sm (wf n) f m≤sm (fun _=>1) f m*wf n m
 | 0=>by show (0:Int)≤0*_; rw [Int.zero_mul]; exact Int.le_refl _
 | m+1=>by
  obtain ⟨p1,p2⟩:=yb hn m
  have ih:=jH hn hf m
  have t0:=oe (w:=fun _=>1) (fun _=>by decide) hf (m+1)
  have k:=Int.mul_le_mul_of_nonneg_left p2 t0
  have e:sm (fun _=>1) f (m+1)*wf n m=sm (fun _=>1) f m*wf n m+f m*wf n m:=by
   show (sm (fun _=>1) f m+f m*1)*wf n m=_
   rw [Int.mul_one,Int.add_mul]
  show sm (wf n) f m+f m*wf n m≤_
  omega
theorem Z4 {w v f:Nat→Int} (hf:∀ i,0≤f i) (h:∀ i,w i≤v i):∀ m,sm w f m≤sm v f m
 | 0=>Int.le_refl _
 | m+1=>by
  have:=Z4 hf h m
  have:=Int.mul_le_mul_of_nonneg_left (h m) (hf m)
  show sm w f m+f m*w m≤sm v f m+f m*v m
  omega
theorem m_ {n:Int} (hn:1≤n) (m:Nat):∀ b:Nat,((2 ^ b:Nat):Int)*wf n m≤wf n (m+2*b)
 | 0=>by rw [show ((2 ^ 0:Nat):Int)=1 from rfl,Int.one_mul]; exact Int.le_refl _
 | b+1=>by
  have ih:=m_ hn m b
  obtain ⟨a1,b1⟩:=yb hn (m+2*b)
  have:wf n (m+2*b+1)≤n*wf n (m+2*b+1):=by
   have:=Int.mul_le_mul_of_nonneg_right hn (show 0≤wf n (m+2*b+1) by omega)
   omega
  have e:wf n (m+2*(b+1))=n*wf n (m+2*b+1)+wf n (m+2*b):=rA n (m+2*b)
  have hp:((2 ^ (b+1):Nat):Int)*wf n m=2*(((2 ^ b:Nat):Int)*wf n m):=by rw [Nat.pow_succ,Int.natCast_mul,Int.mul_comm ((2 ^ b:Nat):Int),Int.mul_assoc]; rfl
  omega
theorem pZ {n:Int} (hn:1≤n) (m:Nat):∀ k,wf n m≤wf n (m+k)
 | 0=>Int.le_refl _
 | k+1=>Int.le_trans (pZ hn m k) (yb hn (m+k)).2
theorem jZ {n:Int} (hn:1≤n) {h l:List Int} (h0:∀ i,0≤hf h i) (l0:∀ i,0≤hf l i) (hp:pot n h≤15000000) (e:hw n l=hw n h) {p:Nat} (hpos:0<hf l p):p<h.length+48:=by
 rcases Nat.lt_or_ge p (h.length+48) with z | z
 ·exact z
 exfalso
 have hpl:p<l.length:=by
  rcases Nat.lt_or_ge p l.length with z | z
  ·exact z
  ·rw [yJ z] at hpos; omega
 have w0:∀ i,0≤wf n i:=fun i=>by have:=(yb hn i).1; omega
 have g1:=jJ w0 l0 l.length hpl
 have g2:wf n p≤hf l p*wf n p:=by
  have:=Int.mul_le_mul_of_nonneg_right (show 1≤hf l p by omega) (w0 p)
  omega
 have t:=jH hn h0 h.length
 have tp:sm (fun _=>1) (hf h) h.length≤pot n h:=Z4 h0 (fun i=>(vg n i).1) _
 have gr:=m_ hn h.length 24
 have mo:=pZ hn (h.length+2*24) (p - (h.length+2*24))
 rw [show h.length+2*24+(p - (h.length+2*24))=p by omega] at mo
 have w1:=(yb hn h.length).1
 have k:=Int.mul_le_mul_of_nonneg_right (show sm (fun _=>1) (hf h) h.length≤15000000 by omega) (show 0≤wf n h.length by omega)
 have e2:((2 ^ 24:Nat):Int)=16777216:=by decide
 rw [e2] at gr
 have e:sm (wf n) (hf l) l.length=sm (wf n) (hf h) h.length:=e
 omega
theorem je {n m:Int} (hn:1≤n) (hm:1≤m) {l l':List Int} {s:Stp} (l0:∀ i,0≤hf l i) (ho:Oft n s (hf l) m) (hl:l'.length=max l.length (s.2+2)) (he:∀ i,hf l' i=hf l i+m*dlt n s i):
  (∀ i,0≤hf l' i)∧hw n l'=hw n l∧pot n l'+m≤pot n l∧Walk n (hf l) (List.replicate m.toNat s) (hf l'):=by
 have ef:hf l'=fun i=>hf l i+m*dlt n s i:=funext he
 have sums:∀ w:Nat→Int,sm w (hf l') l'.length=sm w (hf l) l.length+m*ls w (chg n s):=fun w=>by
  rw [ef,sv,jI,show sm w (fun i=>dlt n s i) l'.length=_ from tT w l'.length (chg n s) (mS (by omega)),su w (fun i hi=>yJ hi) l'.length (by omega)]
 refine ⟨fun i=>?_,?_,?_,?_⟩
 ·rw [he]; exact ho.nonneg hn (by omega) l0 i
 ·show sm (wf n) (hf l') l'.length=sm (wf n) (hf l) l.length
  rw [sums,Ra ho.up,Int.mul_zero,Int.add_zero]
 ·show sm (cst n) (hf l') l'.length+m≤sm (cst n) (hf l) l.length
  rw [sums]
  have:=Int.mul_le_mul_of_nonneg_left (Rb hn ho.up) (show 0≤m by omega)
  omega
 ·have:=p5 (n:=n) (s:=s) m.toNat (hf l) (fun j hj=>ho.can hn (by omega) (by omega))
  rw [show ((m.toNat:Nat):Int)=m from Int.toNat_of_nonneg (by omega)] at this
  rw [ef]
  exact this
theorem lF (l:List Int) (i:Nat):hf (trim l) i=hf l i:=by
 generalize hl:l.length=m
 induction m generalizing l with
 | zero=>rw [List.length_eq_zero_iff.mp hl]; rfl
 | succ m ih=>
  rcases zH l with rfl | ⟨r,z,rfl⟩
  ·cases hl
  ·by_cases hz:z=0
   ·subst hz
    rw [xH,ih r (by rw [List.length_append] at hl; exact Nat.succ.inj hl)]
    unfold hf
    rw [List.getD_eq_getElem?_getD,List.getD_eq_getElem?_getD]
    by_cases h1:i<r.length
    ·rw [List.getElem?_append_left h1]
    ·rw [List.getElem?_eq_none (by omega)]
     rw [List.getElem?_append_right (by omega)]
     by_cases h2:i - r.length=0
     ·rw [h2]; rfl
     ·rw [List.getElem?_eq_none (by simp; omega)]
   ·rw [vL hz]
theorem Zt (n:Int) (l:List Int):hw n (trim l)=hw n l:=by
 have e:hf (trim l)=hf l:=funext (lF l)
 show sm (wf n) (hf (trim l)) (trim l).length=sm (wf n) (hf l) l.length
 rw [← su (wf n) (fun i hi=>yJ hi) l.length (vM l),e]
structure Rn (n:Int) (h:List Int) (ss:List Stp) (r:List Int):Prop where
 leg:Legal .falling n r
 eqw:hw n r=hw n h
 wlk:Walk n (hf h) ss (hf r)
 len:r.length≤h.length+60
 few:ss.length≤15000000
def yr (n:Int) (f:Nat→Int) (p:Nat):Option Stp:=if 0<p∧n≤f p∧0<f (p - 1) then some (true,p) else if n<f p then some (false,p) else none
theorem u7 {n:Int} {f:Nat→Int} {p:Nat} (h:yr n f p=none):f p≤n∧(0<p→n≤f p→f (p - 1)≤0):=by
 unfold yr at h
 split at h
 ·cases h
 ·rename_i h1
  split at h
  ·cases h
  ·rename_i h2
   refine ⟨by omega,fun a b=>?_⟩
   rcases Int.lt_or_le 0 (f (p - 1)) with z | z
   ·exact absurd ⟨a,b,z⟩ h1
   ·exact z
theorem p8 {n:Int} {f:Nat→Int} {p:Nat} {s:Stp} (h:yr n f p=some s):s.2=p∧Can n s f:=by
 unfold yr at h
 split at h
 ·rename_i h1; cases h; exact ⟨rfl,h1⟩
 ·split at h
  ·rename_i h2; cases h; exact ⟨rfl,h2⟩
  ·cases h
theorem Zq {n:Int} {l:List Int} (l0:∀ i,0≤hf l i) (h:∀ q,q<l.length→yr n (hf l) q=none):Lg .falling n l:=by
 refine ⟨fun p hp=>⟨l0 p,(u7 (h p hp)).1⟩,fun _ p hp e=>?_⟩
 have:=(u7 (h (p+1) hp)).2 (by omega) (by unfold hf; rw [e]; exact Int.le_refl _)
 have k:=l0 p
 rw [show p+1 - 1=p by omega] at this
 unfold hf at this k
 omega
theorem lQ {n:Int} {s:Stp} {i:Nat} (h:s.2+1<i):dlt n s i=0:=by
 have key:∀ l:List (Nat × Int),(∀ x∈l,x.1<i)→yw l i=0:=by
  intro l
  induction l with
  | nil=>intro _; rfl
  | cons x l ih=>
   intro hl
   show pt x.1 x.2 i+yw l i=0
   rw [ih (fun y hy=>hl y (List.mem_cons_of_mem _ hy))]
   unfold pt
   rw [if_neg (by have:=hl x List.mem_cons_self; omega)]
   rfl
 exact key _ (mS (by omega))
theorem mZ (n:Int) (r:List Int):∀ j,yL .falling n r j=.i (sm (wf n) (hf r) j)
 | 0=>rfl
 | j+1=>by
  show (yL .falling n r j).add ((Nm.i (r.getD j 0)).mul (.i (wf n j)))=_
  rw [mZ n r j]
  rfl
theorem YV {n B:Int} {h:List Int} (hb:∀ z∈h,0≤z∧z≤B) (hB:0≤B):pot n h≤h.length*(B*(4*h.length+8)):=by
 have key:∀ m:Nat,m≤h.length→sm (cst n) (hf h) m≤m*(B*(4*h.length+8)):=by
  intro m
  induction m with
  | zero=>intro _; show (0:Int)≤0*_; rw [Int.zero_mul]; exact Int.le_refl _
  | succ m ih=>
   intro hm
   have ih:=ih (by omega)
   have c:=vg n m
   have f1:0≤hf h m∧hf h m≤B:=by
    unfold hf
    rw [List.getD_eq_getElem?_getD,List.getElem?_eq_getElem (by omega)]
    exact hb _ (List.getElem_mem _)
   have k1:=Int.mul_le_mul f1.2 (show cst n m≤4*(h.length:Int)+8 by omega) (by omega) hB
   show sm (cst n) (hf h) m+hf h m*cst n m≤((m+1:Nat):Int)*_
   rw [show ((m+1:Nat):Int)=(m:Int)+1 by omega,Int.add_mul,Int.one_mul]
   omega
 exact key h.length (Nat.le_refl _)
def nH:Bool→Str
 | true=>.ofString "up"
 | false=>.ofString "part"
def yT (s:Stp):Dt:=.tup [.str (nH s.1),.int s.2]
def chD (x:Nat × Int):Dt:=.tup [.int x.1,.int x.2]
def Th:Option Stp→Dt
 | none=>.non
 | some s=>yT s
theorem d6 {Q:Dt→Prop} {d e:Dt} (q:Q d) (h:e=d):Q e:=h ▸ q
theorem nk (a b:List (Nat × Int)) (j:Nat):yw (a++b) j=yw a j+yw b j:=by
 induction a with
 | nil=>show yw b j=0+yw b j; omega
 | cons x a ih=>show pt x.1 x.2 j+yw (a++b) j=pt x.1 x.2 j+yw a j+yw b j; omega
theorem jk {l:List (Nat × Int)} {i:Nat} {x:Nat × Int} (h:l[i]? = some x) (j:Nat):yw (l.take (i+1)) j=yw (l.take i) j+pt x.1 x.2 j:=by
 rw [List.take_succ,h,nk]
 show _+(pt x.1 x.2 j+0)=_
 omega
theorem UC {n:Int} (h1:1≤n) (h2:n≤60) {s:Stp}:∀ x∈chg n s,-1000≤x.2∧x.2≤1000:=by
 intro x hx
 have o1:(-1000:Int)≤1∧(1:Int)≤1000:=by decide
 have o2:(-1000:Int)≤-1∧(-1:Int)≤1000:=by decide
 match s,hx with
 | (true,p),hx=>
  rcases List.mem_cons.mp hx with rfl | hx
  ·exact o1
  rcases List.mem_cons.mp hx with rfl | hx
  ·show -1000≤-n∧-n≤1000; omega
  rw [List.mem_singleton.mp hx]
  exact o2
 | (false,0),hx=>
  rcases List.mem_cons.mp hx with rfl | hx
  ·exact o1
  rw [List.mem_singleton.mp hx]
  show -1000≤-n - 1∧-n - 1≤1000; omega
 | (false,1),hx=>
  rcases List.mem_cons.mp hx with rfl | hx
  ·exact o1
  rcases List.mem_cons.mp hx with rfl | hx
  ·show -1000≤-n - 1∧-n - 1≤1000; omega
  rw [List.mem_singleton.mp hx]
  show -1000≤n∧n≤1000; omega
 | (false,p+2),hx=>
  rcases List.mem_cons.mp hx with rfl | hx
  ·exact o1
  rcases List.mem_cons.mp hx with rfl | hx
  ·show -1000≤-n - 1∧-n - 1≤1000; omega
  rcases List.mem_cons.mp hx with rfl | hx
  ·show -1000≤n - 1∧n - 1≤1000; omega
  rw [List.mem_singleton.mp hx]
  exact o1
theorem Ua (l:List Int) (k i:Nat):hf (l++List.replicate k 0) i=hf l i:=by
 unfold hf
 rw [List.getD_eq_getElem?_getD,List.getD_eq_getElem?_getD]
 by_cases h:i<l.length
 ·rw [List.getElem?_append_left h]
 ·rw [List.getElem?_append_right (by omega),List.getElem?_eq_none (show l.length≤i by omega),List.getElem?_replicate]
  split <;> rfl
theorem pE {l:List Int} {p:Nat} (h:p<l.length) (c:Int) (i:Nat):hf (l.set p (hf l p+c)) i=hf l i+pt p c i:=by
 unfold hf pt
 rw [List.getD_eq_getElem?_getD,List.getD_eq_getElem?_getD,List.getD_eq_getElem?_getD]
 by_cases e:i=p
 ·subst e
  rw [List.getElem?_set_self h,if_pos rfl]
  rfl
 ·rw [List.getElem?_set_ne (fun z=>e z.symm),if_neg e]
  omega
theorem wj {l:List Int} {p:Nat} (h:p<l.length):(l.map Dt.int)[p]? = some (.int (hf l p)):=by
 unfold hf
 rw [List.getElem?_map,List.getElem?_eq_getElem h,List.getD_eq_getElem?_getD,List.getElem?_eq_getElem h]
 rfl
theorem jQ (k:Nat) (s:Stp):(List.replicate k [yT s]).flatten=(List.replicate k s).map yT:=by
 induction k with
 | zero=>rfl
 | succ k ih=>rw [List.replicate_succ,List.flatten_cons,ih]; rfl
theorem qg (k:Nat) (s:Stp):(List.replicate k [Th (some s)]).flatten=(List.replicate k s).map yT:=jQ k s
theorem Can.pos {n:Int} (hn:1≤n) {s:Stp} {f:Nat→Int} (h:Can n s f):0<f s.2:=by
 match s,h with
 | (true,p),⟨_,h2,_⟩=>show 0<f p; omega
 | (false,p),h=>
  have h:n<f p:=h
  show 0<f p; omega
theorem Oft.le_pot {n m:Int} (hn:1≤n) {s:Stp} {l:List Int} (l0:∀ i,0≤hf l i) (hm:0≤m) (h:Oft n s (hf l) m) (hs:s.2<l.length):m≤pot n l:=by
 have a:m≤hf l s.2:=by
  match s,h with
  | (true,p),⟨_,h2,_⟩=>
   have:=Int.mul_le_mul_of_nonneg_left hn hm
   show m≤hf l p; omega
  | (false,p),h=>
   have h:m*(n+1)≤hf l p:=h
   have:=Int.mul_le_mul_of_nonneg_left (show 1≤n+1 by omega) hm
   show m≤hf l p; omega
 have b:=jJ (w:=cst n) (fun i=>by have:=(vg n i).1; omega) l0 l.length hs
 have c:=Int.mul_le_mul_of_nonneg_left (vg n s.2).1 (l0 s.2)
 show m≤sm (cst n) (hf l) l.length
 omega
theorem rc (a b:Int):a=b*a.fdiv b+a.fmod b:=by have:=Int.fmod_def a b; omega
theorem lJ {a b:Int} (hb:0<b):a.fdiv b*b≤a:=by
 have:=rc a b
 have:=Int.fmod_nonneg_of_pos a hb
 rw [Int.mul_comm]
 omega
theorem o6 {a b:Int} (hb:0<b) (h:b≤a):1≤a.fdiv b:=by
 have e:=rc a b
 have f:=Int.fmod_lt_of_pos a hb
 rcases Int.lt_or_le 0 (a.fdiv b) with z | z
 ·exact z
 ·have:=Int.mul_le_mul_of_nonneg_left z (show 0≤b by omega)
  omega
def vi (a b:List Int):List Int:=(List.range (max a.length b.length)).map fun p=>a.getD p 0+b.getD p 0
theorem oy (a b:List Int):(vi a b).length=max a.length b.length:=by unfold vi; rw [List.length_map,List.length_range]
theorem Zu (a b:List Int) (p:Nat):hf (vi a b) p=hf a p+hf b p:=by
 by_cases h:p<max a.length b.length
 ·unfold hf vi
  rw [List.getD_eq_getElem?_getD,List.getElem?_map,List.getElem?_range h]
  rfl
 ·rw [yJ (by rw [oy]; omega),yJ (by omega),yJ (by omega)]
  rfl
theorem ui {k:Kd} {a b:Nm} (ha:a.ty k) (hb:b.ty k):(a.add b).ty k:=wv ha (y_ hb)
theorem uo (n:Int) (r:List Int):zo .falling n r=.i (hw n r):=mZ n r r.length
theorem ql (k:Kd) (n:Int):Legal k n []:=⟨fun p h=>absurd h (Nat.not_lt_zero _),fun _ p h=>absurd h (Nat.not_lt_zero _),.inl rfl⟩
theorem um (k:Kd) (n:Int):zo k n []=k.zero:=rfl
theorem kz {n B:Int} {h:List Int} (hb:∀ z∈h,0≤z∧z≤B) (h0:0≤B) (hB:B≤80) (hl:h.length≤200):pot n h≤15000000:=by
 have p:=YV (n:=n) hb h0
 have k1:=Int.mul_le_mul hB (show 4*(h.length:Int)+8≤808 by omega) (by omega) (by decide)
 have k2:=Int.mul_le_mul (show (h.length:Int)≤200 by omega) k1 (Int.mul_nonneg h0 (by omega)) (by decide)
 omega
theorem jP {a b:List Int} {z:Int} (h:z∈vi a b):∃ p,z=hf a p+hf b p:=by
 unfold vi at h
 obtain ⟨p,_,rfl⟩:=List.mem_map.mp h
 exact ⟨p,rfl⟩
theorem lI {k:Kd} {n:Int} {r:List Int} (hn:k.ok n) (h:Legal k n r) (hl:r.length≤2000) (p:Nat):(hf r p).natAbs≤4000:=by
 by_cases hp:p<r.length
 ·refine qt hn h hl _ ?_
  unfold hf
  rw [List.getD_eq_getElem?_getD,List.getElem?_eq_getElem hp]
  exact List.getElem_mem _
 ·rw [yJ (by omega)]; decide
theorem rb {n:Int} {r:List Int} (hn:Kd.falling.ok n) (h:Legal .falling n r) (p:Nat):0≤hf r p∧hf r p≤n:=by
 by_cases hp:p<r.length
 ·exact h.fig p hp
 ·have:=hn.1
  rw [yJ (by omega)]
  exact ⟨Int.le_refl _,by show 0≤n; simp only [Kd.lo] at this; omega⟩
theorem dL {k:Kd} {a b:Nm} (ha:tot k a) (hb:tot k b):tot k (a.add b):=fun hk=>by
 obtain ⟨x,rfl⟩:=ha hk
 obtain ⟨y,rfl⟩:=hb hk
 exact ⟨_,rfl⟩
def vz (a b:List Nm):List Nm:=(List.range (max a.length b.length)).map fun p=>(a.getD p (.i 0)).add (b.getD p (.i 0))
theorem oO (a b:List Nm):(vz a b).length=max a.length b.length:=by unfold vz; rw [List.length_map,List.length_range]
theorem fq (a b:List Nm) (p:Nat):(vz a b).getD p (.i 0)=(a.getD p (.i 0)).add (b.getD p (.i 0)):=by
 by_cases h:p<max a.length b.length
 ·unfold vz
  rw [List.getD_eq_getElem?_getD,List.getElem?_map,List.getElem?_range h]
  rfl
 ·have e:∀ {l:List Nm},l.length≤p→l.getD p (.i 0)=.i 0:=fun h=>by rw [List.getD_eq_getElem?_getD,List.getElem?_eq_none h]; rfl
  rw [e (by rw [oO]; omega),e (by omega),e (by omega)]
  rfl
theorem fo {a b:List Nm} {t:Nm} (h:t∈vz a b):∃ p,t=(a.getD p (.i 0)).add (b.getD p (.i 0)):=by
 unfold vz at h
 obtain ⟨p,_,rfl⟩:=List.mem_map.mp h
 exact ⟨p,rfl⟩
theorem fm {k:Kd} {a b:List Nm} (ha:∀ t∈a,tot k t) (hb:∀ t∈b,tot k t):∀ t∈vz a b,tot k t:=fun t h=>by
 obtain ⟨p,rfl⟩:=fo h
 exact dL (yE ha p) (yE hb p)
theorem lh (k:Kd) (n:Int) (a b:List Nm):∀ j,(wN k n (vz a b) j).re=(wN k n a j).re+(wN k n b j).re∧(wN k n (vz a b) j).im=(wN k n a j).im+(wN k n b j).im
 | 0=>by
  show (k.zero).re=(k.zero).re+(k.zero).re∧(k.zero).im=(k.zero).im+(k.zero).im
  rw [zZ,yo]
  exact ⟨rfl,rfl⟩
 | j+1=>by
  obtain ⟨h1,h2⟩:=lh k n a b j
  unfold wN
  rw [fq]
  simp only [yx,yO,zK,zQ,h1,h2]
  constructor <;> grind
theorem qc {k:Kd} {n:Int} {a:List Nm} (ha:∀ t∈a,tot k t) {m:Nat} (h:a.length≤m):wN k n a m=ya k n a:=by
 obtain ⟨d,rfl⟩:∃ d,m=a.length+d:=⟨m - a.length,by omega⟩
 exact nE ha d
theorem pX {k:Kd} {n:Int} {a b:List Nm} (ha:∀ t∈a,tot k t) (hb:∀ t∈b,tot k t):ya k n (vz a b)=(ya k n a).add (ya k n b):=by
 have hl:=oO a b
 obtain ⟨h1,h2⟩:=lh k n a b (vz a b).length
 rw [qc ha (by omega),qc hb (by omega)] at h1 h2
 exact wP (si (fm ha hb) _) (ui (si ha _) (si hb _)) (h1.trans (yx ..).symm) (h2.trans (yO ..).symm)
theorem kU (a b:List Int):vz (a.map Nm.i) (b.map Nm.i)=(vi a b).map Nm.i:=by
 have e:∀ (l:List Int) (p:Nat),(l.map Nm.i).getD p (.i 0)=.i (l.getD p 0):=fun l p=>by
  rw [List.getD_eq_getElem?_getD,List.getD_eq_getElem?_getD,List.getElem?_map]
  cases l[p]? <;> rfl
 unfold vz vi
 rw [List.map_map,List.length_map,List.length_map]
 refine List.map_congr_left fun p _=>?_
 rw [e,e]
 rfl
theorem qK (r:List Int):zB r=vN (r.map Nm.i):=by unfold zB vN; rw [jy]
theorem tU {k:Kd} {t w:Nm} (ht:t.ty k) (hw:tot k w):(t.mul w).ty k:=by
 by_cases hk:k=.pairs
 ·subst hk
  obtain ⟨a,b,rfl⟩:=ht
  cases w <;> exact ⟨_,_,rfl⟩
 ·obtain ⟨a,rfl⟩:=hw hk
  obtain ⟨b,rfl⟩:=xt hk ht
  exact w8 hk
def wJ (a:List Int) (f:Nm):List Nm:=a.map fun z=>(Nm.i z).mul f
theorem sH (a:List Int) (f:Nm):(wJ a f).length=a.length:=List.length_map _
theorem ox {k:Kd} {a:List Int} {f:Nm} (hf:tot k f):∀ t∈wJ a f,tot k t:=fun t h hk=>by
 obtain ⟨z,_,rfl⟩:=List.mem_map.mp h
 obtain ⟨y,rfl⟩:=hf hk
 exact ⟨_,rfl⟩
theorem jO (a:List Int) (f:Nm) {p:Nat} (h:p<a.length):(wJ a f).getD p (.i 0)=(Nm.i (a.getD p 0)).mul f:=by
 unfold wJ
 rw [List.getD_eq_getElem?_getD,List.getElem?_map,List.getD_eq_getElem?_getD,List.getElem?_eq_getElem h]
 rfl
theorem jN (a:List Int) (f:Nm) {p:Nat} (h:a.length≤p):(wJ a f).getD p (.i 0)=.i 0:=by
 rw [List.getD_eq_getElem?_getD,List.getElem?_eq_none (by rw [sH]; exact h)]
 rfl
theorem dW (a:List Int) (f:Nm) (p:Nat):((wJ a f).getD p (.i 0)).re=hf a p*f.re∧((wJ a f).getD p (.i 0)).im=hf a p*f.im:=by
 by_cases h:p<a.length
 ·rw [jO a f h,zK,zQ]
  show a.getD p 0*f.re - 0*f.im=_∧a.getD p 0*f.im+0*f.re=_
  rw [Int.zero_mul,Int.zero_mul,Int.sub_zero,Int.add_zero]
  exact ⟨rfl,rfl⟩
 ·rw [jN a f (by omega),yJ (by omega),Int.zero_mul,Int.zero_mul]
  exact ⟨rfl,rfl⟩
theorem lf (k:Kd) (n:Int) (a:List Int) (f:Nm):∀ j,(wN k n (wJ a f) j).re=(yL k n a j).re*f.re - (yL k n a j).im*f.im∧(wN k n (wJ a f) j).im=(yL k n a j).re*f.im+(yL k n a j).im*f.re
 | 0=>by
  show (k.zero).re=(k.zero).re*_ - (k.zero).im*_∧(k.zero).im=(k.zero).re*_+(k.zero).im*_
  rw [zZ,yo,Int.zero_mul,Int.zero_mul]
  exact ⟨rfl,rfl⟩
 | j+1=>by
  obtain ⟨h1,h2⟩:=lf k n a f j
  obtain ⟨r1,r2⟩:=dW a f j
  unfold wN yL
  simp only [yx,yO,zK,zQ,h1,h2,r1,r2]
  show _=(_+(hf a j*_ - 0*_))*_ - (_+(hf a j*_+0*_))*_∧_=(_+(hf a j*_ - 0*_))*_+(_+(hf a j*_+0*_))*_
  constructor <;> grind
theorem pW {k:Kd} {n:Int} (a:List Int) {f:Nm} (hf:tot k f):ya k n (wJ a f)=(zo k n a).mul f:=by
 obtain ⟨h1,h2⟩:=lf k n a f a.length
 have e:ya k n (wJ a f)=wN k n (wJ a f) a.length:=by unfold ya; rw [sH]
 rw [e]
 exact wP (si (ox hf) _) (tU (zN k n a) hf) (h1.trans (zK ..).symm) (h2.trans (zQ ..).symm)
def hv (k:Kd) (n:Int) (o:List Int):Nat→Nat→Nm
 | 0,_=>k.zero
 | m+1,p=>(Nm.i (o.getD p 0)).add ((k.ratN n p).mul (hv k n o m (p+1)))
def few (k:Kd) (x y:Nat):Prop:=x≤63∧y≤63∧x+y≤100∧(k=.pairs→x+y≤50)
theorem UK {n:Int} (n1:1≤n) {i j:Nat} (h:i<j):wf n i<wf n j:=by
 induction j with
 | zero=>exact absurd h (Nat.not_lt_zero _)
 | succ j ih=>
  have s:wf n j<wf n (j+1):=by
   cases j with
   | zero=>rw [qJ,nD]; omega
   | succ q=>
    have p1:=(yb n1 q).1
    have p2:=(yb n1 (q+1)).1
    rw [rA]
    have:=Int.mul_le_mul_of_nonneg_right n1 (show 0≤wf n (q+1) by omega)
    omega
  rcases Nat.lt_or_ge i j with z | z
  ·exact Int.lt_trans (ih z) s
  ·obtain rfl:i=j:=by omega
   exact s
def vT (a:List Int) (c:Int):List Int:=a.map (· * c)
theorem YK (a:List Int) (c:Int):wJ a (.i c)=(vT a c).map Nm.i:=by unfold wJ vT; rw [List.map_map]; rfl
theorem lG (a:List Int) (c:Int) (p:Nat):hf (vT a c) p=hf a p*c:=by
 unfold hf vT
 rw [List.getD_eq_getElem?_getD,List.getD_eq_getElem?_getD,List.getElem?_map]
 cases a[p]? with
 | none=>show (0:Int)=0*c; rw [Int.zero_mul]
 | some z=>rfl
theorem kn {a:List Int} {i:Nat} (h:i<a.length):a.take (i+1)=a.take i++[a.getD i 0]:=by
 rw [List.take_succ,List.getD_eq_getElem?_getD,List.getElem?_eq_getElem h]
 rfl
def lnd (n:Int) (l:Nat):List (Nat × Int):=[(l,-1),(l - 1,n),(l - 2,1)]
theorem Se {n:Int} {l:Nat} (h:1≤l):ls (wf n) (lnd n l)=0:=by
 show -1*wf n l+(n*wf n (l - 1)+(1*wf n (l - 2)+0))=0
 match l,h with
 | 1,_=>rw [nD]; show -1*(n+1)+(n*wf n 0+(1*wf n 0+0))=0; rw [qJ]; omega
 | l+2,_=>
  rw [rA,show l+2 - 1=l+1 by omega,show l+2 - 2=l by omega]
  omega
theorem vB (n:Int) (l i:Nat):yw (lnd n l) i=(if i=l then -1 else 0)+((if i=l - 1 then n else 0)+((if i=l - 2 then 1 else 0)+0)):=rfl
theorem lp {w f g:Nat→Int} (hw:∀ i,0≤w i):∀ m,(∀ i,i<m→f i≤g i)→sm w f m≤sm w g m
 | 0,_=>Int.le_refl _
 | m+1,h=>by
  have:=lp hw m fun i hi=>h i (by omega)
  have:=Int.mul_le_mul_of_nonneg_right (h m (by omega)) (hw m)
  show sm w f m+f m*w m≤sm w g m+g m*w m
  omega
theorem jK {w f g:Nat→Int}:∀ m,(∀ i,i<m→f i=g i)→sm w f m=sm w g m
 | 0,_=>rfl
 | m+1,h=>by
  show sm w f m+f m*w m=sm w g m+g m*w m
  rw [jK m fun i hi=>h i (by omega),h m (by omega)]
structure Lv (n:Int) (d:Nat→Int) (L p:Nat) (g:Nat→Int):Prop where
 ab:∀ i,p<i→0≤g i
 lo:∀ i,i+1<p→g i=d i
 nx:∀ i,i+1=p→g i=d i∨(0≤g p∧g i=d i+1)
 at_:-n≤g p
 hi:∀ i,g i≤n+1
 wq:sm (wf n) g L=sm (wf n) d L
 out:∀ i,L≤i→g i=0
theorem Lv.start {n:Int} {d:Nat→Int} {L:Nat} (hd:∀ i,-n≤d i∧d i≤n) (ho:∀ i,L≤i→d i=0):Lv n d L (L - 1) d:=
 ⟨fun i h=>by rw [ho i (by omega)]; exact Int.le_refl _,fun _ _=>rfl,fun _ _=>.inl rfl,(hd _).1,fun i=>by have:=hd i; omega,rfl,ho⟩
theorem Lv.next {n:Int} {d g:Nat→Int} {L p:Nat} (h:Lv n d L (p+1) g) (hd:∀ i,-n≤d i∧d i≤n) (h0:0≤g (p+1)):Lv n d L p g:=by
 refine ⟨fun i hi=>?_,fun i hi=>h.lo i (by omega),fun i hi=>.inl (h.lo i (by omega)),?_,h.hi,h.wq,h.out⟩
 ·rcases (by omega:i=p+1∨p+1<i) with rfl | z
  ·exact h0
  ·exact h.ab i z
 ·have:=hd p
  rcases h.nx p rfl with e | ⟨_,e⟩ <;> omega
def far (p:Nat) (i:Nat):Int:=if p<i then ((11 ^ i:Nat):Int) else 0
theorem fU (p i:Nat):0≤far p i:=by unfold far; split; exact Int.natCast_nonneg _; exact Int.le_refl _
theorem fS {p:Nat} {f:Nat→Int} (h:∀ i,p<i→0≤f i):∀ m,0≤sm (far p) f m
 | 0=>Int.le_refl _
 | m+1=>by
  have ih:=fS h m
  show 0≤sm (far p) f m+f m*far p m
  by_cases e:p<m
  ·have:=Int.mul_nonneg (h m e) (fU p m)
   omega
  ·rw [show far p m=0 from if_neg e,Int.mul_zero]
   omega
theorem Zz {n:Int} {l p:Nat} (n0:1≤n) (n9:n≤9) (h:p<l):ls (far p) (lnd n l)<0:=by
 show -1*far p l+(n*far p (l - 1)+(1*far p (l - 2)+0))<0
 have e:far p l=((11 ^ l:Nat):Int):=if_pos h
 rw [e]
 match l,h with
 | 1,h=>
  have z:p=0:=by omega
  subst z
  show -1*((11 ^ 1:Nat):Int)+(n*0+(1*0+0))<0
  rw [Int.mul_zero]
  decide
 | l+2,h=>
  rw [show l+2 - 1=l+1 by omega,show l+2 - 2=l by omega]
  have k1:far p (l+1)≤((11 ^ (l+1):Nat):Int):=by unfold far; split; exact Int.le_refl _; exact Int.natCast_nonneg _
  have k2:far p l≤((11 ^ l:Nat):Int):=by unfold far; split; exact Int.le_refl _; exact Int.natCast_nonneg _
  have k0:=fU p (l+1)
  have m1:=Int.mul_le_mul n9 k1 k0 (by decide)
  have p1:(11:Nat) ^ (l+1)=11*11 ^ l:=by rw [Nat.pow_succ]; omega
  have p2:(11:Nat) ^ (l+2)=121*11 ^ l:=by rw [Nat.pow_succ,Nat.pow_succ]; omega
  have p0:0<(11:Nat) ^ l:=Nat.pow_pos (by decide)
  rw [p1] at m1
  rw [p2]
  generalize (11:Nat) ^ l=X at *
  omega
theorem Lv.lend {n:Int} {d g:Nat→Int} {L p l:Nat} (h:Lv n d L p g) (n1:1≤n) (n9:n≤9) (hd:∀ i,-n≤d i∧d i≤n) (hp:g p<0) (hl:p<l) (hL:l<L) (g0:∀ i,p<i→i<l→g i=0) (gl:0<g l):
  Lv n d L p (fun i=>g i+yw (lnd n l) i)∧sm (far p) (fun i=>g i+yw (lnd n l) i) L<sm (far p) g L:=by
 have hlt:∀ x∈lnd n l,x.1<L:=fun x hx=>by
  simp only [lnd,List.mem_cons,List.not_mem_nil,or_false] at hx
  rcases hx with rfl | rfl | rfl
  ·exact hL
  ·show l - 1<L; omega
  ·show l - 2<L; omega
 refine ⟨⟨fun i hi=>?_,fun i hi=>?_,fun i hi=>?_,?_,fun i=>?_,?_,fun i hi=>?_⟩,?_⟩
 ·have a:=h.ab i hi
  show 0≤g i+yw (lnd n l) i
  rw [vB]
  by_cases e:i=l
  ·subst e
   rw [if_pos rfl,if_neg (by omega)]
   split <;> omega
  ·rw [if_neg e]
   split <;> split <;> omega
 ·have a:=h.lo i hi
  show g i+yw (lnd n l) i=d i
  rw [vB,if_neg (by omega),if_neg (by omega),if_neg (by omega)]
  omega
 ·have a:=h.nx i hi
  show g i+yw (lnd n l) i=d i∨(0≤g p+yw (lnd n l) p∧g i+yw (lnd n l) i=d i+1)
  have hb:=h.at_
  have a':g i=d i:=by rcases a with e | ⟨e,_⟩ <;> omega
  rw [vB,vB]
  by_cases e:l=p+1
  ·subst e
   refine .inr ⟨?_,?_⟩
   ·rw [if_neg (by omega),if_pos (by omega)]
    split <;> omega
   ·rw [if_neg (by omega),if_neg (by omega),if_pos (by omega)]
    omega
  ·refine .inl ?_
   rw [if_neg (by omega),if_neg (by omega),if_neg (by omega)]
   omega
 ·have hb:=h.at_
  show -n≤g p+yw (lnd n l) p
  rw [vB,if_neg (by omega)]
  split <;> split <;> omega
 ·have a:=h.hi i
  show g i+yw (lnd n l) i≤n+1
  rw [vB]
  by_cases e:i=l
  ·subst e
   rw [if_pos rfl,if_neg (by omega),if_neg (by omega)]
   omega
  ·rw [if_neg e]
   by_cases e1:i=l - 1
   ·rw [if_pos e1]
    have:g i≤0:=by
     rcases (by omega:i=p∨p<i) with z | z
     ·rw [z]; omega
     ·rw [g0 i z (by omega)]; exact Int.le_refl _
    by_cases ep:i=p
    ·have:g i<0:=by rw [ep]; exact hp
     split <;> omega
    ·have:¬ i=l - 2:=by omega
     rw [if_neg this]
     omega
   ·rw [if_neg e1]
    by_cases e2:i=l - 2
    ·rw [if_pos e2]
     have:g i≤n:=by
      rcases (by omega:i+1=p∨i=p∨p<i) with z | z | z
      ·rcases h.nx i z with q | ⟨q,_⟩
       ·rw [q]; exact (hd i).2
       ·omega
      ·rw [z]; omega
      ·rw [g0 i z (by omega)]; omega
     omega
    ·rw [if_neg e2]
     omega
 ·rw [sv,tT _ _ _ hlt,Se (by omega),Int.add_zero]
  exact h.wq
 ·show g i+yw (lnd n l) i=0
  rw [vB,if_neg (by omega),if_neg (by omega),if_neg (by omega),h.out i hi]
  rfl
 ·rw [sv,tT _ _ _ hlt]
  have:=Zz n1 n9 hl
  omega
theorem Lv.less {n:Int} {d g o:Nat→Int} {L p:Nat} (h:Lv n d L p g) (n1:1≤n) (hp:g p<0) (hL:p<L) (g0:∀ i,p<i→g i=0) (hdo:∀ i,d i≤o i) (ho:sm (wf n) o p<wf n p):sm (wf n) d L<0:=by
 have w0:∀ i,0≤wf n i:=fun i=>by have:=(yb n1 i).1; omega
 rw [← h.wq,su (wf n) (k:=p+1) (fun i hi=>g0 i (by omega)) L (by omega)]
 show sm (wf n) g p+g p*wf n p<0
 have e:sm (wf n) g p=sm (wf n) d p:=jK p fun i hi=>by
  rcases (by omega:i+1<p∨i+1=p) with z | z
  ·exact h.lo i z
  ·rcases h.nx i z with q | ⟨q,_⟩
   ·exact q
   ·omega
 have m:=lp w0 p fun i _=>hdo i
 have k:=Int.mul_le_mul_of_nonneg_right (show g p≤-1 by omega) (w0 p)
 omega
theorem Lg.init {n:Int} {l:List Int} {z:Int} (h:Lg .falling n (l++[z])):Lg .falling n l:=by
 refine ⟨fun p hp=>?_,fun hF p hp=>?_⟩
 ·have:=h.1 p (by rw [List.length_append]; omega)
  rwa [zD hp] at this
 ·have:=h.2 hF p (by rw [List.length_append]; omega)
  rwa [zD hp,zD (by omega)] at this
theorem jY {n:Int} (n1:1≤n):∀ (m:Nat) (a:List Int),a.length=m→Lg .falling n a→∀ p,p≤m→sm (wf n) (hf a) p<wf n p:=by
 intro m
 induction m with
 | zero=>
  intro a ha h p hp
  obtain rfl:p=0:=by omega
  show (0:Int)<wf n 0
  rw [qJ]
  decide
 | succ m ih=>
  intro a ha h p hp
  rcases (by omega:p=m+1∨p≤m) with e | e
  ·have:=Lg.lt n1 (m+1) a ha h
   rw [uo] at this
   rw [e,← ha]
   rw [← ha] at this
   exact this
  ·rcases zH a with rfl | ⟨l,z,rfl⟩
   ·cases ha
   ·have hl:l.length=m:=by rw [List.length_append] at ha; exact Nat.succ.inj ha
    have e3:sm (wf n) (hf (l++[z])) p=sm (wf n) (hf l) p:=jK p fun i hi=>zD (by omega)
    rw [e3]
    exact ih l hl h.init p e
theorem cc {n:Int} {a:List Int} (n1:1≤n) (h:Lg .falling n a) (p:Nat):sm (wf n) (hf a) p<wf n p:=by
 rcases (by omega:p≤a.length∨a.length<p) with z | z
 ·exact jY n1 _ a rfl h p z
 ·rw [su (wf n) (fun i hi=>yJ hi) p (by omega)]
  exact Int.lt_trans (jY n1 _ a rfl h a.length (Nat.le_refl _)) (UK n1 z)
def qk (k:Kd):Prop:=rL k∨k=.falling
theorem lq (a b:List Int) (p:Nat):hf (vi a (vT b (-1))) p=hf a p - hf b p:=by rw [Zu,lG]; omega
def Fg (k:Kd) (n:Int) (r:List Int):Prop:=∀ p,p<r.length→k.low n p≤r.getD p 0∧r.getD p 0≤k.high n p
theorem Fg.put {k:Kd} {n:Int} {r:List Int} (hn:k.ok n) (h:Fg k n r) (j:Nat):Fg k n (r.set j 0):=fun p hp=>by
 rw [List.length_set] at hp
 by_cases q:j=p
 ·subst q
  rw [yA hp]
  exact uN hn j
 ·rw [yz q]
  exact h p hp
def Fl (k:Kd) (n:Int) (r:List Int) (i:Nat):Prop:=k.isF=true→∀ q:Nat,r.length≤q+1+i→q+1<r.length→r.getD (q+1) 0=n→r.getD q 0=0
theorem Fl.put {k:Kd} {n:Int} {r:List Int} {i j:Nat} (hn:k.ok n) (h:Fl k n r i) (hj:j+i<r.length):Fl k n (r.set j 0) i:=fun hk q h1 h2 h3=>by
 rw [List.length_set] at h1 h2
 by_cases e:j=q
 ·subst e; rw [yA (by omega)]
 ·rw [yz e]
  by_cases e2:j=q+1
  ·subst e2
   rw [yA (by omega)] at h3
   have:=hn.1
   cases k <;> simp only [Kd.lo] at this <;> first | omega | cases hk
  ·rw [yz e2] at h3
   exact h hk q h1 h2 h3
theorem Fg.snoc {k:Kd} {n f:Int} {r:List Int} {i:Nat} (hlr:r.length=i) (hp:∀ p,p<i→k.low n p≤r.getD p 0∧r.getD p 0≤k.high n p) (hf:k.low n i≤f∧f≤k.high n i):
  ∃ r':List Int,r.map Dt.int++[.int f]=r'.map Dt.int∧r'.length=i+1∧∀ p,p<i+1→k.low n p≤r'.getD p 0∧r'.getD p 0≤k.high n p:=by
 refine ⟨r++[f],by rw [List.map_append]; rfl,by rw [List.length_append,hlr]; rfl,fun p hp'=>?_⟩
 rcases (by omega:p<i∨p=i) with z | z
 ·rw [zD (by omega)]
  exact hp p z
 ·subst z
  rw [← hlr,getD_snoc_eq,hlr]
  exact hf
def pR:DSp:=fun ds Q=>∃ z,ds=[.int z]∧∀ r:Int,0≤r→Q (.int r)
def du:DSp:=fun ds Q=>∃ z,ds=[.int z]∧∀ k n,Kd.ok k n→Q (.tup [.int (Kd.num k),.int n])
def mV:DSp:=fun ds Q=>∃ k n,∃ p:Nat,ds=[.int (Kd.num k),.int n,.int p]∧Kd.ok k n∧Q (.tup [.int (k.low n p),.int (k.high n p)])
def kg:DSp:=fun ds Q=>∃ k n cs,ds=[.int (Kd.num k),.int n,zB cs]∧Kd.ok k n∧cs.length≤1000∧∀ r,Legal k n r→r.length≤cs.length→Q (zB r)
def dD:DSp:=fun ds Q=>∃ k n r,ds=[.int (Kd.num k),.int n,zB r]∧Kd.ok k n∧Legal k n r∧r.length≤1000∧Q (.bl true)
def ka:DSp:=fun ds Q=>∃ k n,∃ j:Nat,∃ lo:Dt,ds=[.int (Kd.num k),.int n,.int j,(wt k n j).dt,lo]∧Kd.ok k n∧j≤1000∧(k=.falling→lo=.int (wtF n j).1)∧Q (wt k n (j+1)).dt
def dw:DSp:=fun ds Q=>∃ k n r,ds=[.int (Kd.num k),.int n,zB r]∧Kd.ok k n∧r.length≤1000∧bdR r∧Q (zo k n r).dt
theorem fR {k:Kd} {n m:Int} {p:Nat} (hn:k.ok n) (h0:0≤m.fmod 9) (h5:m.fmod 9<5):∃ f,atI [Dt.int 0,.int (k.high n p),.int (k.low n p),.int (k.high n p),.int 1] (m.fmod 9)=some (.int f)∧k.low n p≤f∧f≤k.high n p:=by
 obtain ⟨l1,l2⟩:=uN hn p
 have h1:(1:Int)≤k.high n p:=by
  obtain ⟨a,b⟩:=hn
  cases k <;> simp only [Kd.lo,Kd.hi,Kd.high] at * <;> first | omega | (have:=Int.mul_le_mul a a (by omega) (by omega); omega)
 rcases (by omega:m.fmod 9=0∨m.fmod 9=1∨m.fmod 9=2∨m.fmod 9=3∨m.fmod 9=4) with e | e | e | e | e <;> rw [e]
 ·exact ⟨0,rfl,l1,l2⟩
 ·exact ⟨_,rfl,by omega,Int.le_refl _⟩
 ·exact ⟨_,rfl,Int.le_refl _,by omega⟩
 ·exact ⟨_,rfl,by omega,Int.le_refl _⟩
 ·exact ⟨1,rfl,by omega,h1⟩
def Yt:DSp:=fun ds Q=>∃ ns k n m,ds=[.scr ns,.int (Kd.num k),.int n,.int m]∧Kd.ok k n∧ns.length≤63∧0≤m∧m≤1000∧∀ a b,Legal k n a→Legal k n b→a.length≤63→b.length≤63→a.length≤m.toNat→b.length≤m.toNat→Q (.tup [zB a,zB b])
theorem ZR {xs:List Dt} {m:Int} (h:0≤m):(qa xs (some 1) (some (1+2*m))).length≤2*m.toNat:=by
 unfold qa
 have e1:HT.sIx xs.length 0 (some 1)=min 1 xs.length:=HT.sIx_nat _ _ 1
 have e2:=HT.sIx_nat xs.length xs.length (1+2*m).toNat
 rw [Int.toNat_of_nonneg (by omega)] at e2
 rw [e1,e2,List.length_take]
 omega
def pw (p:Str × Bool):Dt:=.tup [.str p.1,.bl p.2]
def p6 (l:List (Str × Bool)):List Dt:=(l.filter fun p=>p.2).map fun p=>Dt.str p.1
theorem mQ {ρ:DS} {Q:Dt→Prop} (l:List (Str × Bool)) (q:Q (.lst (p6 l))):wX [] (fun _ q=>q (l.map pw).length fun i e=>(l.map pw)[i]? = some e) SC (ue (ni 1)) (ni 0) ρ Q:=by
 refine ⟨fun i es=>es=p6 (l.take i),rfl,?_,?_⟩
 ·rintro i e es hi he rfl
  rw [List.getElem?_map] at he
  obtain ⟨⟨w,t⟩,hp,rfl⟩:=Option.map_eq_some_iff.mp he
  refine ⟨_,⟨_,_,rfl,rfl⟩,_,rfl,t,rfl,?_⟩
  have ek:p6 (l.take (i+1))=p6 (l.take i)++if t=true then [Dt.str w] else []:=by
   unfold p6
   rw [take_succ_filter (fun p:Str × Bool=>p.2) l i (w,t) hp,List.map_append]
   cases t <;> rfl
  cases t with
  | true=>exact ifT rfl ⟨_,rfl,ek.symm⟩
  | false=>exact ifF rfl (by rw [if_neg Bool.false_ne_true,List.append_nil] at ek; exact ek.symm)
 ·rintro es rfl
  rw [List.length_map,List.take_length]
  exact q
theorem eX {r:List Int} (a:Nat):qa (r.map Dt.int) (some (a:Int)) none=(r.drop a).map Dt.int:=by
 unfold qa
 rw [HT.sIx_nat,HT.sIx_none,List.length_map,← List.map_drop,← List.map_take]
 congr 1
 rcases Nat.le_total a r.length with h | h
 ·rw [Nat.min_eq_left h,List.take_of_length_le (by rw [List.length_drop]; omega)]
 ·rw [Nat.min_eq_right h,List.drop_length,List.drop_of_length_le h,List.take_nil]
def dA:DSp:=fun ds Q=>∃ k a b,ds=[.int (Kd.num k),Nm.dt a,Nm.dt b]∧Nm.ty k a∧Nm.ty k b∧Q (a.add (b.mul (.i (-1)))).dt
def tl:Dt:=.lst [.str (.ofString "TooLess")]
theorem ml (k:Kd):([(0:Int),3,4].any (fun a=>a == k.num))=true↔qk k:=by
 cases k
 all_goals
  constructor
  ·intro h
   first
   | exact .inl (.inl rfl)
   | exact .inl (.inr rfl)
   | exact .inr rfl
   | exact absurd h (by decide)
  ·intro h
   first
   | rfl
   | (rcases h with (h | h) | h <;> cases h)
theorem oS {k:Kd} {n:Int} {r:List Int} (hn:k.ok n) (hk:qk k) (h:Legal k n r):0≤(zo k n r).re:=by
 have e:=kZ hn h
 cases hw:zo k n r with
 | i a=>
  rw [hw] at e
  rcases hk with (rfl | rfl) | rfl <;> exact of_decide_eq_true e
 | p a b=>
  rw [hw] at e
  rcases hk with (rfl | rfl) | rfl <;> cases e
theorem oT {k:Kd} {n f x y:Int} {l:List Int} (hn:k.ok n) (h:Legal k n (x::y::l)) (hy:k.isF=true→y≠n) (hf:f=0∨f=1):Legal k n (f::y::l):=by
 refine ⟨fun p hp=>?_,fun hF p hp e=>?_,.inr ?_⟩
 ·cases p with
  | zero=>
   obtain ⟨l1,l2⟩:=uN hn 0
   have h1:(1:Int)≤k.high n 0:=by
    obtain ⟨a,b⟩:=hn
    cases k <;> simp only [Kd.lo,Kd.hi,Kd.high] at * <;> first | omega | (have:=Int.mul_le_mul a a (by omega) (by omega); omega)
   show k.low n 0≤f∧f≤k.high n 0
   have l1:k.low n 0≤0:=l1
   have l2:0≤k.high n 0:=l2
   omega
  | succ p=>exact h.fig (p+1) hp
 ·cases p with
  | zero=>exact absurd e (hy hF)
  | succ p=>exact h.fal hF (p+1) hp e
 ·rcases h.end_ with z | z
  ·cases z
  ·exact z
theorem y4 (r:List Int):okE 40 (.tup [.lst [],zB r])=true:=by
 show (okE 39 (.lst []) && (okE 39 (zB r) && true))=true
 rw [sS]; rfl
theorem pq (a b:Nm):(a.add (b.mul (.i (-1)))).re=a.re - b.re:=by
 rw [yx,zK]
 show _+(_*(-1) - _*0)=_
 omega
structure Adr where
 Plain:Addr
 Below:Addr
 Balanced:Addr
 Growing:Addr
 Falling:Addr
 Pairs:Addr
 OddError:Addr
 NoWay:Addr
 NoNumber:Addr
 NoWriting:Addr
 TooLess:Addr
 NoRatio:Addr
 NoFalling:Addr
 NoPairs:Addr
 Nought:Addr
 NoSpan:Addr
 NoTotal:Addr
 NoText:Addr
 NoRow:Addr
structure Txt (K:PySem.W.Frag) (mg:Str→Option Value) (A:Adr):Prop where
 kt:ZY K
 isinstance:mg "isinstance"=none
 n_int:mg "int"=none
 n_bool:mg "bool"=none
 n_tuple:mg "tuple"=none
 n_list:mg "list"=none
 len:mg "len"=none
 range:mg "range"=none
 n_enumerate:mg "enumerate"=none
 n_min:mg "min"=none
 n_max:mg "max"=none
 n_ValueError:mg "ValueError"=none
 QB:Cls K A.Plain
 Pj:NoAttr K A.Plain "base"
 QC:Cls K A.Below
 Pk:NoAttr K A.Below "base"
 QA:Cls K A.Balanced
 Q9:NoAttr K A.Balanced "half"
 QD:Cls K A.Growing
 Pl:NoAttr K A.Growing "first"
 Qq:Cls K A.Falling
 Qt:NoAttr K A.Falling "most"
 Qu:Cls K A.Pairs
 QE:NoAttr K A.Pairs "most"
 QN:mg "Falling"=some (.ref A.Falling)
 OQ:tq K A.Plain
 QO:PySem.W.kitOne K (.ref A.Plain) (.ref A.Falling)=some false
 OR:tq K A.Below
 QP:PySem.W.kitOne K (.ref A.Below) (.ref A.Falling)=some false
 OS:tq K A.Balanced
 QQ:PySem.W.kitOne K (.ref A.Balanced) (.ref A.Falling)=some false
 OT:tq K A.Growing
 QR:PySem.W.kitOne K (.ref A.Growing) (.ref A.Falling)=some false
 OP:tq K A.Falling
 QM:PySem.W.kitOne K (.ref A.Falling) (.ref A.Falling)=some true
 OU:tq K A.Pairs
 QS:PySem.W.kitOne K (.ref A.Pairs) (.ref A.Falling)=some false
 OV:mg "OddError"=some (.ref A.OddError)
 OW:mg "NoWay"=some (.ref A.NoWay)
 OX:mg "NoNumber"=some (.ref A.NoNumber)
 OY:mg "NoWriting"=some (.ref A.NoWriting)
 Q_:mg "TooLess"=some (.ref A.TooLess)
 OZ:mg "NoRatio"=some (.ref A.NoRatio)
 O0:mg "NoFalling"=some (.ref A.NoFalling)
 O1:mg "NoPairs"=some (.ref A.NoPairs)
 O2:mg "Nought"=some (.ref A.Nought)
 O3:mg "NoSpan"=some (.ref A.NoSpan)
 O4:mg "NoTotal"=some (.ref A.NoTotal)
 O5:mg "NoText"=some (.ref A.NoText)
 O6:mg "NoRow"=some (.ref A.NoRow)
 QF:ExcK K A.TooLess
 Qr:qF K A.TooLess
 QT:PySem.W.exmOne K (.ref A.TooLess) (.ref A.OddError)=some true
 Pa:PySem.W.kitOne K (.ref A.TooLess) (.ref A.OddError)=some true
 QU:PySem.W.kitOne K (.ref A.TooLess) (.ref A.NoWay)=some false
 QV:PySem.W.kitOne K (.ref A.TooLess) (.ref A.NoNumber)=some false
 QW:PySem.W.kitOne K (.ref A.TooLess) (.ref A.NoWriting)=some false
 QX:PySem.W.kitOne K (.ref A.TooLess) (.ref A.TooLess)=some true
 QY:PySem.W.kitOne K (.ref A.TooLess) (.ref A.NoRatio)=some false
 QZ:PySem.W.kitOne K (.ref A.TooLess) (.ref A.NoFalling)=some false
 Q0:PySem.W.kitOne K (.ref A.TooLess) (.ref A.NoPairs)=some false
 Q2:PySem.W.kitOne K (.ref A.TooLess) (.ref A.Nought)=some false
 Q3:PySem.W.kitOne K (.ref A.TooLess) (.ref A.NoSpan)=some false
 Q4:PySem.W.kitOne K (.ref A.TooLess) (.ref A.NoTotal)=some false
 Q5:PySem.W.kitOne K (.ref A.TooLess) (.ref A.NoText)=some false
 Q6:PySem.W.kitOne K (.ref A.TooLess) (.ref A.NoRow)=some false
 Q7:PySem.W.kitOne K (.ref A.TooLess) (.type "ValueError")=some true
def Adr.at (A:Adr):Kd→Addr
 | .plain=>A.Plain | .below=>A.Below | .balanced=>A.Balanced | .growing=>A.Growing | .falling=>A.Falling | .pairs=>A.Pairs
def zO (A:Adr) (k:Kd) (n:Int):Dt:=.way (A.at k) k.fld n
def xP (A:Adr) (k:Kd) (g:Int→Int→Int):DSp:=fun ds Q=>∃ n p,ds=[zO A k n,.int p]∧k.ok n∧Q (.int (g n p))
def vJ (A:Adr) (k:Kd) (g:Int→Int→Nm):DSp:=fun ds Q=>∃ n p,ds=[zO A k n,.int p]∧k.ok n∧Q (g n p).dt
def UF:DSp:=fun ds Q=>∃ o p,ds=[o,p]∧Q (.int 0)
def Ri:DSp:=fun ds Q=>∃ o,ds=[o]∧Q (.int 0)
def Rh:DSp:=fun ds Q=>∃ o,ds=[o]∧Q (.tup [.int 0,.int 0])
def Rj (k:Kd):DSp:=fun ds Q=>∃ o,ds=[o]∧Q k.zero.dt
theorem lE {K:PySem.W.Frag} {mg:Str→Option Value} {A:Adr} (T:Txt K mg A) (k:Kd):tq K (A.at k):=by
 cases k
 ·exact T.OQ
 ·exact T.OR
 ·exact T.OS
 ·exact T.OT
 ·exact T.OP
 ·exact T.OU
theorem kiF {K:PySem.W.Frag} {mg:Str→Option Value} {A:Adr} (T:Txt K mg A) (k:Kd):PySem.W.kitOne K (.ref (A.at k)) (.ref A.Falling)=some k.isF:=by
 cases k
 ·exact T.QO
 ·exact T.QP
 ·exact T.QQ
 ·exact T.QR
 ·exact T.QM
 ·exact T.QS
def Yv (A:Adr):DSp:=fun ds Q=>∃ k n r,ds=[zO A k n,zB r]∧k.ok n∧r.length≤1000∧Q (.bl (oU k n r))
def dF (A:Adr):DSp:=fun ds Q=>∃ k n r,ds=[zO A k n,zB r]∧k.ok n∧r.length≤1000∧∀ b:Bool,(b=true↔∀ p,p<r.length→k.low n p≤r.getD p 0∧r.getD p 0≤k.high n p)→Q (.bl b)
def kb (A:Adr):DSp:=fun ds Q=>∃ n r,ds=[zO A .falling n,zB r]∧Kd.falling.ok n∧r.length≤1000∧∀ b:Bool,(b=true↔∀ p,p+1<r.length→r.getD (p+1) 0=n→r.getD p 0=0)→Q (.bl b)
theorem Yk (k:Kd):(("low":Str) == k.fld)=false:=by cases k <;> decide +kernel
theorem fZ (k:Kd):(("high":Str) == k.fld)=false:=by cases k <;> decide +kernel
def dq (A:Adr):DSp:=fun ds Q=>∃ k n t j,ds=[zO A k n,.int t,.int ((j:Nat):Int)]∧k.four=true∧k.ok n∧j≤100000∧Q (.tup [.int (sF k n j (.i t)),(sC k n j (.i t)).dt])
def dr (A:Adr):DSp:=fun ds Q=>∃ n d m j,ds=[zO A .pairs n,d,.int ((j:Nat):Int)]∧sW d=some m∧Kd.pairs.ok n∧Q (.tup [.int (sF .pairs n j m),(sC .pairs n j m).dt])
def l7 (A:Adr) (k:Kd):DSp:=fun ds Q=>∃ n m j,ds=[zO A k n,Nm.dt m,.int ((j:Nat):Int)]∧m.ty k∧k.ok n∧j≤100000∧Q (.tup [.int (sF k n j m),(sC k n j m).dt])
theorem lM (k:Kd):(("split":Str) == k.fld)=false:=by cases k <;> decide +kernel
theorem ZD (k:Kd):(("ratio":Str) == k.fld)=false:=by cases k <;> decide +kernel
theorem v9 (k:Kd):(("nought":Str) == k.fld)=false:=by cases k <;> decide +kernel
theorem Yl (k:Kd):(("has":Str) == k.fld)=false:=by cases k <;> decide +kernel
def NF (A:Adr) (k:Kd) (R:Addr→Prop):Prop:=False
theorem fu {A:Adr} {k:Kd} {R R':Addr→Prop} (h:∀ C,R C→R' C) (z:NF A k R):NF A k R':=z.elim
def Yx (A:Adr):DSp:=fun ds Q=>∃ n s,ds=[zO A .falling n,yT s]∧Kd.falling.ok n∧(s.1=true→0<s.2)∧Q (.lst ((chg n s).map chD))
def nv (A:Adr):DSp:=fun ds Q=>∃ n l,∃ p:Nat,ds=[zO A .falling n,zB l,.int p]∧Kd.falling.ok n∧p<l.length∧Q (Th (yr n (hf l) p))
def l_ (A:Adr):DSp:=fun ds Q=>∃ n l s,ds=[zO A .falling n,zB l,yT s]∧Kd.falling.ok n∧s.2<l.length∧Can n s (hf l)∧∀ m:Int,1≤m→Oft n s (hf l) m→Q (.int m)
def Rk (A:Adr):ASp:=fun d0 es0 ds Q=>∃ n l s m,d0=zO A .falling n∧es0=l.map Dt.int∧ds=[yT s,.int m]∧Kd.falling.ok n∧(s.1=true→0<s.2)∧s.2≤5000∧∀ l',l'.length=max l.length (s.2+2)→(∀ i,hf l' i=hf l i+m*dlt n s i)→Q (l'.map Dt.int)
def kf (A:Adr):yn:=fun ds Q R=>∃ k n h,ds=[zO A k n,zB h]∧k.ok n∧(NF A k R∨(k=.falling∧(∃ z∈h,z<0)∧R A.TooLess)∨(k=.falling∧(∀ z∈h,0≤z)∧Q .non))
def Yu (A:Adr):yn:=fun ds Q R=>∃ k n h,ds=[zO A k n,zB h]∧k.ok n∧h.length≤1000∧(NF A k R∨(k=.falling∧(∃ z∈h,z<0)∧R A.TooLess)∨(k=.falling∧(∀ z∈h,0≤z)∧pot n h≤15000000∧∀ ss r,Rn n h ss r→Q (.tup [.lst (ss.map yT),zB r])))
def qE (A:Adr):yn:=fun ds Q R=>∃ k n h,ds=[zO A k n,zB h]∧k.ok n∧h.length≤1000∧(NF A k R∨(k=.falling∧(∃ z∈h,z<0)∧R A.TooLess)∨(k=.falling∧(∀ z∈h,0≤z)∧pot n h≤15000000∧∀ ss r,Rn n h ss r→Q (zB r)))
def Yw (A:Adr):yn:=fun ds Q R=>∃ k n ts,ds=[zO A k n,vN ts]∧k.five=true∧k.ok n∧(∀ t∈ts,tot k t)∧ts.length≤20000∧((∃ J,Fin k n ts J∧J≤50000∧Q (.tup [zB (xn k n ts J),.lst (vF k n ts (J+1))]))∨(y6 k (cAt k n ts ts.length)=false∧R A.TooLess))
def rq (A:Adr):yn:=fun ds Q R=>∃ k n ts,ds=[zO A k n,vN ts]∧k.five=true∧k.ok n∧(∀ t∈ts,tot k t)∧ts.length≤20000∧((∃ J,Fin k n ts J∧J≤50000∧Q (zB (dQ k n ts J)))∨(y6 k (cAt k n ts ts.length)=false∧R A.TooLess))
def dE (A:Adr):DSp:=fun ds Q=>∃ k n,∃ rs:List (List Int),ds=[zO A k n,.lst (rs.map zB)]∧k.ok n∧(∀ r∈rs,Legal k n r∧r.length≤1000)∧Q .non
def l8:DSp:=fun ds Q=>∃ a b,ds=[vN a,vN b]∧a.length≤1000∧b.length≤1000∧Q (vN (vz a b))
def nw:DSp:=fun ds Q=>∃ a f,ds=[zB a,Nm.dt f]∧a.length≤1000∧(-1000000≤f.re∧f.re≤1000000∧-1000000≤f.im∧f.im≤1000000)∧Q (vN (wJ a f))
def l6 (A:Adr):yn:=fun ds Q R=>∃ k n ts b,ds=[zO A k n,vN ts]∧k.ok n∧ts.length≤900∧(∀ t∈ts,tot k t)∧(∀ t∈ts,t.re.natAbs≤2 ^ b∧t.im.natAbs≤2 ^ b)∧7≤b∧b≤1000∧(k=.falling→∃ h,ts=h.map Nm.i∧(∀ z∈h,0≤z)∧pot n h≤15000000)∧(∀ r,Legal k n r→zo k n r=ya k n ts→r.length≤ts.length+4*b+60→Q (zB r))∧(rL k→(ya k n ts).re<0→R A.TooLess)
def nA (A:Adr):yn:=fun ds Q R=>∃ k n a b,ds=[zO A k n,zB a,zB b]∧k.ok n∧Legal k n a∧Legal k n b∧a.length≤200∧b.length≤200∧(∀ r,Legal k n r→zo k n r=(zo k n a).add ((zo k n b).mul (.i (-1)))→r.length≤400→Q (zB r))∧(qk k→(zo k n a).re<(zo k n b).re→R A.TooLess)
def nB (A:Adr):yn:=fun ds Q R=>∃ r,∃ p:Nat,ds=[zB r,.int p]∧r.length≤1000∧p≤1000∧(∀ l:Nat,p<l→l<r.length→(∀ i,p<i→i<l→hf r i≤0)→0<hf r l→Q (.int l))∧((∀ i,p<i→hf r i≤0)→R A.TooLess)
def dB (A:Adr):ASp:=fun d0 es0 ds Q=>∃ n r,∃ l:Nat,d0=zO A .falling n∧es0=r.map Dt.int∧ds=[.int l]∧Kd.falling.ok n∧1≤l∧l<r.length∧r.length≤1000∧∀ r',r'.length=r.length→(∀ i,hf r' i=hf r i+yw (lnd n l) i)→Q (r'.map Dt.int)
def Ys (A:Adr):yn:=fun ds Q R=>∃ n r o,ds=[zO A .falling n,zB r]∧Kd.falling.ok n∧r.length≤1000∧(∀ i,-n≤hf r i∧hf r i≤n)∧(∀ i,hf r i≤o i)∧(∀ p,p<r.length→sm (wf n) o p<wf n p)∧(∀ r',r'.length=r.length→hw n r'=hw n r→(∀ z∈r',0≤z∧z≤n+1)→Q (zB r'))∧(hw n r<0→R A.TooLess)
def dm (A:Adr):DSp:=fun ds Q=>∃ k n,ds=[.int (Kd.num k),.int n]∧k.ok n∧Q (zO A k n)
theorem Sg (i:Int):∃ k:Kd,k.num=i.fmod 6:=by
 have a0:=Int.fmod_nonneg_of_pos i (show (0:Int)<6 by decide)
 have a1:=Int.fmod_lt_of_pos i (show (0:Int)<6 by decide)
 rcases (by omega:i.fmod 6=0∨i.fmod 6=1∨i.fmod 6=2∨i.fmod 6=3∨i.fmod 6=4∨i.fmod 6=5) with e | e | e | e | e | e <;> rw [e]
 ·exact ⟨.plain,rfl⟩
 ·exact ⟨.below,rfl⟩
 ·exact ⟨.balanced,rfl⟩
 ·exact ⟨.growing,rfl⟩
 ·exact ⟨.falling,rfl⟩
 ·exact ⟨.pairs,rfl⟩
def mX (A:Adr):DSp:=fun ds Q=>∃ k n a b,ds=[zO A k n,zB a,zB b]∧k.ok n∧Legal k n a∧Legal k n b∧a.length≤200∧b.length≤200∧(∀ r,Legal k n r→zo k n r=(zo k n a).add ((zo k n b).mul (.i (-1)))→r.length≤400→Q (.tup [.lst [],zB r]))∧(qk k→(zo k n a).re<(zo k n b).re→Q (.tup [tl,.non]))
def dz (A:Adr):DSp:=fun ds Q=>∃ C,ds=[.exc C]∧C=A.TooLess∧Q tl
def l9 (A:Adr):DSp:=fun ds Q=>∃ k n a b,ds=[.int (Kd.num k),.int n,zO A k n,zB a,zB b]∧k.ok n∧Legal k n a∧Legal k n b∧a.length≤100∧b.length≤100∧Q (.bl true)
section
variable {P:Program} {w:World} {K:PySem.W.Frag} {mg:Str→Option Value} {base:Heap} {f:Addr} {fd:FuncData} {A:Adr}
abbrev wC:Stmt:=top 59
theorem qQ:zh ["_law_cell"] ["_law_cell"] (defScope wC):=by walk_at "sc"
theorem q9 (T:Txt K mg A) (F:Fun K "_law_mixed" "_law_mixed" wC f fd):FnOk P w K mg base CX0 1 f fd ["_law_cell"] (zr K (pR)):=by
 refine okD F qQ (by walk_at "ln") fun _ _ _ _ _ _ hr ds Q h=>?_
 obtain ⟨z,rfl,q⟩:=h
 refine ⟨_,(ze (zj (zi xL (zi yf (dv 0) zc) zc))),?_⟩
 walk_at "rd"
 exact q _ (Int.fmod_nonneg_of_pos _ (by decide))
abbrev vq:Stmt:=top 60
theorem sc_law_pick:zh ["_law_cell","_law_mixed_here","_law_kind","_law_rest","_law_some"] ["_law_cell"] (defScope vq):=by walk_at "sc"
theorem oI (T:Txt K mg A) (G__law_mixed:DOk P w K mg base 1 "_law_mixed" (pR)) (F:Fun K "_law_pick" "_law_pick" vq f fd):FnOk P w K mg base CX0 2 f fd ["_law_cell"] (zr K (du)):=by
 refine okD F sc_law_pick (by walk_at "ln") fun _ _ _ _ _ _ hr ds Q h=>?_
 obtain ⟨z,rfl,q⟩:=h
 refine ⟨_,(zf (zq (i:=1) sc_law_pick.nd rfl (Or.inl rfl) (zk G__law_mixed (hr.mono (by decide)) rfl (za (dv 0) zd)))
 (zf (zq (i:=2) sc_law_pick.nd rfl (Or.inl rfl) (zi xL (dv 1) zc))
 (zf (zq (i:=3) sc_law_pick.nd rfl (Or.inl rfl) (zi wa (dv 1) zc))
 (zf (zq (i:=4) sc_law_pick.nd rfl (Or.inl rfl) (zi xL (zi wa (dv 3) zc) zc))
 (zV (zy (zp (z6 hr) (zi xL (dv 3) zc) zc (zm _)) (ze (zq (i:=4) sc_law_pick.nd rfl (Or.inl rfl) (zi xL (zi wa (dv 3) zc) zc))) zn)
 (zf (zy (zp (z6 hr) (dv 2) zc (zm _)) (ze (zj (zx (za (dv 2) (za (zi zT zc (zi xL (dv 4) zc)) zd))))) zn)
 (zf (zy (zp (sU) (dv 2) zc (zm _)) (ze (zj (zx (za (dv 2) (za (zi zT zc (zi xL (dv 4) zc)) zd))))) zn)
 (ze (zj (zx (za (dv 2) (za (zi zT zc (dv 4)) zd)))))))))))),?_⟩
 refine ⟨_,rfl,z,rfl,fun m hm=>?_⟩
 obtain ⟨k,hk⟩:=Sg m
 walk_at "rd"
 dsimp only
 rw [← hk]
 refine ⟨fun ρ=>∃ s:Int,ρ=[.some (.int z),.some (.int m),.some (.int k.num),.some (.int (m.fdiv 6)),.some (.int s)]∧0≤s∧s≤58,?_,?_⟩
 ·have b0:=Int.fmod_nonneg_of_pos ((m.fdiv 6).fdiv 2) (show (0:Int)<59 by decide)
  have b1:=Int.fmod_lt_of_pos ((m.fdiv 6).fdiv 2) (show (0:Int)<59 by decide)
  have c0:=Int.fmod_nonneg_of_pos ((m.fdiv 6).fdiv 2) (show (0:Int)<3 by decide)
  have c1:=Int.fmod_lt_of_pos ((m.fdiv 6).fdiv 2) (show (0:Int)<3 by decide)
  walk_at "rd"
  refine ifB (fun _=>?_) (fun _=>⟨_,rfl,by omega,by omega⟩)
  walk_at "rd"
  exact ⟨by omega,by omega⟩
 ·rintro ρ ⟨s,rfl,s0,s1⟩
  have c0:=Int.fmod_nonneg_of_pos s (show (0:Int)<30 by decide)
  have c1:=Int.fmod_lt_of_pos s (show (0:Int)<30 by decide)
  have d0:=Int.fmod_nonneg_of_pos s (show (0:Int)<9 by decide)
  have d1:=Int.fmod_lt_of_pos s (show (0:Int)<9 by decide)
  cases k
  all_goals walk_at "rd"
  ·exact q .plain _ ⟨by show (2:Int)≤_; omega,by show _≤(60:Int); omega⟩
  ·exact q .below _ ⟨by show (2:Int)≤_; omega,by show _≤(60:Int); omega⟩
  ·exact q .balanced _ ⟨by show (1:Int)≤_; omega,by show _≤(30:Int); omega⟩
  ·exact q .growing _ ⟨by show (2:Int)≤_; omega,by show _≤(60:Int); omega⟩
  ·exact q .falling _ ⟨by show (1:Int)≤_; omega,by show _≤(9:Int); omega⟩
  ·exact q .pairs _ ⟨by show (1:Int)≤_; omega,by show _≤(9:Int); omega⟩
abbrev xA:Stmt:=top 58
theorem sy:zh ["_law_script","_law_k"] ["_law_script","_law_k"] (defScope xA):=by walk_at "sc"
theorem sN (T:Txt K mg A) (F:Fun K "_law_cell_at" "_law_cell_at" xA f fd):FnOk P w K mg base CX0 1 f fd ["_law_script","_law_k"] (zr K (dG)):=by
 refine okD F sy (by walk_at "ln") fun _ _ _ _ _ _ hr ds Q h=>?_
 obtain ⟨ns,k,rfl,hk,q⟩:=h
 refine ⟨_,(zf (zy (zp (rW) (dv 1) (yk rfl T.len (dv 0)) (zm _)) (ze (zj (zu (dv 0) (dv 1) (fun _ _=>rfl)))) zn)
 (ze (zj zc))),?_⟩
 walk_at "rd"
 refine Sh (fun hlt=>?_) (fun _=>q 0)
 have hlt:k<(ns.map Dt.int).length:=of_decide_eq_true hlt
 rw [List.length_map] at hlt
 exact ⟨_,rfl,_,rfl,_,_,_,rfl,rfl,wr hk hlt,q _⟩
abbrev vp:Stmt:=top 62
theorem om:zh ["_law_kind","_law_by","_law_place"] ["_law_kind","_law_by","_law_place"] (defScope vp):=by walk_at "sc"
theorem oH (T:Txt K mg A) (F:Fun K "_law_span" "_law_span" vp f fd):FnOk P w K mg base CX0 1 f fd ["_law_kind","_law_by","_law_place"] (zr K (mV)):=by
 refine okD F om (by walk_at "ln") fun _ _ _ _ _ _ hr ds Q h=>?_
 obtain ⟨k,n,p,rfl,hn,q⟩:=h
 refine ⟨_,(zf (zy (zp (z6 hr) (dv 0) zc (zm _)) (ze (zj (zx (za (zi zM zc (dv 1)) (za (dv 1) zd))))) zn)
 (zf (zy (zp (z6 hr) (dv 0) zc (zm _)) (ze (zj (zx (za zc (za (zi zM (zi zT (dv 1) (dv 2)) zc) zd))))) zn)
 (zf (zy (zp (z6 hr) (dv 0) zc (zm _)) (ze (zj (zx (za zc (za (dv 1) zd))))) zn)
 (zf (zy (zp (z6 hr) (dv 0) zc (zm _)) (ze (zj (zx (za zc (za (zi yf (dv 1) (dv 1)) zd))))) zn)
 (ze (zj (zx (za zc (za (zi zM (dv 1) zc) zd))))))))),?_⟩
 obtain ⟨b1,b2⟩:=ww hn
 have e0:(0:Int) - n=-n:=by omega
 cases k
 all_goals
  repeat (first | (walk_at "rd1") | refine ⟨small (by omega) (by omega) _,?_⟩)
  first
  | exact q
  | (dsimp only; rw [e0]; exact q)
abbrev xz:Stmt:=top 63
theorem sc_law_figures:zh ["_law_kind","_law_by","_law_cells","_law_row","_law_place","_law_mixed_here","_law_low","_law_high","_law_some"] ["_law_kind","_law_by","_law_cells"] (defScope xz):=by walk_at "sc"
theorem sM (T:Txt K mg A) (G__law_mixed:DOk P w K mg base 1 "_law_mixed" (pR)) (G__law_span:DOk P w K mg base 1 "_law_span" (mV)) (F:Fun K "_law_figures" "_law_figures" xz f fd):FnOk P w K mg base CX0 2 f fd ["_law_kind","_law_by","_law_cells"] (zr K (kg)):=by
 refine okD F sc_law_figures (by walk_at "ln") fun _ _ _ _ _ _ hr ds Q h=>?_
 obtain ⟨k,n,cs,rfl,hn,hl,q⟩:=h
 refine ⟨_,(zf (xx (i:=3) sc_law_figures.nd rfl (Or.inl rfl) (rg zd))
 (zf (pI (j:=4) rfl sc_law_figures.nd rfl (Or.inl rfl) PassesOwn.never rfl T.range (yk rfl T.len (dv 2)) (zf (zq (i:=5) sc_law_figures.nd rfl (Or.inl rfl) (zk G__law_mixed (hr.mono (by decide)) rfl (za (zu (dv 2) (dv 4) (fun _ _=>rfl)) zd)))
 (zf (pH (i:=6) (j:=7) rfl sc_law_figures.nd rfl rfl (Or.inl rfl) (Or.inl rfl) (zk G__law_span (hr.mono (by decide)) rfl (za (dv 0) (za (dv 1) (za (dv 4) zd)))))
 (zf (zq (i:=8) sc_law_figures.nd rfl (Or.inl rfl) (zP (za zc (za (dv 7) (za (dv 6) (za (dv 7) (za zc zd)))))))
 (ze (zy (zp (rW) (zi xL (dv 5) zc) zc (zm _)) (ze (wU 3 (zu (dv 8) (zi xL (dv 5) zc) (fun _ _=>rfl)))) (ze (wU 3 (zi zT (dv 6) (zi xL (zi wa (dv 5) zc) (zi zT (zi zM (dv 7) (dv 6)) zc)))))))))))
 (zf (lO (j:=4) rfl sc_law_figures.nd rfl (Or.inl rfl) PassesOwn.never rfl T.range (za (zi zM (wm 3 rfl T.len) zc) (za zc (za (yj zc) zd))) (ze (zy (DW.dt (yd (zp (z6 hr) (dv 0) zc (zm _)) (z_ (zp (z6 hr) (pM 3 (dv 4) (fun _ _=>rfl)) (dv 1) (zm _))))) (ze (Ug 3 (zi zM (dv 4) zc) zc)) zn)))
 (zf (xN PassesOwn.never (DW.dt (yd (zp (sU) (wm 3 rfl T.len) zc (zm _)) (z_ (zp (z6 hr) (pM 3 (yj zc) (fun _ _=>rfl)) zc (zm _))))) (ze (eA 3)))
 (ze (t_ 3)))))),?_⟩
 have ll:=zE cs
 walk_at "rd"
 refine ⟨_,fun i ρ=>∃ (r:List Int) (v4 v5 v6 v7 v8:Sl),ρ=[.some (.int k.num),.some (.int n),.some (zB cs),.own (r.map Dt.int),v4,v5,v6,v7,v8]∧r.length=i∧∀ p,p<i→k.low n p≤r.getD p 0∧r.getD p 0≤k.high n p,rfl,by omega,by omega,⟨[],_,_,_,_,_,rfl,rfl,fun p hp=>absurd hp (Nat.not_lt_zero _)⟩,?_,?_⟩
 ·rintro i ρ' hi ⟨r,v4,v5,v6,v7,v8,rfl,hlr,hp⟩
  have hi':i<cs.length:=by omega
  refine ⟨_,rfl,_,rfl,_,_,_,rfl,rfl,xk hi',_,rfl,fun m hm=>?_⟩
  refine ⟨_,rfl,_,rfl,_,rfl,k,n,i,rfl,hn,_,_,rfl,?_⟩
  have m0:=Int.fmod_nonneg_of_pos m (show (0:Int)<9 by decide)
  obtain ⟨l1,l2⟩:=uN hn i
  walk_at "rd"
  refine ifB (fun h=>?_) (fun h=>?_)
  ·obtain ⟨f,ef,hf⟩:=fR hn m0 (of_decide_eq_true h) (p:=i)
   refine ⟨_,rfl,_,rfl,_,rfl,_,_,rfl,rfl,e7 (by decide),_,_,_,rfl,rfl,ef,by rw [zE]; omega,?_⟩
   obtain ⟨r',e1,e2,e3⟩:=Fg.snoc hlr hp hf
   exact ⟨r',_,_,_,_,_,by rw [e1]; rfl,e2,e3⟩
  ·have hp0:(0:Int)<k.high n i - k.low n i+1:=by omega
   have f0:=Int.fmod_nonneg_of_pos (m.fdiv 9) hp0
   have f1:=Int.fmod_lt_of_pos (m.fdiv 9) hp0
   walk_at "rd"
   refine ⟨(by show k.high n i - k.low n i+1≠0; omega),?_⟩
   walk_at "rd"
   refine ⟨by rw [zE]; omega,?_⟩
   obtain ⟨r',e1,e2,e3⟩:=Fg.snoc hlr hp (f:=k.low n i+(m.fdiv 9).fmod (k.high n i - k.low n i+1)) ⟨by omega,by omega⟩
   exact ⟨r',_,_,_,_,_,by rw [← e1]; rfl,e2,e3⟩
 ·rintro ρ' ⟨r0,v4,v5,v6,v7,v8,rfl,hl0,hp0⟩
  rw [Int.toNat_natCast,ll] at hl0 hp0
  have hF0:Fg k n r0:=fun p hp=>hp0 p (by omega)
  have l0:=zE r0
  walk_at "rd"
  refine ⟨_,_,fun i ρ=>∃ (r:List Int) (v4:Sl),ρ=[.some (.int k.num),.some (.int n),.some (zB cs),.own (r.map Dt.int),v4,v5,v6,v7,v8]∧r.length=r0.length∧Fg k n r∧Fl k n r i,rfl,by omega,by omega,by decide,by decide,⟨r0,_,rfl,rfl,hF0,fun _ q h1 h2=>by omega⟩,?_,?_⟩
  ·rintro i ρ' hi ⟨r,v4,rfl,hr1,hF,hL⟩
   have lr:=zE r
   obtain ⟨p,hp⟩:∃ p:Nat,p+i+1=r0.length:=⟨r0.length - 1 - i,by omega⟩
   have ep:((List.map Dt.int r0).length:Int) - 1 - i=p:=by omega
   rw [ep]
   have h0:0<p:=by omega
   have done:(k.isF=true→r.getD p 0≠n∨r.getD (p - 1) 0=0)→Fl k n r (i+1):=fun hz hk q h1 h2 h3=>by
    rcases (by omega:r.length≤q+1+i∨q+1=p) with z | z
    ·exact hL hk q z h2 h3
    ·subst z
     rcases hz hk with hz | hz
     ·exact absurd h3 hz
     ·exact hz
   by_cases hk:k=.falling
   ·subst hk
    refine ⟨_,rfl,rfl,rfl,_,rfl,ifT rfl ?_⟩
    refine ⟨_,rfl,_,rfl,_,_,rfl,wr (by omega) (by omega),_,rfl,rfl,rfl,_,rfl,?_⟩
    rw [Int.toNat_natCast]
    refine ifB (fun h4=>?_) (fun h4=>⟨r,_,rfl,hr1,hF,done fun _=>.inl (sT h4)⟩)
    refine ⟨_,rfl,_,rfl,_,_,rfl,rfl,_,_,rfl,Zs (by omega) (by rw [zE]; omega),?_⟩
    have e1:((p:Int) - 1).toNat=p - 1:=by omega
    rw [e1,xJ]
    refine ⟨r.set (p - 1) 0,_,rfl,by rw [List.length_set]; exact hr1,hF.put hn _,fun hk q h1 h2 h3=>?_⟩
    rw [List.length_set] at h1 h2
    rcases (by omega:r.length≤q+1+i∨q+1=p) with z | z
    ·exact (hL.put hn (show p - 1+i<r.length by omega)) hk q (by rw [List.length_set]; exact z) (by rw [List.length_set]; exact h2) h3
    ·subst z
     exact yA (by omega)
   ·have en:eqD (.int k.num) (.int 4)=false:=by cases k <;> first | rfl | exact absurd rfl hk
    exact ⟨_,rfl,rfl,rfl,_,rfl,ifF en (ifF rfl ⟨r,_,rfl,hr1,hF,done fun h=>absurd (by cases k <;> first | rfl | cases h) hk⟩)⟩
  ·rintro ρ' ⟨r,v4,rfl,hr1,hF,hL⟩
   refine nC rfl ?_
   have:=vM r
   have hg:Lg k n r:=⟨hF,fun hk q h1 h2=>hL hk q (by omega) h1 h2⟩
   exact ⟨_,rfl,q _ hg.trim (by omega)⟩
abbrev xK:Stmt:=top 67
theorem sc_law_two:zh ["_law_script","_law_kind","_law_by","_law_most","_law_cells","_law_one"] ["_law_script","_law_kind","_law_by","_law_most"] (defScope xK):=by walk_at "sc"
theorem n8 (T:Txt K mg A) (G__law_figures:DOk P w K mg base 2 "_law_figures" (kg)) (F:Fun K "_law_two" "_law_two" xK f fd):FnOk P w K mg base CX0 3 f fd ["_law_script","_law_kind","_law_by","_law_most"] (zr K (Yt)):=by
 refine okD F sc_law_two (by walk_at "ln") fun _ _ _ _ _ _ hr ds Q h=>?_
 obtain ⟨ns,k,n,m,rfl,hn,hns,m0,m1,q⟩:=h
 refine ⟨_,(zf (zq (i:=4) sc_law_two.nd rfl (Or.inr rfl) (ng (dv 0) (pK zc) (pK (zi zT zc (zi yf zc (dv 3))))))
 (zf (zq (i:=5) sc_law_two.nd rfl (Or.inl rfl) (zk G__law_figures (hr.mono (by decide)) rfl (za (dv 1) (za (dv 2) (za (DF.de (wV (osc:=defScope xK) (N0:=["_law_script","_law_kind","_law_by","_law_most","_law_cells","_law_one"]) (bs:=["_law_k"]) (caps:=["_law_cells"]) (js:=[4]) rfl (by decide +kernel) rfl rfl rfl (qw rfl T.range (za zc (za (yk rfl T.len (dv 4)) (za zc zd)))) (fun _ _ _ _ _=>(zR (i:=0) (show List.Nodup [("_law_k":Str),("_law_cells":Str)] by decide +kernel) rfl (Or.inl (lookup_relabel_local rfl)) (.inl rfl))) tV (fun _ _ _ _ _=>pN) (fun _ _ _ _ _=>(zu (dv 1) (dv 0) (fun _ _=>rfl))))) zd)))))
 (ze (zj (zx (za (dv 5) (za (zk G__law_figures (hr.mono (by decide)) rfl (za (dv 1) (za (dv 2) (za (DF.de (wV (osc:=defScope xK) (N0:=["_law_script","_law_kind","_law_by","_law_most","_law_cells","_law_one"]) (bs:=["_law_k"]) (caps:=["_law_cells"]) (js:=[4]) rfl (by decide +kernel) rfl rfl rfl (qw rfl T.range (za zc (za (yk rfl T.len (dv 4)) (za zc zd)))) (fun _ _ _ _ _=>(zR (i:=0) (show List.Nodup [("_law_k":Str),("_law_cells":Str)] by decide +kernel) rfl (Or.inl (lookup_relabel_local rfl)) (.inl rfl))) tV (fun _ _ _ _ _=>pN) (fun _ _ _ _ _=>(zu (dv 1) (dv 0) (fun _ _=>rfl))))) zd)))) zd))))))),?_⟩
 obtain ⟨cs,ec,lc,_⟩:=eW ns (some 1) (some (1+2*m))
 have lcs:=zE cs
 have lm:=ZR (xs:=ns.map Dt.int) m0
 rw [ec,lcs] at lm
 have every:∀ (st:Int) (ρ:DS) (Q':Dt→Prop),0≤st→st≤1→ρ[4]? = some (.some (.lst (cs.map Dt.int)))→(∀ zs:List Int,zs.length≤63→zs.length≤m.toNat→Q' (zB zs))→wX [4] (Yo (lV (dC (Dt.int st)) (lV (ST (ni 4)) (lV (dC (Dt.int 2)) SL)))) mM tj (dIx (ni 1) (ni 0)) ρ Q':=fun st ρ Q' s0 s1 e4 q'=>by
  have e5:vk ρ [4]=[.some (.lst (cs.map Dt.int))]:=by
   unfold vk
   show [match ρ[4]? with | some (Sl.some d)=>Sl.some d | _=>Sl.none]=_
   rw [e4]
  refine ⟨_,e4,_,rfl,st,_,rfl,by omega,by omega,by omega,by omega,fun i es=>∃ zs:List Int,es=zs.map Dt.int∧zs.length=i,⟨[],rfl,rfl⟩,?_,?_⟩
  ·rintro i e es hi rfl ⟨zs,rfl,hz⟩
   refine ⟨_,rfl,?_⟩
   show dIx (ni 1) (ni 0) ([Sl.some (Dt.int (st+2*i))]++vk ρ [4]) (fun y=>∃ zs':List Int,List.map Dt.int zs++[y]=zs'.map Dt.int∧zs'.length=i+1)
   rw [e5]
   refine ⟨_,rfl,_,rfl,_,_,_,rfl,rfl,wr (by omega) (by omega),?_⟩
   exact ⟨zs++[_],uh zs _,by rw [List.length_append,hz]; rfl⟩
  ·rintro es ⟨zs,rfl,hz⟩
   exact q' zs (by omega) (by omega)
 refine ⟨_,rfl,_,rfl,_,rfl,_,_,rfl,rfl,Zl (by decide),_,_,rfl,rfl,_,rfl,_,rfl,?_⟩
 rw [ec]
 refine ⟨_,rfl,_,rfl,every 0 _ _ (by decide) (by decide) rfl fun z1 h1 h1m=>?_⟩
 refine ⟨k,n,z1,rfl,hn,by omega,fun a hLa hla=>?_⟩
 refine ⟨_,rfl,_,rfl,_,rfl,every 1 _ _ (by decide) (by decide) rfl fun z2 h2 h2m=>?_⟩
 refine ⟨k,n,z2,rfl,hn,by omega,fun b hLb hlb=>?_⟩
 exact ⟨rfl,q a b hLa hLb (by omega) (by omega) (by omega) (by omega)⟩
abbrev vw:Stmt:=top 16
theorem ou:zh ["value"] ["value"] (defScope vw):=by walk_at "sc"
theorem oM (T:Txt K mg A) (F:Fun K "is_whole" "is_whole" vw f fd):FnOk P w K mg base CX0 1 f fd ["value"] (zr K (y9)):=by
 refine okD F ou (by walk_at "ln") fun _ _ _ _ _ _ hr ds Q h=>?_
 obtain ⟨d,b,rfl,hw,q⟩:=h
 refine ⟨_,(ze (zj (vE (uY (T:=.int) T.kt T.isinstance T.n_int PyProof.Rows.boot_int (dv 0)) (uX (eM (uY (T:=.bool) T.kt T.isinstance T.n_bool PyProof.Rows.boot_bool (dv 0))))))),?_⟩
 cases d <;> cases hw
 all_goals
  walk_at "rd"
  exact q
abbrev uB:Stmt:=top 25
theorem nQ:zh ["number","least","most"] ["number","least","most"] (defScope uB):=by walk_at "sc"
theorem mf (T:Txt K mg A) (G_is_whole:DOk P w K mg base 1 "is_whole" (y9)) (F:Fun K "bounded" "bounded" uB f fd):FnOk P w K mg base CX0 2 f fd ["number","least","most"] (zr K (yP)):=by
 refine okD F nQ (by walk_at "ln") fun _ _ _ _ _ _ hr ds Q h=>?_
 obtain ⟨n,lo,hi,rfl,h1,h2,q⟩:=h
 refine ⟨_,(zf (zy (DW.dt (ua (xq (zX (zk G_is_whole (hr.mono (by decide)) rfl (za (dv 0) zd)))) (ua (zp (rW) (dv 0) (dv 1) (zm _)) (uU (zp (sU) (dv 0) (dv 2) (zm _)))))) (ze ub) zn)
 (ze (zj (dv 0)))),?_⟩
 walk_at "rd"
 rw [decide_eq_false (by omega:¬ n<lo)]
 walk_at "rd"
 rw [decide_eq_false (by omega:¬ hi<n)]
 walk_at "rd"
 exact q
abbrev y0:Stmt:=inClass (top 27) 0
theorem rE:zh ["self","base"] ["self","base"] (defScope y0):=by walk_at "sc"
theorem rP (T:Txt K mg A) (G_bounded:DOk P w K mg base 2 "bounded" (yP)) (F:Fun K "__init__" "Plain.__init__" y0 f fd):FnOk P w K mg base CX0 3 f fd ["self","base"] (xu A.Plain "base" (Kd.ok .plain)):=by
 refine w_ F rE T.QB T.Pj (fun cdv A outer s H E hr=>?_)
 obtain ⟨te,p,l⟩:=((zk G_bounded (hr.mono (by decide)) rfl (za (dv 1) (za zc (za zc zd)))):DE (yu CX0 P w K mg base ["self","base"] "Plain.__init__" (defScope y0) f cdv A outer s H E).nox _ _)
 refine ⟨te,_,xZ (uH (pv 0) p rfl),l,fun i hi=>?_⟩
 exact ⟨_,rfl,_,_,_,rfl,hi.1,hi.2,rfl⟩
abbrev y2:Stmt:=inClass (top 28) 0
theorem rJ:zh ["self","base"] ["self","base"] (defScope y2):=by walk_at "sc"
theorem rT (T:Txt K mg A) (G_bounded:DOk P w K mg base 2 "bounded" (yP)) (F:Fun K "__init__" "Below.__init__" y2 f fd):FnOk P w K mg base CX0 3 f fd ["self","base"] (xu A.Below "base" (Kd.ok .below)):=by
 refine w_ F rJ T.QC T.Pk (fun cdv A outer s H E hr=>?_)
 obtain ⟨te,p,l⟩:=((zk G_bounded (hr.mono (by decide)) rfl (za (dv 1) (za zc (za zc zd)))):DE (yu CX0 P w K mg base ["self","base"] "Below.__init__" (defScope y2) f cdv A outer s H E).nox _ _)
 refine ⟨te,_,xZ (uH (pv 0) p rfl),l,fun i hi=>?_⟩
 exact ⟨_,rfl,_,_,_,rfl,hi.1,hi.2,rfl⟩
abbrev yp:Stmt:=inClass (top 29) 0
theorem ur:zh ["self","half"] ["self","half"] (defScope yp):=by walk_at "sc"
theorem uK (T:Txt K mg A) (G_bounded:DOk P w K mg base 2 "bounded" (yP)) (F:Fun K "__init__" "Balanced.__init__" yp f fd):FnOk P w K mg base CX0 3 f fd ["self","half"] (xu A.Balanced "half" (Kd.ok .balanced)):=by
 refine w_ F ur T.QA T.Q9 (fun cdv A outer s H E hr=>?_)
 obtain ⟨te,p,l⟩:=((zk G_bounded (hr.mono (by decide)) rfl (za (dv 1) (za zc (za zc zd)))):DE (yu CX0 P w K mg base ["self","half"] "Balanced.__init__" (defScope yp) f cdv A outer s H E).nox _ _)
 refine ⟨te,_,xZ (uH (pv 0) p rfl),l,fun i hi=>?_⟩
 exact ⟨_,rfl,_,_,_,rfl,hi.1,hi.2,rfl⟩
abbrev yF:Stmt:=inClass (top 30) 0
theorem tw:zh ["self","first"] ["self","first"] (defScope yF):=by walk_at "sc"
theorem tI (T:Txt K mg A) (G_bounded:DOk P w K mg base 2 "bounded" (yP)) (F:Fun K "__init__" "Growing.__init__" yF f fd):FnOk P w K mg base CX0 3 f fd ["self","first"] (xu A.Growing "first" (Kd.ok .growing)):=by
 refine w_ F tw T.QD T.Pl (fun cdv A outer s H E hr=>?_)
 obtain ⟨te,p,l⟩:=((zk G_bounded (hr.mono (by decide)) rfl (za (dv 1) (za zc (za zc zd)))):DE (yu CX0 P w K mg base ["self","first"] "Growing.__init__" (defScope yF) f cdv A outer s H E).nox _ _)
 refine ⟨te,_,xZ (uH (pv 0) p rfl),l,fun i hi=>?_⟩
 exact ⟨_,rfl,_,_,_,rfl,hi.1,hi.2,rfl⟩
abbrev yG:Stmt:=inClass (top 31) 0
theorem tz:zh ["self","most"] ["self","most"] (defScope yG):=by walk_at "sc"
theorem tK (T:Txt K mg A) (G_bounded:DOk P w K mg base 2 "bounded" (yP)) (F:Fun K "__init__" "Falling.__init__" yG f fd):FnOk P w K mg base CX0 3 f fd ["self","most"] (xu A.Falling "most" (Kd.ok .falling)):=by
 refine w_ F tz T.Qq T.Qt (fun cdv A outer s H E hr=>?_)
 obtain ⟨te,p,l⟩:=((zk G_bounded (hr.mono (by decide)) rfl (za (dv 1) (za zc (za zc zd)))):DE (yu CX0 P w K mg base ["self","most"] "Falling.__init__" (defScope yG) f cdv A outer s H E).nox _ _)
 refine ⟨te,_,xZ (uH (pv 0) p rfl),l,fun i hi=>?_⟩
 exact ⟨_,rfl,_,_,_,rfl,hi.1,hi.2,rfl⟩
abbrev y1:Stmt:=inClass (top 32) 0
theorem rG:zh ["self","most"] ["self","most"] (defScope y1):=by walk_at "sc"
theorem rR (T:Txt K mg A) (G_bounded:DOk P w K mg base 2 "bounded" (yP)) (F:Fun K "__init__" "Pairs.__init__" y1 f fd):FnOk P w K mg base CX0 3 f fd ["self","most"] (xu A.Pairs "most" (Kd.ok .pairs)):=by
 refine w_ F rG T.Qu T.QE (fun cdv A outer s H E hr=>?_)
 obtain ⟨te,p,l⟩:=((zk G_bounded (hr.mono (by decide)) rfl (za (dv 1) (za zc (za zc zd)))):DE (yu CX0 P w K mg base ["self","most"] "Pairs.__init__" (defScope y1) f cdv A outer s H E).nox _ _)
 refine ⟨te,_,xZ (uH (pv 0) p rfl),l,fun i hi=>?_⟩
 exact ⟨_,rfl,_,_,_,rfl,hi.1,hi.2,rfl⟩
abbrev ux:Stmt:=top 61
theorem nO:zh ["_law_kind","_law_by"] ["_law_kind","_law_by"] (defScope ux):=by walk_at "sc"
theorem n6 (T:Txt K mg A) (Pm:KOk P w K mg base 3 "Plain" A.Plain "base" (Kd.ok .plain)) (Pn:KOk P w K mg base 3 "Below" A.Below "base" (Kd.ok .below)) (Po:KOk P w K mg base 3 "Balanced" A.Balanced "half" (Kd.ok .balanced)) (Pp:KOk P w K mg base 3 "Growing" A.Growing "first" (Kd.ok .growing)) (Pq:KOk P w K mg base 3 "Falling" A.Falling "most" (Kd.ok .falling)) (Pr:KOk P w K mg base 3 "Pairs" A.Pairs "most" (Kd.ok .pairs)) (F:Fun K "_law_way" "_law_way" ux f fd):FnOk P w K mg base CX0 5 f fd ["_law_kind","_law_by"] (zr K (dm A)):=by
 refine okD F nO (by walk_at "ln") fun _ _ _ _ _ _ hr ds Q h=>?_
 obtain ⟨k,n,rfl,hn,q⟩:=h
 refine ⟨_,(zf (zy (zp (z6 hr) (dv 0) zc (zm _)) (ze (zj (vf Pm (hr.mono (by decide)) rfl (za (dv 1) zd)))) zn)
 (zf (zy (zp (z6 hr) (dv 0) zc (zm _)) (ze (zj (vf Pn (hr.mono (by decide)) rfl (za (dv 1) zd)))) zn)
 (zf (zy (zp (z6 hr) (dv 0) zc (zm _)) (ze (zj (vf Po (hr.mono (by decide)) rfl (za (dv 1) zd)))) zn)
 (zf (zy (zp (z6 hr) (dv 0) zc (zm _)) (ze (zj (vf Pp (hr.mono (by decide)) rfl (za (dv 1) zd)))) zn)
 (zf (zy (zp (z6 hr) (dv 0) zc (zm _)) (ze (zj (vf Pq (hr.mono (by decide)) rfl (za (dv 1) zd)))) zn)
 (ze (zj (vf Pr (hr.mono (by decide)) rfl (za (dv 1) zd))))))))),?_⟩
 cases k
 all_goals
  walk_at "rd"
  exact ⟨hn,q⟩
abbrev vv:Stmt:=top 69
theorem ot:zh ["_law_kind","_law_one","_law_other"] ["_law_kind","_law_one","_law_other"] (defScope vv):=by walk_at "sc"
theorem oK (T:Txt K mg A) (F:Fun K "_law_less" "_law_less" vv f fd):FnOk P w K mg base CX0 1 f fd ["_law_kind","_law_one","_law_other"] (zr K (dA)):=by
 refine okD F ot (by walk_at "ln") fun _ _ _ _ _ _ hr ds Q h=>?_
 obtain ⟨k,a,b,rfl,ha,hb,q⟩:=h
 refine ⟨_,(zf (zy (zp (z6 hr) (dv 0) zc (zm _)) (ze (zj (zx (za (zi zM (zu (dv 1) zc (fun _ _=>rfl)) (zu (dv 2) zc (fun _ _=>rfl))) (za (zi zM (zu (dv 1) zc (fun _ _=>rfl)) (zu (dv 2) zc (fun _ _=>rfl))) zd))))) zn)
 (ze (zj (zi zM (dv 1) (dv 2))))),?_⟩
 by_cases hk:k=.pairs
 ·subst hk
  obtain ⟨x,y,rfl⟩:=ha
  obtain ⟨u,v,rfl⟩:=hb
  have e:(Nm.p x y).add ((Nm.p u v).mul (.i (-1)))=.p (x - u) (y - v):=by
   show Nm.p (x+(u*(-1) - v*0)) (y+(u*0+v*(-1)))=_
   congr 1 <;> omega
  rw [e] at q
  walk_at "rd"
  exact q
 ·obtain ⟨x,rfl⟩:=xt hk ha
  obtain ⟨u,rfl⟩:=xt hk hb
  have e:(Nm.i x).add ((Nm.i u).mul (.i (-1)))=.i (x - u):=by
   show Nm.i (x+u*(-1))=_
   congr 1; omega
  rw [e] at q
  refine ⟨_,rfl,rfl,rfl,_,rfl,ifF (by cases k <;> first | rfl | exact absurd rfl hk) ?_⟩
  walk_at "rd"
  exact q
abbrev vt:Stmt:=top 65
theorem oq:zh ["_law_kind","_law_by","_law_place","_law_here","_law_lower"] ["_law_kind","_law_by","_law_place","_law_here","_law_lower"] (defScope vt):=by walk_at "sc"
theorem oJ (T:Txt K mg A) (F:Fun K "_law_next" "_law_next" vt f fd):FnOk P w K mg base CX0 1 f fd ["_law_kind","_law_by","_law_place","_law_here","_law_lower"] (zr K (ka)):=by
 refine okD F oq (by walk_at "ln") fun _ _ _ _ _ _ hr ds Q h=>?_
 obtain ⟨k,n,j,lo,rfl,hn,hj,hlo,q⟩:=h
 refine ⟨_,(zf (zy (zp (z6 hr) (dv 0) zc (zm _)) (ze (zj (zx (za (zi zM (zi zM zc (zi yf (dv 1) (zu (dv 3) zc (fun _ _=>rfl)))) (zu (dv 3) zc (fun _ _=>rfl))) (za (zi zM (zu (dv 3) zc (fun _ _=>rfl)) (zi yf (dv 1) (zu (dv 3) zc (fun _ _=>rfl)))) zd))))) zn)
 (zf (zy (zp (z6 hr) (dv 0) zc (zm _)) (ze (zj (zi zT (zi yf (dv 1) (dv 3)) (dv 4)))) zn)
 (zf (zy (zp (z6 hr) (dv 0) zc (zm _)) (ze (zj (zi yf (zi zT (dv 1) (dv 2)) (dv 3)))) zn)
 (ze (zj (zi yf (zu (zP (za (dv 1) (za (zi zM zc (dv 1)) (za (zi zT (zi yf zc (dv 1)) zc) zd)))) (dv 0) (fun _ _=>rfl)) (dv 3))))))),?_⟩
 obtain ⟨b1,b2⟩:=ww hn
 have e0:(0:Int) - n=-n:=by omega
 cases k with
 | falling=>
  obtain rfl:=hlo rfl
  repeat (first | (walk_at "rd1") | refine ⟨vn (by omega) (by omega) _,?_⟩)
  exact q
 | pairs=>
  obtain ⟨x,y,e⟩:=wt2 (n:=n) j
  have e:wt .pairs n j=.p x y:=e
  have eq_:wt .pairs n (j+1)=.p (0 - n*x - y) (x - n*y):=by
   rw [yD rfl,e]
   show Nm.p (-n*x - 1*y) (-n*y+1*x)=_
   congr 1 <;> grind
  rw [eq_] at q
  rw [e]
  repeat (first | (walk_at "rd1") | refine ⟨vn (by omega) (by omega) _,?_⟩)
  exact q
 | growing=>
  obtain ⟨x,e⟩:=wtI (k:=.growing) (n:=n) (fun h=>nomatch h) j
  have eq_:wt .growing n (j+1)=.i ((n+j)*x):=by
   rw [yD rfl,e]
   rfl
  rw [eq_] at q
  rw [e]
  repeat (first | (walk_at "rd1") | refine ⟨vn (by omega) (by omega) _,?_⟩)
  exact q
 | plain=>
  obtain ⟨x,e⟩:=wtI (k:=.plain) (n:=n) (fun h=>nomatch h) j
  have eq_:wt .plain n (j+1)=.i (n*x):=by
   rw [yD rfl,e]
   rfl
  rw [eq_] at q
  rw [e]
  repeat (first | (walk_at "rd1") | refine ⟨vn (by omega) (by omega) _,?_⟩)
  exact q
 | below=>
  obtain ⟨x,e⟩:=wtI (k:=.below) (n:=n) (fun h=>nomatch h) j
  have eq_:wt .below n (j+1)=.i ((0 - n)*x):=by
   rw [yD rfl,e,e0]
   rfl
  rw [eq_] at q
  rw [e]
  repeat (first | (walk_at "rd1") | refine ⟨vn (by omega) (by omega) _,?_⟩)
  exact q
 | balanced=>
  obtain ⟨x,e⟩:=wtI (k:=.balanced) (n:=n) (fun h=>nomatch h) j
  have eq_:wt .balanced n (j+1)=.i ((2*n+1)*x):=by
   rw [yD rfl,e]
   rfl
  rw [eq_] at q
  rw [e]
  repeat (first | (walk_at "rd1") | refine ⟨vn (by omega) (by omega) _,?_⟩)
  exact q
abbrev xT:Stmt:=top 66
theorem sc_law_number:zh ["_law_kind","_law_by","_law_row","_law_here","_law_total","_law_lower","_law_place","_law_ahead"] ["_law_kind","_law_by","_law_row"] (defScope xT):=by walk_at "sc"
theorem rN (T:Txt K mg A) (G__law_next:DOk P w K mg base 1 "_law_next" (ka)) (F:Fun K "_law_number" "_law_number" xT f fd):FnOk P w K mg base CX0 2 f fd ["_law_kind","_law_by","_law_row"] (zr K (dw)):=by
 refine okD F sc_law_number (by walk_at "ln") fun _ _ _ _ _ _ hr ds Q h=>?_
 obtain ⟨k,n,r,rfl,hn,hl,hb,q⟩:=h
 refine ⟨_,(zf (zq (i:=3) sc_law_number.nd rfl (Or.inl rfl) zc)
 (zf (zq (i:=4) sc_law_number.nd rfl (Or.inl rfl) zc)
 (zV (zy (zp (z6 hr) (dv 0) zc (zm _)) (zf (zq (i:=3) sc_law_number.nd rfl (Or.inl rfl) (zx (za zc (za zc zd))))
 (ze (zq (i:=4) sc_law_number.nd rfl (Or.inl rfl) (zx (za zc (za zc zd)))))) zn)
 (zf (zq (i:=5) sc_law_number.nd rfl (Or.inl rfl) zc)
 (zf (pI (j:=6) rfl sc_law_number.nd rfl (Or.inl rfl) PassesOwn.never rfl T.range (yk rfl T.len (dv 2)) (zV (zy (zp (z6 hr) (dv 0) zc (zm _)) (ze (zq (i:=4) sc_law_number.nd rfl (Or.inl rfl) (zx (za (zi zT (zu (dv 4) zc (fun _ _=>rfl)) (zi yf (zu (dv 2) (dv 6) (fun _ _=>rfl)) (zu (dv 3) zc (fun _ _=>rfl)))) (za (zi zT (zu (dv 4) zc (fun _ _=>rfl)) (zi yf (zu (dv 2) (dv 6) (fun _ _=>rfl)) (zu (dv 3) zc (fun _ _=>rfl)))) zd))))) (ze (zq (i:=4) sc_law_number.nd rfl (Or.inl rfl) (zi zT (dv 4) (zi yf (zu (dv 2) (dv 6) (fun _ _=>rfl)) (dv 3))))))
 (zf (zq (i:=7) sc_law_number.nd rfl (Or.inl rfl) (dv 3))
 (zf (zq (i:=3) sc_law_number.nd rfl (Or.inl rfl) (zk G__law_next (hr.mono (by decide)) rfl (za (dv 0) (za (dv 1) (za (dv 6) (za (dv 3) (za (dv 5) zd)))))))
 (ze (zq (i:=5) sc_law_number.nd rfl (Or.inl rfl) (dv 7)))))))
 (ze (zj (dv 4)))))))),?_⟩
 have ll:=zE r
 refine ⟨fun ρ=>ρ=[.some (.int k.num),.some (.int n),.some (zB r),.some (wt k n 0).dt,.some (yL k n r 0).dt,.none,.none,.none],?_,?_⟩
 ·by_cases hk:k=.pairs
  ·subst hk
   exact ⟨_,rfl,rfl,rfl,_,rfl,ifT rfl ⟨rfl,rfl,rfl⟩⟩
  ·refine ⟨_,rfl,rfl,rfl,_,rfl,ifF (by cases k <;> first | rfl | exact absurd rfl hk) ?_⟩
   cases k <;> first | rfl | exact absurd rfl hk
 rintro ρ rfl
 refine ⟨_,rfl,_,rfl,_,fun i ρ=>∃ lo v6 v7,ρ=[.some (.int k.num),.some (.int n),.some (zB r),.some (wt k n i).dt,.some (yL k n r i).dt,.some lo,v6,v7]∧(k=.falling→lo=.int (wtF n i).1),rfl,by rw [ll]; omega,by rw [ll]; omega,⟨_,_,_,rfl,fun _=>rfl⟩,?_,?_⟩
 ·rintro i ρ' hi ⟨lo,v6,v7,rfl,hlo⟩
  have hi':i<r.length:=by omega
  have wb:=UJ hn (j:=i) (by omega)
  have m1:IntMulOk (r.getD i 0) (wt k n i).re:=fv (l4 hb i) wb.1 (by omega)
  have m2:IntMulOk (r.getD i 0) (wt k n i).im:=fv (l4 hb i) wb.2 (by omega)
  refine ⟨fun ρ=>ρ=[.some (.int k.num),.some (.int n),.some (zB r),.some (wt k n i).dt,.some (yL k n r (i+1)).dt,.some lo,.some (.int i),v7],?_,?_⟩
  ·by_cases hk:k=.pairs
   ·subst hk
    obtain ⟨x,y,ew⟩:=wt2 (n:=n) i
    obtain ⟨a,b,es⟩:=wsP (n:=n) (ns:=r) i
    have ew:wt .pairs n i=.p x y:=ew
    have est:yL .pairs n r (i+1)=.p (a+r.getD i 0*x) (b+r.getD i 0*y):=by
     unfold yL
     rw [es,ew]
     show Nm.p (a+(r.getD i 0*x - 0*y)) (b+(r.getD i 0*y+0*x))=_
     congr 1 <;> omega
    rw [ew] at m1 m2
    rw [ew,es,est]
    refine ⟨_,rfl,rfl,rfl,_,rfl,ifT rfl ?_⟩
    walk_at "rd"
    refine ⟨_,_,_,rfl,rfl,xk hi',?_⟩
    walk_at "rd"
    refine ⟨m1,?_⟩
    walk_at "rd"
    refine ⟨_,_,_,rfl,rfl,xk hi',?_⟩
    walk_at "rd"
    refine ⟨m2,?_⟩
    walk_at "rd"
    rfl
   ·obtain ⟨x,ew⟩:=wtI (n:=n) hk i
    obtain ⟨a,es⟩:=wsI (n:=n) (ns:=r) hk i
    have est:yL k n r (i+1)=.i (a+r.getD i 0*x):=by
     unfold yL
     rw [es,ew]
     rfl
    rw [ew] at m1
    rw [ew,es,est]
    refine ⟨_,rfl,rfl,rfl,_,rfl,ifF (by cases k <;> first | rfl | exact absurd rfl hk) ?_⟩
    exact ⟨_,rfl,_,rfl,_,rfl,_,_,_,rfl,rfl,xk hi',_,rfl,_,_,rfl,rfl,m1,_,_,rfl,rfl,rfl⟩
  ·rintro ρ rfl
   refine ⟨_,rfl,_,rfl,_,rfl,_,rfl,_,rfl,_,rfl,k,n,i,lo,rfl,hn,by omega,hlo,?_⟩
   refine ⟨_,rfl,_,_,_,rfl,fun hk=>?_⟩
   subst hk
   rfl
 ·rintro ρ' ⟨lo,v6,v7,rfl,_⟩
  rw [Int.toNat_natCast,ll]
  exact ⟨_,rfl,q⟩
abbrev zI:Stmt:=top 46
theorem sc_has_mosts_above_noughts_alone:zh ["way","row","place"] ["way","row"] (defScope zI):=by walk_at "sc"
theorem yI (T:Txt K mg A) (F:Fun K "has_mosts_above_noughts_alone" "has_mosts_above_noughts_alone" zI f fd):FnOk P w K mg base CX0 1 f fd ["way","row"] (zr K (kb A)):=by
 refine okD F sc_has_mosts_above_noughts_alone (by walk_at "ln") fun _ _ _ _ _ _ hr ds Q h=>?_
 obtain ⟨n,r,rfl,hn,hl,q⟩:=h
 refine ⟨_,(zf (o9 (j:=2) rfl sc_has_mosts_above_noughts_alone.nd rfl (Or.inl rfl) PassesOwn.never rfl T.range (za zc (za (yk rfl T.len (dv 1)) zd)) (ze (zy (DW.dt (yd (zp (z6 hr) (zu (dv 1) (dv 2) (fun _ _=>rfl)) (zJ (dv 0)) (zm _)) (z_ (zp (mj hr) (zu (dv 1) (zi zM (dv 2) zc) (fun _ _=>rfl)) zc (zm _))))) (ze (zj wx)) zn)))
 (ze (zj wx))),?_⟩
 walk_at "rd"
 have ll:=zE r
 refine ⟨_,_,fun i ρ=>∃ v,ρ=[.some (zO A .falling n),.some (zB r),v]∧∀ p:Nat,p<i→r.getD (p+1) 0=n→r.getD p 0=0,rfl,by decide,by decide,by omega,by omega,⟨_,rfl,fun p hp=>absurd hp (Nat.not_lt_zero _)⟩,?_,?_⟩
 ·rintro i ρ' hi ⟨v,rfl,hp⟩
  rw [ll] at hi
  have e1:(1+(i:Int)).toNat=i+1:=by omega
  have e2:(1+(i:Int) - 1).toNat=i:=by omega
  refine ⟨_,rfl,_,rfl,_,_,_,rfl,rfl,wr (by omega) (by omega),_,rfl,_,_,_,rfl,rfl,T.Qq,T.Qt,rfl,rfl,_,rfl,?_⟩
  rw [e1]
  refine ifB (fun h=>?_) (fun h=>ifF rfl ?_)
  ·refine ⟨_,rfl,_,rfl,_,_,rfl,rfl,_,_,_,rfl,rfl,wr (by omega) (by omega),rfl,rfl,_,rfl,?_⟩
   rw [e2]
   refine ifB (fun h'=>?_) (fun h'=>?_)
   ·refine q false ⟨fun z=>(Bool.false_ne_true z).elim,fun z=>?_⟩
    exact absurd (z i (by omega) (mi h)) (sT (Tq h'))
   ·refine ⟨.some (.int (1+i)),rfl,fun p hp'=>?_⟩
    rcases (by omega:p<i∨p=i) with z | z
    ·exact hp p z
    ·subst z
     exact fun _=>mi (Tr h')
  ·refine ⟨.some (.int (1+i)),rfl,fun p hp'=>?_⟩
   rcases (by omega:p<i∨p=i) with z | z
   ·exact hp p z
   ·subst z
    exact fun z=>absurd z (sT h)
 ·rintro ρ' ⟨v,rfl,hp⟩
  rw [ll] at hp
  exact q true ⟨fun _ p hp'=>hp p (by omega),fun _=>rfl⟩
abbrev uD:Stmt:=inClass (top 26) 1
theorem nS:zh ["self","place"] ["self","place"] (defScope uD):=by walk_at "sc"
theorem xl (T:Txt K mg A) (F:Fun K "low" "Way.low" uD f fd):FnOk P w K mg base CX0 1 f fd ["self","place"] (zr K (UF)):=by
 refine okD F nS (by walk_at "ln") fun _ _ _ _ _ _ hr ds Q h=>?_
 obtain ⟨o,p,rfl,q⟩:=h
 refine ⟨_,(ze (zj zc)),?_⟩
 exact q
abbrev xi:Stmt:=inClass (top 29) 1
theorem tE:zh ["self","place"] ["self","place"] (defScope xi):=by walk_at "sc"
theorem tM (T:Txt K mg A) (F:Fun K "low" "Balanced.low" xi f fd):FnOk P w K mg base CX0 1 f fd ["self","place"] (zr K (xP A .balanced (Kd.low .balanced))):=by
 refine okD F tE (by walk_at "ln") fun _ _ _ _ _ _ hr ds Q h=>?_
 obtain ⟨n,p,rfl,hn,q⟩:=h
 refine ⟨_,(ze (zj (yj (zJ (dv 0))))),?_⟩
 exact ⟨_,rfl,_,_,_,rfl,rfl,T.QA,T.Q9,_,rfl,q⟩
abbrev xW:Stmt:=inClass (top 27) 1
theorem rF:zh ["self","place"] ["self","place"] (defScope xW):=by walk_at "sc"
theorem rQ (T:Txt K mg A) (F:Fun K "high" "Plain.high" xW f fd):FnOk P w K mg base CX0 1 f fd ["self","place"] (zr K (xP A .plain (Kd.high .plain))):=by
 refine okD F rF (by walk_at "ln") fun _ _ _ _ _ _ hr ds Q h=>?_
 obtain ⟨n,p,rfl,hn,q⟩:=h
 refine ⟨_,(ze (zj (zi zM (zJ (dv 0)) zc))),?_⟩
 exact ⟨_,rfl,_,_,_,rfl,rfl,T.QB,T.Pj,_,_,rfl,rfl,q⟩
abbrev xY:Stmt:=inClass (top 28) 1
theorem rK:zh ["self","place"] ["self","place"] (defScope xY):=by walk_at "sc"
theorem rV (T:Txt K mg A) (F:Fun K "high" "Below.high" xY f fd):FnOk P w K mg base CX0 1 f fd ["self","place"] (zr K (xP A .below (Kd.high .below))):=by
 refine okD F rK (by walk_at "ln") fun _ _ _ _ _ _ hr ds Q h=>?_
 obtain ⟨n,p,rfl,hn,q⟩:=h
 refine ⟨_,(ze (zj (zi zM (zJ (dv 0)) zc))),?_⟩
 exact ⟨_,rfl,_,_,_,rfl,rfl,T.QC,T.Pk,_,_,rfl,rfl,q⟩
abbrev yX:Stmt:=inClass (top 29) 2
theorem ut:zh ["self","place"] ["self","place"] (defScope yX):=by walk_at "sc"
theorem uL (T:Txt K mg A) (F:Fun K "high" "Balanced.high" yX f fd):FnOk P w K mg base CX0 1 f fd ["self","place"] (zr K (xP A .balanced (Kd.high .balanced))):=by
 refine okD F ut (by walk_at "ln") fun _ _ _ _ _ _ hr ds Q h=>?_
 obtain ⟨n,p,rfl,hn,q⟩:=h
 refine ⟨_,(ze (zj (zJ (dv 0)))),?_⟩
 exact ⟨_,rfl,_,_,_,rfl,rfl,T.QA,T.Q9,q⟩
abbrev xg:Stmt:=inClass (top 30) 1
theorem tx:zh ["self","place"] ["self","place"] (defScope xg):=by walk_at "sc"
theorem tJ (T:Txt K mg A) (F:Fun K "high" "Growing.high" xg f fd):FnOk P w K mg base CX0 1 f fd ["self","place"] (zr K (xP A .growing (Kd.high .growing))):=by
 refine okD F tx (by walk_at "ln") fun _ _ _ _ _ _ hr ds Q h=>?_
 obtain ⟨n,p,rfl,hn,q⟩:=h
 refine ⟨_,(ze (zj (zi zM (zi zT (zJ (dv 0)) (dv 1)) zc))),?_⟩
 exact ⟨_,rfl,_,_,_,rfl,rfl,T.QD,T.Pl,_,rfl,_,_,rfl,rfl,_,_,rfl,rfl,q⟩
abbrev xh:Stmt:=inClass (top 31) 1
theorem tD:zh ["self","place"] ["self","place"] (defScope xh):=by walk_at "sc"
theorem tL (T:Txt K mg A) (F:Fun K "high" "Falling.high" xh f fd):FnOk P w K mg base CX0 1 f fd ["self","place"] (zr K (xP A .falling (Kd.high .falling))):=by
 refine okD F tD (by walk_at "ln") fun _ _ _ _ _ _ hr ds Q h=>?_
 obtain ⟨n,p,rfl,hn,q⟩:=h
 refine ⟨_,(ze (zj (zJ (dv 0)))),?_⟩
 exact ⟨_,rfl,_,_,_,rfl,rfl,T.Qq,T.Qt,q⟩
abbrev xX:Stmt:=inClass (top 32) 2
theorem rH:zh ["self","place"] ["self","place"] (defScope xX):=by walk_at "sc"
theorem rS (T:Txt K mg A) (F:Fun K "high" "Pairs.high" xX f fd):FnOk P w K mg base CX0 1 f fd ["self","place"] (zr K (xP A .pairs (Kd.high .pairs))):=by
 refine okD F rH (by walk_at "ln") fun _ _ _ _ _ _ hr ds Q h=>?_
 obtain ⟨n,p,rfl,hn,q⟩:=h
 refine ⟨_,(ze (zj (zi yf (zJ (dv 0)) (zJ (dv 0))))),?_⟩
 obtain ⟨h1,h2⟩:=ww hn
 exact ⟨_,rfl,_,_,_,rfl,rfl,T.Qu,T.QE,_,rfl,_,_,_,rfl,rfl,T.Qu,T.QE,_,_,rfl,rfl,small (by omega) (by omega) _,q⟩
abbrev yi:Stmt:=top 45
theorem sc_has_figures_alone:zh ["way","row","place","thing"] ["way","row"] (defScope yi):=by walk_at "sc"
theorem wO (T:Txt K mg A) (HLo:∀ k:Kd,MOk P w K mg base 1 (A.at k) "low" (xP A k (k.low))∧MOk P w K mg base 1 (A.at k) "high" (xP A k (k.high))) (F:Fun K "has_figures_alone" "has_figures_alone" yi f fd):FnOk P w K mg base CX0 2 f fd ["way","row"] (zr K (dF A)):=by
 refine okD F sc_has_figures_alone (by walk_at "ln") fun _ _ _ _ _ _ hr ds Q h=>?_
 obtain ⟨k,n,r,rfl,hn,hl,q⟩:=h
 refine ⟨_,(zf (uV (i:=2) (j:=3) rfl sc_has_figures_alone.nd rfl rfl (Or.inl rfl) (Or.inl rfl) PassesOwn.never rfl T.n_enumerate (za (dv 1) zd) (ze (zy (DW.dt (ua (zp (rW) (dv 3) (wl hr (dv 0) (za (dv 2) zd)) (zm _)) (uU (zp (sU) (dv 3) (wl hr (dv 0) (za (dv 2) zd)) (zm _))))) (ze (zj wx)) zn)))
 (ze (zj wx))),?_⟩
 obtain ⟨M1,M2⟩:=HLo k
 walk_at "rd"
 refine ⟨_,_,fun i ρ=>∃ v u,ρ=[.some (zO A k n),.some (zB r),v,u]∧∀ p:Nat,p<i→k.low n p≤r.getD p 0∧r.getD p 0≤k.high n p,rfl,rfl,⟨_,_,rfl,fun p hp=>absurd hp (Nat.not_lt_zero _)⟩,?_,?_⟩
 ·rintro i x ρ' hx ⟨v,u,rfl,hp⟩
  obtain ⟨rfl,hi⟩:=fM hx
  refine ⟨_,rfl,_,rfl,_,_,_,_,rfl,Yk k,M1.mono (by decide),_,rfl,n,i,rfl,hn,_,_,rfl,rfl,_,rfl,?_⟩
  refine ifB (fun h=>ifT rfl ?_) (fun h=>?_)
  ·refine q false ⟨fun z=>(Bool.false_ne_true z).elim,fun z=>?_⟩
   have:=z i hi
   have h:=of_decide_eq_true h
   omega
  ·refine ⟨_,rfl,_,rfl,_,_,_,_,rfl,fZ k,M2.mono (by decide),_,rfl,n,i,rfl,hn,_,_,rfl,rfl,_,rfl,?_⟩
   have h:=of_decide_eq_false h
   refine ifB (fun h'=>?_) (fun h'=>?_)
   ·refine q false ⟨fun z=>(Bool.false_ne_true z).elim,fun z=>?_⟩
    have:=z i hi
    have h':=of_decide_eq_true h'
    omega
   ·have h':=of_decide_eq_false h'
    refine ⟨.some (.int i),.some (.int (r.getD i 0)),rfl,fun p hp'=>?_⟩
    rcases (by omega:p<i∨p=i) with z | z
    ·exact hp p z
    ·subst z
     omega
 ·rintro ρ' ⟨v,u,rfl,hp⟩
  rw [zE] at hp
  exact q true ⟨fun _=>hp,fun _=>rfl⟩
abbrev xU:Stmt:=top 47
theorem rC:zh ["way","row"] ["way","row"] (defScope xU):=by walk_at "sc"
theorem rO (T:Txt K mg A) (G_has_mosts_above_noughts_alone:DOk P w K mg base 1 "has_mosts_above_noughts_alone" (kb A)) (G_has_figures_alone:DOk P w K mg base 2 "has_figures_alone" (dF A)) (F:Fun K "is_writing" "is_writing" xU f fd):FnOk P w K mg base CX0 3 f fd ["way","row"] (zr K (Yv A)):=by
 refine okD F rC (by walk_at "ln") fun _ _ _ _ _ _ hr ds Q h=>?_
 obtain ⟨k,n,r,rfl,hn,hl,q⟩:=h
 refine ⟨_,(zV (zy (DW.dt (yd (Ue (dv 1)) (z_ (zp (z6 hr) (zu (dv 1) (yj zc) (fun _ _=>rfl)) zc (zm _))))) (ze (zj wx)) zn)
 (zV (zy (DW.dt (yd (zX (ud T.isinstance T.QN (dv 0))) (z_ (xq (zX (zk G_has_mosts_above_noughts_alone (hr.mono (by decide)) rfl (za (dv 0) (za (dv 1) zd)))))))) (ze (zj wx)) zn)
 (ze (zj (zk G_has_figures_alone (hr.mono (by decide)) rfl (za (dv 0) (za (dv 1) zd))))))),?_⟩
 refine ⟨fun ρ=>ρ=[.some (zO A k n),.some (zB r)]∧(r=[]∨r.getD (r.length - 1) 0≠0),?_,?_⟩
 ·walk_at "rd"
  rcases zH r with rfl | ⟨l,z,rfl⟩
  ·exact ifF rfl (ifF rfl ⟨rfl,.inl rfl⟩)
  ·have ez:(l++[z]).getD ((l++[z]).length - 1) 0=z:=by rw [List.length_append]; simp [List.getD_eq_getElem?_getD]
   refine ifT (by simp) ⟨_,rfl,_,rfl,_,_,_,rfl,rfl,wZ,rfl,rfl,_,rfl,?_⟩
   by_cases hz:z=0
   ·refine ifT (eqI hz) ?_
    rw [pr (fun L=>by
     rcases L.end_ with h | h
     ·simp at h
     ·rw [ez] at h; exact h hz)] at q
    exact q
   ·refine ifF (neI hz) ⟨rfl,.inr (by rw [ez]; exact hz)⟩
 ·rintro ρ' ⟨rfl,hend⟩
  refine ⟨fun ρ=>ρ=[.some (zO A k n),.some (zB r)]∧(k.isF=true→∀ p,p+1<r.length→r.getD (p+1) 0=n→r.getD p 0=0),?_,?_⟩
  ·refine ⟨_,rfl,_,_,_,_,rfl,lE T k,kiF T k,_,rfl,?_⟩
   cases hk:k.isF with
   | false=>exact ifF rfl (ifF rfl ⟨rfl,fun z=>(Bool.false_ne_true z).elim⟩)
   | true=>
    have ek:k=.falling:=by cases k <;> first | rfl | cases hk
    subst ek
    refine ifT rfl ⟨_,rfl,_,rfl,n,r,rfl,hn,hl,fun b hb=>⟨_,rfl,?_⟩⟩
    cases b with
    | true=>exact ifF rfl ⟨rfl,fun _=>hb.mp rfl⟩
    | false=>
     refine ifT rfl ?_
     rw [pr (fun L=>Bool.false_ne_true (hb.mpr (L.fal rfl)))] at q
     exact q
  ·rintro ρ' ⟨rfl,hf⟩
   refine ⟨_,rfl,_,rfl,k,n,r,rfl,hn,hl,fun b hb=>?_⟩
   cases b with
   | true=>rw [lC ⟨hb.mp rfl,hf,hend⟩] at q; exact q
   | false=>rw [pr (fun L=>Bool.false_ne_true (hb.mpr L.fig))] at q; exact q
abbrev z8:Stmt:=top 48
theorem sc_held_to_be_writings:zh ["way","rows","row"] ["way","rows"] (defScope z8):=by walk_at "sc"
theorem x8 (T:Txt K mg A) (G_is_writing:DOk P w K mg base 3 "is_writing" (Yv A)) (F:Fun K "held_to_be_writings" "held_to_be_writings" z8 f fd):FnOk P w K mg base CX0 4 f fd ["way","rows"] (zr K (dE A)):=by
 refine okD F sc_held_to_be_writings (by walk_at "ln") fun _ _ _ _ _ _ hr ds Q h=>?_
 obtain ⟨k,n,rs,rfl,hn,hrs,q⟩:=h
 refine ⟨_,(ze (eB (j:=2) rfl sc_held_to_be_writings.nd rfl (Or.inl rfl) PassesOwn.never (dv 1) (ze (zy (xq (zX (zk G_is_writing (hr.mono (by decide)) rfl (za (dv 0) (za (dv 2) zd))))) (ze ub) zn)))),?_⟩
 refine ⟨_,rfl,_,fun i ρ=>∃ v,ρ=[.some (zO A k n),.some (.lst (rs.map zB)),v],rfl,⟨_,rfl⟩,?_,?_⟩
 ·rintro i e ρ' he ⟨v,rfl⟩
  obtain ⟨r,hm,rfl⟩:=List.mem_map.mp (List.mem_of_getElem? he)
  obtain ⟨hL,hl⟩:=hrs r hm
  refine ⟨_,rfl,_,rfl,k,n,r,rfl,hn,hl,_,rfl,?_⟩
  rw [lC hL]
  exact ifF rfl ⟨_,rfl⟩
 ·rintro ρ' ⟨v,rfl⟩
  exact q
abbrev uC:Stmt:=top 18
theorem nR:zh ["number"] ["number"] (defScope uC):=by walk_at "sc"
theorem mh (T:Txt K mg A) (G_is_whole:DOk P w K mg base 1 "is_whole" (y9)) (F:Fun K "as_pair" "as_pair" uC f fd):FnOk P w K mg base CX0 2 f fd ["number"] (zr K (vh)):=by
 refine okD F nR (by walk_at "ln") fun _ _ _ _ _ _ hr ds Q h=>?_
 obtain ⟨d,m,rfl,hm,q⟩:=h
 refine ⟨_,(zf (zy (zX (zk G_is_whole (hr.mono (by decide)) rfl (za (dv 0) zd))) (ze (zj (zx (za (dv 0) (za zc zd))))) zn)
 (ze (zj (dv 0)))),?_⟩
 obtain rfl:=yR hm
 cases m with
 | i n=>
  walk_at "rd"
  exact q
 | p a b=>
  walk_at "rd"
  exact q
abbrev qU:Stmt:=top 19
theorem sc_added:zh ["one","other","left","right"] ["one","other"] (defScope qU):=by walk_at "sc"
theorem ik (T:Txt K mg A) (G_is_whole:DOk P w K mg base 1 "is_whole" (y9)) (G_as_pair:DOk P w K mg base 2 "as_pair" (vh)) (F:Fun K "added" "added" qU f fd):FnOk P w K mg base CX0 3 f fd ["one","other"] (zr K (pS)):=by
 refine okD F sc_added (by walk_at "ln") fun _ _ _ _ _ _ hr ds Q h=>?_
 obtain ⟨d,e,m,n,rfl,hm,hn,q⟩:=h
 refine ⟨_,(zf (zy (DW.dt (yd (zX (zk G_is_whole (hr.mono (by decide)) rfl (za (dv 0) zd))) (z_ (zX (zk G_is_whole (hr.mono (by decide)) rfl (za (dv 1) zd)))))) (ze (zj (zi zT (dv 0) (dv 1)))) zn)
 (zf (zq (i:=2) sc_added.nd rfl (Or.inl rfl) (zk G_as_pair (hr.mono (by decide)) rfl (za (dv 0) zd)))
 (zf (zq (i:=3) sc_added.nd rfl (Or.inl rfl) (zk G_as_pair (hr.mono (by decide)) rfl (za (dv 1) zd)))
 (ze (zj (zx (za (zi zT (zu (dv 2) zc (fun _ _=>rfl)) (zu (dv 3) zc (fun _ _=>rfl))) (za (zi zT (zu (dv 2) zc (fun _ _=>rfl)) (zu (dv 3) zc (fun _ _=>rfl))) zd)))))))),?_⟩
 obtain rfl:=yR hm
 obtain rfl:=yR hn
 cases m <;> cases n
 all_goals
  walk_at "rd"
  exact q
abbrev vo:Stmt:=top 22
theorem ol:zh ["row","place"] ["row","place"] (defScope vo):=by walk_at "sc"
theorem oF (T:Txt K mg A) (F:Fun K "thing_at" "thing_at" vo f fd):FnOk P w K mg base CX0 1 f fd ["row","place"] (zr K (vI)):=by
 refine okD F ol (by walk_at "ln") fun _ _ _ _ _ _ hr ds Q h=>?_
 obtain ⟨xs,p,rfl,hp,q⟩:=h
 refine ⟨_,(zf (zy (zp (rW) (dv 1) (yk rfl T.len (dv 0)) (zm _)) (ze (zj (zu (dv 0) (dv 1) (fun _ _=>rfl)))) zn)
 (ze (zj zc))),?_⟩
 refine ⟨_,rfl,_,rfl,_,rfl,_,_,rfl,rfl,_,rfl,Sh (fun h=>?_) (fun h=>?_)⟩
 ·have h:p<(xs.length:Int):=of_decide_eq_true h
  have hl:p.toNat<xs.length:=by omega
  have e:((p.toNat:Nat):Int)=p:=Int.toNat_of_nonneg hp
  have:=wu (List.getElem?_eq_getElem hl)
  rw [e] at this
  rw [List.getD_eq_getElem?_getD,List.getElem?_eq_getElem hl] at q
  exact ⟨_,rfl,_,rfl,_,_,_,rfl,rfl,this,q⟩
 ·have h:¬ p<(xs.length:Int):=fun z=>h (decide_eq_true z)
  rw [List.getD_eq_getElem?_getD,List.getElem?_eq_none (by omega)] at q
  exact q
abbrev xR:Stmt:=top 51
theorem sc_row_plus:zh ["one","other","many"] ["one","other"] (defScope xR):=by walk_at "sc"
theorem oG (T:Txt K mg A) (G_added:DOk P w K mg base 3 "added" (pS)) (G_thing_at:DOk P w K mg base 1 "thing_at" (vI)) (F:Fun K "row_plus" "row_plus" xR f fd):FnOk P w K mg base CX0 4 f fd ["one","other"] (zr K (l8)):=by
 refine okD F sc_row_plus (by walk_at "ln") fun _ _ _ _ _ _ hr ds Q h=>?_
 obtain ⟨a,b,rfl,ha,hb,q⟩:=h
 refine ⟨_,(zf (zq (i:=2) sc_row_plus.nd rfl (Or.inl rfl) (Ul rfl rfl T.n_max (za (yk rfl T.len (dv 0)) (za (yk rfl T.len (dv 1)) zd))))
 (ze (zj (DF.de (Rc (wV (osc:=defScope xR) (N0:=["one","other","many"]) (bs:=["place"]) (caps:=["one","other"]) (js:=[0,1]) rfl (by decide +kernel) rfl rfl rfl (eI rfl T.range (dv 2)) (fun _ _ _ _ _=>(zR (i:=0) (show List.Nodup [("place":Str),("one":Str),("other":Str)] by decide +kernel) rfl (Or.inl (lookup_relabel_local rfl)) (.inl rfl))) tV (fun _ _ _ _ _=>pN) (fun _ _ _ _ _=>(zk G_added (hr.mono (by decide)) rfl (za (zk G_thing_at (hr.mono (by decide)) rfl (za (dv 1) (za (dv 0) zd))) (za (zk G_thing_at (hr.mono (by decide)) rfl (za (dv 2) (za (dv 0) zd))) zd)))))))))),?_⟩
 have l1:(a.map Nm.dt).length=a.length:=List.length_map _
 have l2:(b.map Nm.dt).length=b.length:=List.length_map _
 walk_at "rd"
 have em:(if ((b.map Nm.dt).length:Int)>((a.map Nm.dt).length:Int) then ((b.map Nm.dt).length:Int) else ((a.map Nm.dt).length:Int))=((max a.length b.length:Nat):Int):=by
  rw [l1,l2]; split <;> omega
 rw [em]
 refine ⟨_,fun i es=>es=((List.range i).map fun p=>(a.getD p (.i 0)).add (b.getD p (.i 0))).map Nm.dt,rfl,by omega,by omega,rfl,?_,?_⟩
 ·rintro i es hi rfl
  refine ⟨_,rfl,_,rfl,_,i,rfl,by omega,?_⟩
  refine ⟨_,rfl,_,rfl,_,i,rfl,by omega,?_⟩
  rw [Int.toNat_natCast,tY,tY]
  refine ⟨_,_,a.getD i (.i 0),b.getD i (.i 0),rfl,yQ _,yQ _,?_⟩
  show List.map Nm.dt (List.map (fun p=>(a.getD p (.i 0)).add (b.getD p (.i 0))) (List.range i))++[_]=List.map Nm.dt (List.map (fun p=>(a.getD p (.i 0)).add (b.getD p (.i 0))) (List.range (i+1)))
  rw [List.range_succ,List.map_append,List.map_append]
  rfl
 ·rintro es rfl
  rw [Int.toNat_natCast]
  exact q
abbrev xS:Stmt:=top 20
theorem sc_multiplied:zh ["one","other","left","right"] ["one","other"] (defScope xS):=by walk_at "sc"
theorem rM (T:Txt K mg A) (G_is_whole:DOk P w K mg base 1 "is_whole" (y9)) (G_as_pair:DOk P w K mg base 2 "as_pair" (vh)) (F:Fun K "multiplied" "multiplied" xS f fd):FnOk P w K mg base CX0 3 f fd ["one","other"] (zr K (mW)):=by
 refine okD F sc_multiplied (by walk_at "ln") fun _ _ _ _ _ _ hr ds Q h=>?_
 obtain ⟨d,e,m,n,rfl,hm,hn,k1,q⟩:=h
 refine ⟨_,(zf (zy (DW.dt (yd (zX (zk G_is_whole (hr.mono (by decide)) rfl (za (dv 0) zd))) (z_ (zX (zk G_is_whole (hr.mono (by decide)) rfl (za (dv 1) zd)))))) (ze (zj (zi yf (dv 0) (dv 1)))) zn)
 (zf (zq (i:=2) sc_multiplied.nd rfl (Or.inl rfl) (zk G_as_pair (hr.mono (by decide)) rfl (za (dv 0) zd)))
 (zf (zq (i:=3) sc_multiplied.nd rfl (Or.inl rfl) (zk G_as_pair (hr.mono (by decide)) rfl (za (dv 1) zd)))
 (ze (zj (zx (za (zi zM (zi yf (zu (dv 2) zc (fun _ _=>rfl)) (zu (dv 3) zc (fun _ _=>rfl))) (zi yf (zu (dv 2) zc (fun _ _=>rfl)) (zu (dv 3) zc (fun _ _=>rfl)))) (za (zi zT (zi yf (zu (dv 2) zc (fun _ _=>rfl)) (zu (dv 3) zc (fun _ _=>rfl))) (zi yf (zu (dv 2) zc (fun _ _=>rfl)) (zu (dv 3) zc (fun _ _=>rfl)))) zd)))))))),?_⟩
 obtain rfl:=yR hm
 obtain rfl:=yR hn
 obtain ⟨h1,h2,h3,h4⟩:=k1
 cases m <;> cases n
 all_goals
  walk_at "rd"
  first | refine ⟨h1,?_⟩ | skip
  walk_at "rd"
  first | exact q | skip
  try refine ⟨h2,?_⟩
  walk_at "rd"
  try refine ⟨h3,?_⟩
  walk_at "rd"
  try refine ⟨h4,?_⟩
  walk_at "rd"
  try exact q
abbrev xv:Stmt:=top 52
theorem qP:zh ["row","factor"] ["row","factor"] (defScope xv):=by walk_at "sc"
theorem qY (T:Txt K mg A) (G_multiplied:DOk P w K mg base 3 "multiplied" (mW)) (F:Fun K "row_times" "row_times" xv f fd):FnOk P w K mg base CX0 4 f fd ["row","factor"] (zr K (nw)):=by
 refine okD F qP (by walk_at "ln") fun _ _ _ _ _ _ hr ds Q h=>?_
 obtain ⟨a,f,rfl,ha,⟨f1,f2,f3,f4⟩,q⟩:=h
 refine ⟨_,(ze (zj (DF.de (Re (wV (osc:=defScope xv) (N0:=["row","factor"]) (bs:=["thing"]) (caps:=["factor"]) (js:=[1]) rfl (by decide +kernel) rfl rfl rfl (lR (dv 0)) (fun _ _ _ _ _=>(zR (i:=0) (show List.Nodup [("thing":Str),("factor":Str)] by decide +kernel) rfl (Or.inl (lookup_relabel_local rfl)) (.inl rfl))) tV (fun _ _ _ _ _=>pN) (fun _ _ _ _ _=>(zk G_multiplied (hr.mono (by decide)) rfl (za (dv 0) (za (dv 1) zd))))))))),?_⟩
 have ll:=zE a
 refine ⟨_,rfl,a.map Dt.int,fun i es=>es=((a.take i).map fun z=>(Nm.i z).mul f).map Nm.dt,rfl,by rw [ll]; omega,rfl,?_,?_⟩
 ·rintro i e es hi rfl
  obtain ⟨rfl,hl⟩:=dX hi
  refine ⟨_,rfl,_,rfl,_,_,.i (a.getD i 0),f,rfl,rfl,yQ f,⟨small f1 f2 _,small f3 f4 _,small f3 f4 _,small f1 f2 _⟩,?_⟩
  show List.map Nm.dt (List.map (fun z=>(Nm.i z).mul f) (a.take i))++[_]=List.map Nm.dt (List.map (fun z=>(Nm.i z).mul f) (a.take (i+1)))
  rw [kn hl,List.map_append,List.map_append]
  rfl
 ·rintro es rfl
  rw [ll,List.take_length]
  exact q
abbrev yh:Stmt:=top 34
theorem sc_held_to_be_a_heap:zh ["way","heap","things"] ["way","heap"] (defScope yh):=by walk_at "sc"
theorem wM (T:Txt K mg A) (F:Fun K "held_to_be_a_heap" "held_to_be_a_heap" yh f fd):FnOk P w K mg base (CX1 P w) 1 f fd ["way","heap"] (uj K (kf A)):=by
 refine Tp F sc_held_to_be_a_heap (by walk_at "ln") fun _ _ _ _ _ _ hr ds Q R h rz=>?_
 obtain ⟨k,n,h,rfl,hn,hw⟩:=h
 refine ⟨_,(zf (zy (xq (zX (ud T.isinstance T.QN (dv 0)))) (ze ub) zn)
 (ze (eB (j:=2) rfl sc_held_to_be_a_heap.nd rfl (Or.inl rfl) kE (dv 1) (ze (zy (zp (rW) (dv 2) zc (zm _)) (ze (rd rfl rfl T.Q_ T.QF zY)) zn))))),?_⟩
 rcases hw with z | hw
 ·exact z.elim
 have hk:k=.falling:=by rcases hw with z | z <;> exact z.1
 subst hk
 refine ⟨_,rfl,_,_,_,_,rfl,T.OP,T.QM,_,rfl,ifF rfl ?_⟩
 rcases hw with ⟨_,⟨z,hz,hz0⟩,hR⟩ | ⟨_,hnn,q⟩
 ·refine ⟨_,rfl,_,fun i ρ=>∃ v,ρ=[.some (zO A .falling n),.some (zB h),v]∧∀ (j:Nat) (y:Int),j<i→h[j]? = some y→0≤y,rfl,⟨_,rfl,fun j _ z=>absurd z (Nat.not_lt_zero _)⟩,?_,?_⟩
  ·rintro i e ρ' he ⟨v,rfl,hb⟩
   rw [List.getElem?_map] at he
   obtain ⟨y,hy,rfl⟩:=Option.map_eq_some_iff.mp he
   refine ⟨_,rfl,_,_,rfl,rfl,_,rfl,ifB (fun _=>rz _ hR) (fun h1=>⟨_,rfl,fun j y' hj hy'=>?_⟩)⟩
   have h1:=of_decide_eq_false h1
   rcases (by omega:j<i∨j=i) with w | w
   ·exact hb j y' w hy'
   ·subst w
    rw [hy] at hy'
    cases hy'
    omega
  ·rintro ρ' ⟨v,rfl,hb⟩
   obtain ⟨j,hj⟩:=List.mem_iff_getElem?.mp hz
   rw [List.length_map] at hb
   have hlt:j<h.length:=by
    rcases Nat.lt_or_ge j h.length with w | w
    ·exact w
    ·rw [List.getElem?_eq_none w] at hj; cases hj
   have:=hb j z hlt hj
   omega
 ·refine ⟨_,rfl,_,fun i ρ=>∃ v,ρ=[.some (zO A .falling n),.some (zB h),v],rfl,⟨_,rfl⟩,?_,?_⟩
  ·rintro i e ρ' he ⟨v,rfl⟩
   obtain ⟨y,hy,rfl⟩:=List.mem_map.mp (List.mem_of_getElem? he)
   have:=hnn y hy
   exact ⟨_,rfl,_,_,rfl,rfl,_,rfl,ifF (decide_eq_false (by omega)) ⟨_,rfl⟩⟩
  ·rintro ρ' ⟨v,rfl⟩
   exact q
abbrev uv:Stmt:=top 37
theorem nM:zh ["way","heap","place"] ["way","heap","place"] (defScope uv):=by walk_at "sc"
theorem n4 (T:Txt K mg A) (F:Fun K "step_at" "step_at" uv f fd):FnOk P w K mg base CX0 1 f fd ["way","heap","place"] (zr K (nv A)):=by
 refine okD F nM (by walk_at "ln") fun _ _ _ _ _ _ hr ds Q h=>?_
 obtain ⟨n,l,p,rfl,hn,hp,q⟩:=h
 refine ⟨_,(zV (zy (DW.dt (yd (zp (sU) (dv 2) zc (zm _)) (yd (zp (cy) (zu (dv 1) (dv 2) (fun _ _=>rfl)) (zJ (dv 0)) (zm _)) (z_ (zp (sU) (zu (dv 1) (zi zM (dv 2) zc) (fun _ _=>rfl)) zc (zm _)))))) (ze (zj (zx (za zY (za (dv 2) zd))))) zn)
 (zf (zy (zp (sU) (zu (dv 1) (dv 2) (fun _ _=>rfl)) (zJ (dv 0)) (zm _)) (ze (zj (zx (za zY (za (dv 2) zd))))) zn)
 (ze (zj pL)))),?_⟩
 have a1:atI (l.map Dt.int) (p:Int)=some (.int (hf l p)):=wu (wj hp)
 refine ⟨fun ρ=>ρ=[.some (zO A .falling n),.some (zB l),.some (.int p)]∧¬ (0<p∧n≤hf l p∧0<hf l (p - 1)),?_,?_⟩
 ·refine ⟨_,rfl,_,_,rfl,rfl,_,rfl,ifB (fun h1=>?_) (fun h1=>ifF rfl ⟨rfl,fun z=>?_⟩)⟩
  ·have h1:=of_decide_eq_true h1
   refine ⟨_,rfl,_,rfl,_,_,_,rfl,rfl,a1,_,rfl,_,_,_,rfl,rfl,T.Qq,T.Qt,_,_,rfl,rfl,_,rfl,ifB (fun h2=>?_) (fun h2=>ifF rfl ⟨rfl,fun z=>?_⟩)⟩
   ·have h2:=of_decide_eq_true h2
    have e1:((p:Int) - 1)=((p - 1:Nat):Int):=by omega
    refine ⟨_,rfl,_,rfl,_,_,rfl,rfl,_,_,_,rfl,rfl,(by rw [e1]; exact wu (wj (by omega))),_,_,rfl,rfl,_,rfl,ifB (fun h3=>?_) (fun h3=>⟨rfl,fun z=>?_⟩)⟩
    ·have h3:=of_decide_eq_true h3
     walk_at "rd"
     refine d6 q ?_
     unfold yr
     rw [if_pos ⟨by omega,h2,h3⟩]
     rfl
    ·exact absurd z.2.2 (of_decide_eq_false h3)
   ·exact absurd z.2.1 (of_decide_eq_false h2)
  ·have:=of_decide_eq_false h1
   omega
 ·rintro ρ ⟨rfl,hno⟩
  refine ⟨_,rfl,_,rfl,_,_,_,rfl,rfl,a1,_,rfl,_,_,_,rfl,rfl,T.Qq,T.Qt,_,_,rfl,rfl,_,rfl,ifB (fun h2=>?_) (fun h2=>?_)⟩
  ·walk_at "rd"
   refine d6 q ?_
   unfold yr
   rw [if_neg hno,if_pos (of_decide_eq_true h2)]
   rfl
  ·refine d6 q ?_
   unfold yr
   rw [if_neg hno,if_neg (of_decide_eq_false h2)]
   rfl
abbrev wE:Stmt:=top 38
theorem sc_how_often:zh ["way","heap","step","place"] ["way","heap","step"] (defScope wE):=by walk_at "sc"
theorem pd (T:Txt K mg A) (F:Fun K "how_often" "how_often" wE f fd):FnOk P w K mg base CX0 1 f fd ["way","heap","step"] (zr K (l_ A)):=by
 refine okD F sc_how_often (by walk_at "ln") fun _ _ _ _ _ _ hr ds Q h=>?_
 obtain ⟨n,l,s,rfl,hn,hp,hc,q⟩:=h
 refine ⟨_,(zf (zq (i:=3) sc_how_often.nd rfl (Or.inl rfl) (zu (dv 2) zc (fun _ _=>rfl)))
 (zf (zy (zp (Z9) (zu (dv 2) zc (fun _ _=>rfl)) zY (zm _)) (ze (zj (eN rfl rfl T.n_min (za (zi wa (zu (dv 1) (dv 3) (fun _ _=>rfl)) (zJ (dv 0))) (za (zu (dv 1) (zi zM (dv 3) zc) (fun _ _=>rfl)) zd))))) zn)
 (ze (zj (zi wa (zu (dv 1) (dv 3) (fun _ _=>rfl)) (zi zT (zJ (dv 0)) zc)))))),?_⟩
 obtain ⟨b1,b2⟩:=ww hn
 have a1:atI (l.map Dt.int) (s.2:Int)=some (.int (hf l s.2)):=wu (wj hp)
 match s,hp,hc,q,a1 with
 | (true,p),hp,⟨c1,c2,c3⟩,q,a1=>
  have e1:((p:Int) - 1)=((p - 1:Nat):Int):=by omega
  have hp:p<l.length:=hp
  refine ⟨_,rfl,_,1,_,rfl,rfl,rfl,_,rfl,_,0,_,rfl,rfl,rfl,_,_,rfl,rfl,_,rfl,ifT rfl ?_⟩
  refine ⟨_,rfl,_,rfl,_,_,_,rfl,rfl,a1,_,rfl,_,_,_,rfl,rfl,T.Qq,T.Qt,_,_,rfl,rfl,e8 (by rw [Bool.and_eq_true,bne_iff_ne,decide_eq_true_iff]; omega),?_⟩
  refine ⟨_,rfl,_,rfl,_,_,rfl,rfl,_,_,_,rfl,rfl,(by rw [e1]; exact wu (wj (by omega))),_,_,rfl,?_⟩
  have d1:=o6 (show (0:Int)<n by omega) c2
  have d2:=lJ (a:=hf l p) (show (0:Int)<n by omega)
  show Q (.int (if hf l (p - 1)<(hf l p).fdiv n then hf l (p - 1) else (hf l p).fdiv n))
  split
  ·rename_i hlt
   have:=Int.mul_le_mul_of_nonneg_right (show hf l (p - 1)≤(hf l p).fdiv n by omega) (show 0≤n by omega)
   exact q _ c3 ⟨c1,by omega,Int.le_refl _⟩
  ·exact q _ d1 ⟨c1,d2,by omega⟩
 | (false,p),hp,hc,q,a1=>
  have hc:n<hf l p:=hc
  refine ⟨_,rfl,_,1,_,rfl,rfl,rfl,_,rfl,_,0,_,rfl,rfl,rfl,_,_,rfl,rfl,_,rfl,ifF rfl ?_⟩
  refine ⟨_,rfl,_,rfl,_,_,_,rfl,rfl,a1,_,rfl,_,_,_,rfl,rfl,T.Qq,T.Qt,_,_,rfl,rfl,_,_,rfl,rfl,e8 (by rw [Bool.and_eq_true,bne_iff_ne,decide_eq_true_iff]; omega),?_⟩
  exact q _ (o6 (show (0:Int)<n+1 by omega) (show n+1≤hf l p by omega)) (lJ (show (0:Int)<n+1 by omega))
abbrev uA:Stmt:=top 35
theorem sc_changes:zh ["way","step","kind","place","parted"] ["way","step"] (defScope uA):=by walk_at "sc"
theorem md (T:Txt K mg A) (F:Fun K "changes" "changes" uA f fd):FnOk P w K mg base CX0 1 f fd ["way","step"] (zr K (Yx A)):=by
 refine okD F sc_changes (by walk_at "ln") fun _ _ _ _ _ _ hr ds Q h=>?_
 obtain ⟨n,s,rfl,hn,hs,q⟩:=h
 refine ⟨_,(zf (zq (i:=2) sc_changes.nd rfl (Or.inl rfl) (zu (dv 1) zc (fun _ _=>rfl)))
 (zf (zq (i:=3) sc_changes.nd rfl (Or.inl rfl) (zu (dv 1) zc (fun _ _=>rfl)))
 (zf (zy (zp (Z9) (dv 2) zY (zm _)) (ze (zj (zP (za (zx (za (zi zT (dv 3) zc) (za zc zd))) (za (zx (za (dv 3) (za (yj (zJ (dv 0))) zd))) (za (zx (za (zi zM (dv 3) zc) (za (yj zc) zd))) zd)))))) zn)
 (zf (xx (i:=4) sc_changes.nd rfl (Or.inl rfl) (rg (za (zx (za (zi zT (dv 3) zc) (za zc zd))) (za (zx (za (dv 3) (za (zi zM (yj (zJ (dv 0))) zc) zd))) zd))))
 (zV (zy (zp (z6 hr) (dv 3) zc (zm _)) (ze (wU 4 (zx (za zc (za (zJ (dv 0)) zd))))) zn)
 (zV (zy (zp (sU) (dv 3) zc (zm _)) (zf (wU 4 (zx (za (zi zM (dv 3) zc) (za (zi zM (zJ (dv 0)) zc) zd))))
 (ze (wU 4 (zx (za (zi zM (dv 3) zc) (za zc zd)))))) zn)
 (ze (t_ 4)))))))),?_⟩
 match s,hs,q with
 | (true,0),hs,_=>exact absurd (hs rfl) (Nat.lt_irrefl _)
 | (true,p+1),_,q=>
  repeat (first | (walk_at "rd1") | refine ⟨_,_,_,rfl,rfl,T.Qq,T.Qt,?_⟩)
  refine d6 q ?_
  show Dt.lst [.tup [.int (((p+1:Nat):Int)+1),.int 1],.tup [.int ((p+1:Nat):Int),.int (-n)],.tup [.int (((p+1:Nat):Int) - 1),.int (-1)]]=_
  rw [show ((p+1:Nat):Int) - 1=(p:Int) by omega]
  rfl
 | (false,0),_,q=>
  repeat (first | (walk_at "rd1") | refine ⟨_,_,_,rfl,rfl,T.Qq,T.Qt,?_⟩)
  refine ⟨fun ρ=>ρ=[.some (zO A .falling n),.some (yT (false,0)),.some (.str (nH false)),.some (.int 0),.own [chD (1,1),chD (0,-n - 1)]],?_,?_⟩
  ·exact ⟨_,rfl,rfl,rfl,_,rfl,ifF (neI (by decide)) rfl⟩
  rintro ρ rfl
  refine ⟨fun ρ=>ρ=[.some (zO A .falling n),.some (yT (false,0)),.some (.str (nH false)),.some (.int 0),.own [chD (1,1),chD (0,-n - 1)]],?_,?_⟩
  ·exact ⟨_,rfl,_,_,rfl,rfl,_,rfl,ifF (by decide) rfl⟩
  rintro ρ rfl
  exact ⟨_,rfl,q⟩
 | (false,1),_,q=>
  repeat (first | (walk_at "rd1") | refine ⟨_,_,_,rfl,rfl,T.Qq,T.Qt,?_⟩)
  refine ⟨fun ρ=>ρ=[.some (zO A .falling n),.some (yT (false,1)),.some (.str (nH false)),.some (.int 1),.own [chD (2,1),chD (1,-n - 1),chD (0,n)]],?_,?_⟩
  ·exact ⟨_,rfl,rfl,rfl,_,rfl,ifT (eqI rfl) ⟨_,rfl,_,rfl,_,_,_,rfl,rfl,T.Qq,T.Qt,rfl,(by show (2:Nat)≤100000; decide),rfl⟩⟩
  rintro ρ rfl
  refine ⟨fun ρ=>ρ=[.some (zO A .falling n),.some (yT (false,1)),.some (.str (nH false)),.some (.int 1),.own [chD (2,1),chD (1,-n - 1),chD (0,n)]],?_,?_⟩
  ·exact ⟨_,rfl,_,_,rfl,rfl,_,rfl,ifF (by decide) rfl⟩
  rintro ρ rfl
  exact ⟨_,rfl,q⟩
 | (false,p+2),_,q=>
  repeat (first | (walk_at "rd1") | refine ⟨_,_,_,rfl,rfl,T.Qq,T.Qt,?_⟩)
  refine ⟨fun ρ=>ρ=[.some (zO A .falling n),.some (yT (false,p+2)),.some (.str (nH false)),.some (.int ((p+2:Nat):Int)),.own [chD (p+3,1),chD (p+2,-n - 1)]],?_,?_⟩
  ·exact ⟨_,rfl,rfl,rfl,_,rfl,ifF (neI (by show ((p+2:Nat):Int)≠1; omega)) rfl⟩
  rintro ρ rfl
  refine ⟨fun ρ=>ρ=[.some (zO A .falling n),.some (yT (false,p+2)),.some (.str (nH false)),.some (.int ((p+2:Nat):Int)),.own [chD (p+3,1),chD (p+2,-n - 1),chD (p+1,n - 1),chD (p,1)]],?_,?_⟩
  ·refine ⟨_,rfl,_,_,rfl,rfl,_,rfl,ifT (decide_eq_true (by omega)) ?_⟩
   refine ⟨_,rfl,_,rfl,_,_,rfl,rfl,_,rfl,_,_,_,rfl,rfl,T.Qq,T.Qt,_,_,rfl,rfl,rfl,(by show (2:Nat)≤100000; decide),?_⟩
   refine ⟨_,rfl,_,rfl,_,_,rfl,rfl,rfl,(by show (3:Nat)≤100000; decide),?_⟩
   show [_,_,_,_,Sl.own [_,_,Dt.tup [.int (((p+2:Nat):Int) - 1),.int (n - 1)],Dt.tup [.int (((p+2:Nat):Int) - 2),.int 1]]]=_
   rw [show ((p+2:Nat):Int) - 1=((p+1:Nat):Int) by omega,show ((p+2:Nat):Int) - 2=(p:Int) by omega]
   rfl
  rintro ρ rfl
  exact ⟨_,rfl,q⟩
abbrev vx:Stmt:=top 36
theorem sc_do_steps:zh ["way","heap","step","many","place","things"] ["way","heap","step","many"] (defScope vx):=by walk_at "sc"
theorem oN (T:Txt K mg A) (G_changes:DOk P w K mg base 1 "changes" (Yx A)) (F:Fun K "do_steps" "do_steps" vx f fd):FnOk P w K mg base CX0 2 f fd ["way","heap","step","many"] (qG K (Rk A)):=by
 refine okA F sc_do_steps (by walk_at "ln") fun _ _ _ _ _ _ hr d0 es0 ds Q a h=>?_
 obtain ⟨n,l,s,m,rfl,rfl,rfl,hn,hs,hp,q⟩:=h
 refine ⟨_,(zf (xN PassesOwn.never (zp (rW) (ZP 1 rfl T.len) (zi zT (zu (dv 2) zc (fun _ _=>rfl)) zc) (zm _)) (ze (ZJ 1 zc)))
 (ze (ZH (i:=4) (j:=5) rfl sc_do_steps.nd rfl rfl (Or.inl rfl) (Or.inl rfl) PassesOwn.never (zk G_changes (hr.mono (by decide)) rfl (za (dv 0) (za (dv 2) zd))) (ze (uc 1 pC (dv 4) (zi yf (dv 3) (dv 5))))))),?_⟩
 obtain ⟨b1,b2⟩:=ww hn
 refine ⟨fun m' ρ=>∃ k,ρ=[.some (zO A .falling n),.arg a ((l++List.replicate k 0).map Dt.int),.some (yT s),.some (.int m),.none,.none]∧m'=(s.2+2) - (l.length+k)∧(k=0∨l.length+k≤s.2+2)∧k≤s.2+2,⟨_,0,by rw [List.replicate_zero,List.append_nil]; rfl,rfl,.inl rfl,Nat.zero_le _⟩,?_⟩
 rintro m' ρ' ⟨k,rfl,rfl,hk,hk2⟩
 have hlen:((l++List.replicate k 0).map Dt.int).length=l.length+k:=by rw [zE,List.length_append,List.length_replicate]
 refine ⟨a,_,rfl,_,rfl,_,1,_,rfl,rfl,rfl,_,_,rfl,rfl,_,_,rfl,rfl,_,rfl,?_⟩
 rw [hlen]
 refine ifB (fun h=>?_) (fun h=>?_)
 ·have h:=of_decide_eq_true h
  have h':l.length+k<s.2+2:=by omega
  refine ⟨a,_,rfl,by rw [hlen]; omega,_,?_,k+1,?_,rfl,.inr (by omega),by omega⟩
  ·omega
  ·show [_,_,_,_,_,_]=_
   rw [List.replicate_succ',← List.append_assoc,← uh]
 ·have h:=of_decide_eq_false h
  have h':s.2+2≤l.length+k:=by omega
  obtain ⟨l2,hl2⟩:∃ l2,l2=l++List.replicate k 0:=⟨_,rfl⟩
  have el:l2.length=max l.length (s.2+2):=by rw [hl2,List.length_append,List.length_replicate]; omega
  have ef:∀ i,hf l2 i=hf l i:=fun i=>by rw [hl2]; exact Ua l k i
  rw [← hl2]
  refine ⟨_,rfl,_,rfl,n,s,rfl,hn,hs,_,fun i ρ=>∃ g v4 v5,ρ=[.some (zO A .falling n),.arg a (g.map Dt.int),.some (yT s),.some (.int m),v4,v5]∧g.length=l2.length∧∀ j,hf g j=hf l j+m*yw ((chg n s).take i) j,rfl,⟨l2,_,_,rfl,rfl,fun j=>by rw [ef]; show _=hf l j+m*0; omega⟩,?_,?_⟩
  ·rintro i e ρ' he ⟨g,v4,v5,rfl,hg,hj⟩
   rw [List.getElem?_map] at he
   obtain ⟨x,hx,rfl⟩:=Option.map_eq_some_iff.mp he
   have hm:=List.mem_of_getElem? hx
   have hlt:=mS (m:=g.length) (by omega) x hm
   obtain ⟨c1,c2⟩:=UC b1 b2 x hm
   refine ⟨_,_,rfl,a,_,rfl,_,rfl,(x.1:Int),hf g x.1,rfl,by omega,?_,_,rfl,_,rfl,_,_,rfl,rfl,small (by omega) (by omega) _,_,rfl,?_⟩
   ·rw [Int.toNat_natCast]; exact wj hlt
   ·rw [Int.toNat_natCast]
    refine ⟨g.set x.1 (hf g x.1+m*x.2),.some (.int x.1),.some (.int x.2),?_,by rw [List.length_set]; exact hg,fun j=>?_⟩
    ·show [_,_,_,_,_,_]=_
     rw [← xJ]
    ·rw [pE hlt,hj j,jk hx,Int.mul_add]
     have:pt x.1 (m*x.2) j=m*pt x.1 x.2 j:=by
      unfold pt
      split
      ·rfl
      ·rw [Int.mul_zero]
     omega
  ·rintro ρ' ⟨g,v4,v5,rfl,hg,hj⟩
   rw [List.length_map,List.take_length] at hj
   exact ⟨_,rfl,q g (by omega) hj⟩
abbrev uu:Stmt:=top 23
theorem sc_trimmed:zh ["row","things"] ["row"] (defScope uu):=by walk_at "sc"
theorem nZ (T:Txt K mg A) (F:Fun K "trimmed" "trimmed" uu f fd):FnOk P w K mg base CX0 1 f fd ["row"] (uk K (mU)):=by
 refine okF F sc_trimmed (by walk_at "ln") fun _ _ _ _ _ _ hr ds Q h=>?_
 obtain ⟨r,rfl,q⟩:=h
 refine ⟨_,(zf (xx (i:=1) sc_trimmed.nd rfl (Or.inl rfl) (y8 rfl T.n_list (dv 0)))
 (zf (xN PassesOwn.never (DW.dt (yd (ZE 1) (z_ (zp (z6 hr) (pM 1 (yj zc) (fun _ _=>rfl)) zc (zm _))))) (ze (eA 1)))
 (ze (t_ 1)))),?_⟩
 refine ⟨_,rfl,_,rfl,_,rfl,?_⟩
 exact pY rfl ⟨_,rfl,q⟩
abbrev yg:Stmt:=top 39
theorem sc_steps_and_writing:zh ["way","heap","done","left","place","step","many"] ["way","heap"] (defScope yg):=by walk_at "sc"
theorem wL (T:Txt K mg A) (G_held_to_be_a_heap:DOkX P w K mg base 1 "held_to_be_a_heap" (kf A)) (G_step_at:DOk P w K mg base 1 "step_at" (nv A)) (G_how_often:DOk P w K mg base 1 "how_often" (l_ A)) (G_do_steps:AOk P w K mg base 2 "do_steps" (Rk A)) (G_trimmed:FOk P w K mg base 1 "trimmed" (mU)) (F:Fun K "steps_and_writing" "steps_and_writing" yg f fd):FnOk P w K mg base (CX1 P w) 3 f fd ["way","heap"] (rp K (.t true true) (Yu A)):=by
 refine To F sc_steps_and_writing (by walk_at "ln") fun _ _ _ _ _ _ hr ds Q R h rz=>?_
 obtain ⟨k,n,h,rfl,hn,hl,hw⟩:=h
 refine ⟨_,(zf (lP (rh G_held_to_be_a_heap (hr.mono (by decide)) rfl (za (dv 0) (za (dv 1) zd))))
 (zf (xx (i:=2) sc_steps_and_writing.nd rfl (Or.inl rfl) (rg zd))
 (zf (xx (i:=3) sc_steps_and_writing.nd rfl (Or.inl rfl) (y8 rfl T.n_list (dv 1)))
 (zf (zq (i:=4) sc_steps_and_writing.nd rfl (Or.inl rfl) (zi zM (wm 3 rfl T.len) zc))
 (zf (xN kE (zp (cy) (dv 4) zc (zm _)) (zf (zq (i:=5) sc_steps_and_writing.nd rfl (Or.inl rfl) (lU (zk G_step_at (hr.mono (by decide)) rfl (za (dv 0) (za (dv 3) (za (dv 4) zd))))))
 (ze (zy (f_ (dv 5)) (ze (ZI (i:=4) fH sc_steps_and_writing.nd rfl (Or.inl rfl) zc)) (zf (zq (i:=6) sc_steps_and_writing.nd rfl (Or.inl rfl) (lU (zk G_how_often (hr.mono (by decide)) rfl (za (dv 0) (za (dv 3) (za (dv 5) zd))))))
 (zf (Uh 2 (DF.de (Uj (zP (za (dv 5) zd)) (dv 6))))
 (zf (o_ 3 G_do_steps (hr.mono (by decide)) rfl (dv 0) (za (dv 5) (za (dv 6) zd)))
 (ze (zq (i:=4) sc_steps_and_writing.nd rfl (Or.inl rfl) (eN rfl rfl T.n_min (za (zi zT (dv 4) zc) (za (zi zM (wm 3 rfl T.len) zc) zd))))))))))))
 (ZF 3 (ze (ey 2 (lS G_trimmed (hr.mono (by decide)) rfl (za (dv 3) zd)))))))))),?_⟩
 refine ⟨_,rfl,_,rfl,k,n,h,rfl,hn,?_⟩
 rcases hw with hw | ⟨h1,h2,h3⟩ | ⟨rfl,hnn,hpot,q⟩
 ·exact .inl (fu rz hw)
 ·exact .inr (.inl ⟨h1,h2,rz _ h3⟩)
 refine .inr (.inr ⟨rfl,hnn,?_⟩)
 obtain ⟨b1,b2⟩:=ww hn
 have h0:=Sr hnn
 refine ⟨rfl,_,rfl,_,rfl,_,rfl,_,rfl,_,rfl,_,_,rfl,rfl,?_⟩
 refine ⟨fun m ρ=>∃ (ss:List Stp) (l:List Int) (p:Int) (v5 v6:Sl),ρ=[.some (zO A .falling n),.some (zB h),.own (ss.map yT),.own (l.map Dt.int),.some (.int p),v5,v6]∧-1≤p∧p<l.length∧(∀ i,0≤hf l i)∧l.length≤h.length+60∧My.hw n l=My.hw n h∧Walk n (hf h) ss (hf l)∧(ss.length:Int)+pot n l≤pot n h∧(∀ q:Nat,p<q→q<l.length→yr n (hf l) q=none)∧m=(3*pot n l+p+1).toNat,?_,?_⟩
 ·refine ⟨_,[],h,_,_,_,rfl,by omega,?_,h0,by omega,rfl,rfl,?_,fun q h1 h2=>?_,rfl⟩
  ·rw [zE]; omega
  ·show (0:Int)+_≤_; omega
  ·rw [zE] at h1; omega
 rintro m ρ' ⟨ss,l,p,v5,v6,rfl,p0,p1,l0,hlen,hwe,hwk,hss,hno,rfl⟩
 have pn:=oe (w:=cst n) (fun i=>by have:=(vg n i).1; omega) l0 l.length
 have pn:0≤pot n l:=pn
 refine ⟨_,rfl,_,_,rfl,rfl,_,rfl,ifB (fun hp=>?_) (fun hp=>?_)⟩
 ·have hp:=of_decide_eq_true hp
  obtain ⟨pp,rfl⟩:∃ pp:Nat,p=pp:=⟨p.toNat,by omega⟩
  have hpl:pp<l.length:=by omega
  refine ⟨_,rfl,_,rfl,_,rfl,n,l,pp,rfl,hn,hpl,?_⟩
  cases hs:yr n (hf l) pp with
  | none=>
   refine ⟨rfl,_,rfl,_,rfl,ifT rfl ?_⟩
   refine ⟨_,rfl,_,_,rfl,rfl,_,?_,ss,l,(pp:Int) - 1,_,_,rfl,by omega,by omega,l0,hlen,hwe,hwk,hss,fun q h1 h2=>?_,rfl⟩
   ·omega
   ·by_cases e:q=pp
    ·subst e; exact hs
    ·exact hno q (by omega) h2
  | some s=>
   obtain ⟨e2,hcan⟩:=p8 hs
   have hsp:s.2<l.length:=by omega
   refine ⟨rfl,_,rfl,_,rfl,ifF rfl ?_⟩
   refine ⟨_,rfl,_,rfl,_,rfl,n,l,s,rfl,hn,hsp,hcan,fun m hm hof=>⟨rfl,?_⟩⟩
   have hmc:=hof.le_pot b1 l0 (by omega) hsp
   refine ⟨_,rfl,_,rfl,rfl,_,rfl,_,_,rfl,rfl,by omega,by omega,by show 1*_≤_; omega,_,rfl,?_,?_⟩
   ·rw [qg,List.length_map,List.length_map,List.length_replicate]; omega
   have pb:pp<h.length+48:=by
    refine jZ b1 h0 l0 hpot hwe ?_
    rw [← e2]
    exact hcan.pos b1
   refine ⟨_,rfl,_,rfl,_,rfl,_,rfl,n,l,s,m,rfl,rfl,rfl,hn,hof.up,by omega,fun l' hl' he'=>?_⟩
   obtain ⟨k1,k2,k3,k4⟩:=je b1 hm l0 hof hl' he'
   have pn':=oe (w:=cst n) (fun i=>by have:=(vg n i).1; omega) k1 l'.length
   have pn':0≤pot n l':=pn'
   refine ⟨_,rfl,_,_,rfl,rfl,_,rfl,_,_,rfl,rfl,_,_,rfl,?_⟩
   dsimp only
   rw [zE,qg,← List.map_append]
   obtain ⟨p',hp'⟩:∃ p':Int,p'=if (l'.length:Int) - 1<(pp:Int)+2 then (l'.length:Int) - 1 else (pp:Int)+2:=⟨_,rfl⟩
   rw [← hp']
   have hp2:p'≤pp+2∧-1≤p'∧p'<l'.length∧(p'=(l'.length:Int) - 1∨p'=pp+2):=by
    rw [hp']
    split <;> omega
   refine ⟨(3*pot n l'+p'+1).toNat,by omega,ss++List.replicate m.toNat s,l',p',_,_,rfl,by omega,by omega,k1,by omega,k2.trans hwe,k4.append hwk,?_,fun q h1 h2=>?_,rfl⟩
   ·rw [List.length_append,List.length_replicate]; omega
   ·rcases hp2.2.2.2 with z | z
    ·omega
    ·have f1:hf l' q=hf l q:=by rw [he',lQ (by omega),Int.mul_zero,Int.add_zero]
     have f2:hf l' (q - 1)=hf l (q - 1):=by rw [he',lQ (by omega),Int.mul_zero,Int.add_zero]
     have e:yr n (hf l') q=yr n (hf l) q:=by unfold yr; rw [f1,f2]
     rw [e]
     by_cases hq:q<l.length
     ·exact hno q (by omega) hq
     ·unfold yr
      rw [yJ (by omega),if_neg (by omega),if_neg (by omega)]
 ·have hp:=of_decide_eq_false hp
  have hlg:Lg .falling n l:=Zq l0 (fun q hq=>hno q (by omega) hq)
  refine ⟨_,rfl,_,rfl,_,rfl,l,rfl,?_⟩
  have:=vM l
  refine q ss (trim l) ⟨hlg.trim,(Zt n l).trans hwe,?_,by omega,by omega⟩
  rw [show hf (trim l)=hf l from funext (lF l)]
  exact hwk
abbrev sG:Stmt:=top 40
theorem kx:zh ["way","heap"] ["way","heap"] (defScope sG):=by walk_at "sc"
theorem kG (T:Txt K mg A) (G_steps_and_writing:TOkX P w K mg base 3 "steps_and_writing" (.t true true) (Yu A)) (F:Fun K "fallen" "fallen" sG f fd):FnOk P w K mg base (CX1 P w) 4 f fd ["way","heap"] (yU K (qE A)):=by
 refine io F kx (by walk_at "ln") fun _ _ _ _ _ _ hr ds Q R h rz=>?_
 obtain ⟨k,n,h,rfl,hn,hl,hw⟩:=h
 refine ⟨_,(ze (ve (Ui (eD G_steps_and_writing (hr.mono (by decide)) rfl (za (dv 0) (za (dv 1) zd))) (fun _ _=>rfl)))),?_⟩
 refine ⟨_,rfl,_,rfl,k,n,h,rfl,hn,hl,?_⟩
 rcases hw with hw | ⟨h1,h2,h3⟩ | ⟨h1,h2,h3,h4⟩
 ·exact .inl (fu rz hw)
 ·exact .inr (.inl ⟨h1,h2,rz _ h3⟩)
 ·exact .inr (.inr ⟨h1,h2,h3,fun ss r hF=>⟨_,_,rfl,h4 ss r hF⟩⟩)
abbrev xV:Stmt:=inClass (top 26) 0
theorem rD:zh ["self"] ["self"] (defScope xV):=by walk_at "sc"
theorem ym (T:Txt K mg A) (F:Fun K "nought" "Way.nought" xV f fd):FnOk P w K mg base CX0 1 f fd ["self"] (zr K (Ri)):=by
 refine okD F rD (by walk_at "ln") fun _ _ _ _ _ _ hr ds Q h=>?_
 obtain ⟨o,rfl,q⟩:=h
 refine ⟨_,(ze (zj zc)),?_⟩
 exact q
abbrev xf:Stmt:=inClass (top 32) 1
theorem tu:zh ["self"] ["self"] (defScope xf):=by walk_at "sc"
theorem tH (T:Txt K mg A) (F:Fun K "nought" "Pairs.nought" xf f fd):FnOk P w K mg base CX0 1 f fd ["self"] (zr K (Rh)):=by
 refine okD F tu (by walk_at "ln") fun _ _ _ _ _ _ hr ds Q h=>?_
 obtain ⟨o,rfl,q⟩:=h
 refine ⟨_,(ze (zj (zx (za zc (za zc zd))))),?_⟩
 exact ⟨rfl,q⟩
abbrev uE:Stmt:=inClass (top 26) 5
theorem nU:zh ["self","number"] ["self","number"] (defScope uE):=by walk_at "sc"
theorem vy (T:Txt K mg A) (G_is_whole:DOk P w K mg base 1 "is_whole" (y9)) (F:Fun K "has" "Way.has" uE f fd):FnOk P w K mg base CX0 2 f fd ["self","number"] (zr K (uZ .plain)):=by
 refine okD F nU (by walk_at "ln") fun _ _ _ _ _ _ hr ds Q h=>?_
 obtain ⟨o,d,m,rfl,hm,q⟩:=h
 refine ⟨_,(ze (zj (vE (zk G_is_whole (hr.mono (by decide)) rfl (za (dv 1) zd)) (uX (xr (cy) (dv 1) zc (zm _)))))),?_⟩
 obtain rfl:=yR hm
 cases m
 all_goals
  walk_at "rd"
  exact q
abbrev wI:Stmt:=inClass (top 28) 3
theorem qS:zh ["self","number"] ["self","number"] (defScope wI):=by walk_at "sc"
theorem pf (T:Txt K mg A) (G_is_whole:DOk P w K mg base 1 "is_whole" (y9)) (F:Fun K "has" "Below.has" wI f fd):FnOk P w K mg base CX0 2 f fd ["self","number"] (zr K (uZ .below)):=by
 refine okD F qS (by walk_at "ln") fun _ _ _ _ _ _ hr ds Q h=>?_
 obtain ⟨o,d,m,rfl,hm,q⟩:=h
 refine ⟨_,(ze (zj (zk G_is_whole (hr.mono (by decide)) rfl (za (dv 1) zd)))),?_⟩
 obtain rfl:=yR hm
 cases m
 all_goals
  walk_at "rd"
  exact q
abbrev xj:Stmt:=inClass (top 29) 4
theorem tF:zh ["self","number"] ["self","number"] (defScope xj):=by walk_at "sc"
theorem tN (T:Txt K mg A) (G_is_whole:DOk P w K mg base 1 "is_whole" (y9)) (F:Fun K "has" "Balanced.has" xj f fd):FnOk P w K mg base CX0 2 f fd ["self","number"] (zr K (uZ .balanced)):=by
 refine okD F tF (by walk_at "ln") fun _ _ _ _ _ _ hr ds Q h=>?_
 obtain ⟨o,d,m,rfl,hm,q⟩:=h
 refine ⟨_,(ze (zj (zk G_is_whole (hr.mono (by decide)) rfl (za (dv 1) zd)))),?_⟩
 obtain rfl:=yR hm
 cases m
 all_goals
  walk_at "rd"
  exact q
abbrev uz:Stmt:=top 17
theorem nP:zh ["value"] ["value"] (defScope uz):=by walk_at "sc"
theorem ma (T:Txt K mg A) (G_is_whole:DOk P w K mg base 1 "is_whole" (y9)) (F:Fun K "is_pair" "is_pair" uz f fd):FnOk P w K mg base CX0 2 f fd ["value"] (zr K (qD)):=by
 refine okD F nP (by walk_at "ln") fun _ _ _ _ _ _ hr ds Q h=>?_
 obtain ⟨d,m,rfl,hm,q⟩:=h
 refine ⟨_,(ze (zj (vE (uY (T:=.tuple) T.kt T.isinstance T.n_tuple PyProof.Rows.boot_tuple (dv 0)) (vE (xr (z6 hr) (yk rfl T.len (dv 0)) zc (zm _)) (vE (zk G_is_whole (hr.mono (by decide)) rfl (za (zu (dv 0) zc (fun _ _=>rfl)) zd)) (uX (zk G_is_whole (hr.mono (by decide)) rfl (za (zu (dv 0) zc (fun _ _=>rfl)) zd)))))))),?_⟩
 obtain rfl:=yR hm
 cases m
 all_goals
  walk_at "rd"
  exact q
abbrev wH:Stmt:=inClass (top 32) 5
theorem qR:zh ["self","number"] ["self","number"] (defScope wH):=by walk_at "sc"
theorem pe (T:Txt K mg A) (G_is_pair:DOk P w K mg base 2 "is_pair" (qD)) (F:Fun K "has" "Pairs.has" wH f fd):FnOk P w K mg base CX0 3 f fd ["self","number"] (zr K (uZ .pairs)):=by
 refine okD F qR (by walk_at "ln") fun _ _ _ _ _ _ hr ds Q h=>?_
 obtain ⟨o,d,m,rfl,hm,q⟩:=h
 refine ⟨_,(ze (zj (zk G_is_pair (hr.mono (by decide)) rfl (za (dv 1) zd)))),?_⟩
 obtain rfl:=yR hm
 refine ⟨_,rfl,_,m,rfl,hm,?_⟩
 cases m <;> exact q
abbrev xB:Stmt:=inClass (top 27) 2
theorem sA:zh ["self","place"] ["self","place"] (defScope xB):=by walk_at "sc"
theorem sO (T:Txt K mg A) (F:Fun K "ratio" "Plain.ratio" xB f fd):FnOk P w K mg base CX0 1 f fd ["self","place"] (zr K (vJ A .plain (Kd.ratN .plain))):=by
 refine okD F sA (by walk_at "ln") fun _ _ _ _ _ _ hr ds Q h=>?_
 obtain ⟨n,p,rfl,hn,q⟩:=h
 refine ⟨_,(ze (zj (zJ (dv 0)))),?_⟩
 exact ⟨_,rfl,_,_,_,rfl,rfl,T.QB,T.Pj,q⟩
abbrev xE:Stmt:=inClass (top 28) 2
theorem sD:zh ["self","place"] ["self","place"] (defScope xE):=by walk_at "sc"
theorem sR (T:Txt K mg A) (F:Fun K "ratio" "Below.ratio" xE f fd):FnOk P w K mg base CX0 1 f fd ["self","place"] (zr K (vJ A .below (Kd.ratN .below))):=by
 refine okD F sD (by walk_at "ln") fun _ _ _ _ _ _ hr ds Q h=>?_
 obtain ⟨n,p,rfl,hn,q⟩:=h
 refine ⟨_,(ze (zj (yj (zJ (dv 0))))),?_⟩
 exact ⟨_,rfl,_,_,_,rfl,rfl,T.QC,T.Pk,_,rfl,q⟩
abbrev yM:Stmt:=inClass (top 29) 3
theorem vP:zh ["self","place"] ["self","place"] (defScope yM):=by walk_at "sc"
theorem vR (T:Txt K mg A) (F:Fun K "ratio" "Balanced.ratio" yM f fd):FnOk P w K mg base CX0 1 f fd ["self","place"] (zr K (vJ A .balanced (Kd.ratN .balanced))):=by
 refine okD F vP (by walk_at "ln") fun _ _ _ _ _ _ hr ds Q h=>?_
 obtain ⟨n,p,rfl,hn,q⟩:=h
 refine ⟨_,(ze (zj (zi zT (zi yf zc (zJ (dv 0))) zc))),?_⟩
 exact ⟨_,rfl,_,_,_,rfl,rfl,T.QA,T.Q9,_,_,rfl,rfl,Zl (by decide),_,_,rfl,rfl,q⟩
abbrev yW:Stmt:=inClass (top 30) 2
theorem uq:zh ["self","place"] ["self","place"] (defScope yW):=by walk_at "sc"
theorem uJ (T:Txt K mg A) (F:Fun K "ratio" "Growing.ratio" yW f fd):FnOk P w K mg base CX0 1 f fd ["self","place"] (zr K (vJ A .growing (Kd.ratN .growing))):=by
 refine okD F uq (by walk_at "ln") fun _ _ _ _ _ _ hr ds Q h=>?_
 obtain ⟨n,p,rfl,hn,q⟩:=h
 refine ⟨_,(ze (zj (zi zT (zJ (dv 0)) (dv 1)))),?_⟩
 exact ⟨_,rfl,_,_,_,rfl,rfl,T.QD,T.Pl,_,rfl,_,_,rfl,rfl,q⟩
abbrev xD:Stmt:=inClass (top 32) 3
theorem sB:zh ["self","place"] ["self","place"] (defScope xD):=by walk_at "sc"
theorem sQ (T:Txt K mg A) (F:Fun K "ratio" "Pairs.ratio" xD f fd):FnOk P w K mg base CX0 1 f fd ["self","place"] (zr K (vJ A .pairs (Kd.ratN .pairs))):=by
 refine okD F sB (by walk_at "ln") fun _ _ _ _ _ _ hr ds Q h=>?_
 obtain ⟨n,p,rfl,hn,q⟩:=h
 refine ⟨_,(ze (zj (zx (za (yj (zJ (dv 0))) (za zc zd))))),?_⟩
 exact ⟨_,rfl,_,_,_,rfl,rfl,T.Qu,T.QE,_,rfl,rfl,q⟩
abbrev wG:Stmt:=inClass (top 26) 4
theorem sc_Way_split:zh ["self","total","place","low","figures","figure"] ["self","total","place"] (defScope wG):=by walk_at "sc"
theorem y3 (T:Txt K mg A) (HLo:∀ k:Kd,MOk P w K mg base 1 (A.at k) "low" (xP A k (k.low))∧MOk P w K mg base 1 (A.at k) "high" (xP A k (k.high))) (HR:∀ k:Kd,k.five=true→MOk P w K mg base 1 (A.at k) "ratio" (vJ A k (k.ratN))) (F:Fun K "split" "Way.split" wG f fd):FnOk P w K mg base CX0 2 f fd ["self","total","place"] (zr K (dq A)):=by
 refine okD F sc_Way_split (by walk_at "ln") fun _ _ _ _ _ _ hr ds Q h=>?_
 obtain ⟨k,n,t,j,rfl,h4,hn,hj,q⟩:=h
 refine ⟨_,(zf (zq (i:=3) sc_Way_split.nd rfl (Or.inl rfl) (wl hr (dv 0) (za (dv 2) zd)))
 (zf (zq (i:=4) sc_Way_split.nd rfl (Or.inl rfl) (zi zT (zi zM (wl hr (dv 0) (za (dv 2) zd)) (dv 3)) zc))
 (zf (zq (i:=5) sc_Way_split.nd rfl (Or.inl rfl) (zi zT (dv 3) (zi xL (zi zM (dv 1) (dv 3)) (dv 4))))
 (ze (zj (zx (za (dv 5) (za (zi wa (zi zM (dv 1) (dv 5)) (wl hr (dv 0) (za (dv 2) zd))) zd)))))))),?_⟩
 obtain ⟨M1,M2⟩:=HLo k
 have h5:k.five=true:=by cases k <;> first | rfl | cases h4
 have M3:=HR k h5
 obtain ⟨e1,e2⟩:=qM h4 n j
 have hp:=sw h4 hn j
 have hr:k.ratN n j=.i (k.rat n j):=by cases k <;> first | rfl | cases h4
 have hb:(k.rat n j).natAbs<1073741824:=by
  obtain ⟨b1,b2⟩:=ww hn
  cases k <;> cases h4 <;> simp only [Kd.rat] <;> omega
 refine ⟨_,rfl,_,_,_,_,rfl,Yk k,M1.mono (by decide),_,rfl,n,j,rfl,hn,?_⟩
 refine ⟨_,rfl,_,_,_,_,rfl,fZ k,M2.mono (by decide),_,rfl,n,j,rfl,hn,_,rfl,_,_,rfl,rfl,_,_,rfl,rfl,?_⟩
 refine ⟨_,rfl,_,rfl,_,rfl,_,_,rfl,rfl,_,rfl,_,_,rfl,rfl,(show k.high n j - k.low n j+1≠0 by omega),_,_,rfl,rfl,?_⟩
 refine ⟨_,rfl,_,rfl,_,rfl,_,_,rfl,rfl,_,rfl,_,_,_,_,rfl,ZD k,M3.mono (by decide),_,rfl,n,j,rfl,hn,?_⟩
 rw [hr]
 refine ⟨_,_,rfl,rfl,⟨by omega,hb⟩,rfl,?_⟩
 cases k <;> cases h4 <;> exact q
abbrev xC:Stmt:=inClass (top 32) 4
theorem Q8:zh ["self","total","place","pair","figures","figure","turned"] ["self","total","place"] (defScope xC):=by walk_at "sc"
theorem sP (T:Txt K mg A) (G_as_pair:DOk P w K mg base 2 "as_pair" (vh)) (G_multiplied:DOk P w K mg base 3 "multiplied" (mW)) (F:Fun K "split" "Pairs.split" xC f fd):FnOk P w K mg base CX0 4 f fd ["self","total","place"] (zr K (dr A)):=by
 refine okD F Q8 (by walk_at "ln") fun _ _ _ _ _ _ hr ds Q h=>?_
 obtain ⟨n,d,m,j,rfl,hm,hn,q⟩:=h
 refine ⟨_,(zf (zq (i:=3) Q8.nd rfl (Or.inl rfl) (zk G_as_pair (hr.mono (by decide)) rfl (za (dv 1) zd)))
 (zf (zq (i:=4) Q8.nd rfl (Or.inl rfl) (zi zT (zi yf (zJ (dv 0)) (zJ (dv 0))) zc))
 (zf (zq (i:=5) Q8.nd rfl (Or.inl rfl) (zi xL (zi zT (zu (dv 3) zc (fun _ _=>rfl)) (zi yf (zJ (dv 0)) (zu (dv 3) zc (fun _ _=>rfl)))) (dv 4)))
 (zf (zq (i:=6) Q8.nd rfl (Or.inl rfl) (zk G_multiplied (hr.mono (by decide)) rfl (za (zx (za (zi zM (zu (dv 3) zc (fun _ _=>rfl)) (dv 5)) (za (zu (dv 3) zc (fun _ _=>rfl)) zd))) (za (zx (za (yj (zJ (dv 0))) (za (yj zc) zd))) zd))))
 (ze (zj (zx (za (dv 5) (za (zx (za (zi wa (zu (dv 6) zc (fun _ _=>rfl)) (dv 4)) (za (zi wa (zu (dv 6) zc (fun _ _=>rfl)) (dv 4)) zd))) zd))))))))),?_⟩
 have hn1:1≤n:=hn.1
 have hn2:n≤9:=hn.2
 have sq:n*n≤81:=by
  have:=Int.mul_le_mul hn2 hn2 (by omega) (by omega)
  omega
 have sq0:0≤n*n:=Int.mul_nonneg (by omega) (by omega)
 have hN:kh 0 (n*n+1):=⟨by omega,by omega⟩
 refine ⟨_,rfl,_,m,rfl,hm,?_⟩
 refine ⟨_,rfl,_,_,_,rfl,rfl,T.Qu,T.QE,_,rfl,_,_,_,rfl,rfl,T.Qu,T.QE,_,_,rfl,rfl,small (by omega) (by omega) _,_,_,rfl,rfl,?_⟩
 refine ⟨_,rfl,_,_,_,rfl,rfl,rfl,_,rfl,_,_,_,rfl,rfl,T.Qu,T.QE,_,rfl,_,_,_,rfl,rfl,rfl,_,_,rfl,rfl,vn (by omega) (by omega) _,_,_,rfl,rfl,_,rfl,_,_,rfl,rfl,(show n*n+1≠0 by omega),?_⟩
 repeat (first | (walk_at "rd1") | refine ⟨_,_,_,rfl,rfl,T.Qu,T.QE,?_⟩)
 refine ⟨⟨small (show -1000000≤-n by omega) (show -n≤1000000 by omega) _,small (show (-1000000:Int)≤-1 by decide) (show (-1:Int)≤1000000 by decide) _,small (show (-1000000:Int)≤-1 by decide) (show (-1:Int)≤1000000 by decide) _,small (show -1000000≤-n by omega) (show -n≤1000000 by omega) _⟩,?_⟩
 repeat (first | (walk_at "rd1") | refine ⟨hN,?_⟩)
 exact q
abbrev z9:Stmt:=top 42
theorem sc_figures_and_carries:zh ["way","totals","figures","carry","found","place","parts"] ["way","totals"] (defScope z9):=by walk_at "sc"
theorem x9 (T:Txt K mg A) (G_added:DOk P w K mg base 3 "added" (pS)) (G_thing_at:DOk P w K mg base 1 "thing_at" (vI)) (HNo:∀ k:Kd,MOk P w K mg base 1 (A.at k) "nought" (Rj k)) (HHas:∀ k:Kd,MOk P w K mg base 3 (A.at k) "has" (uZ k)) (HSp:∀ k:Kd,k.five=true→MOk P w K mg base 4 (A.at k) "split" (l7 A k)) (F:Fun K "figures_and_carries" "figures_and_carries" z9 f fd):FnOk P w K mg base (CX1 P w) 5 f fd ["way","totals"] (rp K (.t true true) (Yw A)):=by
 refine To F sc_figures_and_carries (by walk_at "ln") fun _ _ _ _ _ _ hr ds Q R h rz=>?_
 obtain ⟨k,n,ts,rfl,h5,hn,ht,hlt0,hw⟩:=h
 refine ⟨_,(zf (zy (zX (ud T.isinstance T.QN (dv 0))) (ze ub) zn)
 (zf (xx (i:=2) sc_figures_and_carries.nd rfl (Or.inl rfl) (rg zd))
 (zf (zq (i:=3) sc_figures_and_carries.nd rfl (Or.inl rfl) (nh hr (dv 0)))
 (zf (xx (i:=4) sc_figures_and_carries.nd rfl (Or.inl rfl) (rg (za (dv 3) zd)))
 (zf (xN kE (DW.dt (ua (zp (rW) (wm 2 rfl T.len) (yk rfl T.len (dv 1)) (zm _)) (uU (zp (mj hr) (dv 3) (nh hr (dv 0)) (zm _))))) (zf (zq (i:=5) sc_figures_and_carries.nd rfl (Or.inl rfl) (wm 2 rfl T.len))
 (zV (zy (DW.dt (yd (zp (cy) (dv 5) (yk rfl T.len (dv 1)) (zm _)) (z_ (xq (zX (wl hr (dv 0) (za (dv 3) zd))))))) (ze (rd rfl rfl T.Q_ T.QF zY)) zn)
 (zf (zq (i:=6) sc_figures_and_carries.nd rfl (Or.inl rfl) (wl hr (dv 0) (za (zk G_added (hr.mono (by decide)) rfl (za (dv 3) (za (zk G_thing_at (hr.mono (by decide)) rfl (za (dv 1) (za (dv 5) zd))) zd))) (za (dv 5) zd))))
 (zf (wU 2 (zu (dv 6) zc (fun _ _=>rfl)))
 (zf (zq (i:=3) sc_figures_and_carries.nd rfl (Or.inl rfl) (zu (dv 6) zc (fun _ _=>rfl)))
 (ze (wU 4 (dv 3)))))))))
 (ze (eo 2 4))))))),?_⟩
 have ll:(ts.map Nm.dt).length=ts.length:=List.length_map _
 refine ⟨_,rfl,_,_,_,_,rfl,lE T k,kiF T k,_,rfl,?_⟩
 refine ifF (vW h5) ?_
 refine ⟨rfl,_,rfl,_,rfl,_,_,_,_,rfl,v9 k,(HNo k).mono (by decide),_,rfl,_,rfl,rfl,_,rfl,?_⟩
 rcases hw with ⟨J,F,hJ,q⟩ | ⟨hneg,hR⟩
 ·refine ⟨fun m ρ=>∃ j v5 v6,ρ=[.some (zO A k n),.some (vN ts),.own ((xn k n ts j).map Dt.int),.some (cAt k n ts j).dt,.own (vF k n ts (j+1)),v5,v6]∧m=J - j∧j≤J,⟨J,0,_,_,rfl,rfl,Nat.zero_le _⟩,?_⟩
  rintro m ρ' ⟨j,v5,v6,rfl,rfl,hj⟩
  have fl:=wS k n ts j
  have fl':((xn k n ts j).map Dt.int).length=j:=by rw [List.length_map,fl]
  have cl:(vF k n ts (j+1)).length=j+1:=by unfold vF; rw [List.length_map,lX]
  have hcz:cAt k n ts j=k.zero↔eqD (cAt k n ts j).dt k.zero.dt=true:=(fX (yN k n ts j) (yC k)).symm
  refine ⟨_,rfl,_,rfl,_,rfl,_,_,rfl,rfl,_,rfl,?_⟩
  by_cases hjJ:j<J
  ·refine ifB (fun _=>ifT rfl ?_) (fun hlt=>⟨_,rfl,_,rfl,_,_,_,_,rfl,v9 k,(HNo k).mono (by decide),_,rfl,x_ _,x_ _,_,rfl,ifT (nF ?_) ?_⟩)
   rotate_left
   ·have hle:ts.length≤j:=by have:=of_decide_eq_false hlt; omega
    cases e:eqD (cAt k n ts j).dt k.zero.dt with
    | false=>rfl
    | true=>exact absurd (hcz.mpr e) (F.nz j hle hjJ).1
   all_goals
    refine ⟨_,rfl,?_⟩
    rw [fl']
    refine ⟨fun ρ=>ρ=[.some (zO A k n),.some (vN ts),.own ((xn k n ts j).map Dt.int),.some (cAt k n ts j).dt,.own (vF k n ts (j+1)),.some (.int j),v6],?_,?_⟩
    ·refine ⟨_,rfl,_,rfl,_,rfl,_,_,rfl,rfl,_,rfl,?_⟩
     refine ifB (fun hge=>?_) (fun _=>ifF rfl rfl)
     have hge:ts.length≤j:=by have:=of_decide_eq_true hge; omega
     refine ⟨_,rfl,_,_,_,_,rfl,Yl k,(HHas k).mono (by decide),_,rfl,_,_,_,rfl,yQ _,_,rfl,?_⟩
     rw [(F.nz j hge hjJ).2]
     exact ifF rfl rfl
    ·rintro ρ' rfl
     refine ⟨_,rfl,_,_,_,_,rfl,lM k,(HSp k h5).mono (by decide),_,rfl,_,rfl,_,rfl,_,_,rfl,by omega,?_⟩
     rw [Int.toNat_natCast,tY]
     refine ⟨_,_,_,_,rfl,yQ _,yQ _,_,rfl,n,_,j,rfl,wv (yN k n ts j) (yE ht j),hn,by omega,?_⟩
     refine ⟨_,rfl,_,rfl,_,_,_,rfl,rfl,rfl,by omega,?_⟩
     refine ⟨_,rfl,_,_,_,rfl,rfl,rfl,?_⟩
     refine ⟨_,rfl,_,rfl,by omega,J - (j+1),by omega,j+1,.some (.int j),.some (.tup [.int (fAt k n ts j),(cAt k n ts (j+1)).dt]),?_,rfl,hjJ⟩
     have ef:(xn k n ts j).map Dt.int++[Dt.int (fAt k n ts j)]=(xn k n ts (j+1)).map Dt.int:=by rw [qs,uh]
     have ec:vF k n ts (j+1)++[(cAt k n ts (j+1)).dt]=vF k n ts (j+1+1):=by unfold vF; rw [nl k n ts (j+1),List.map_append]; rfl
     rw [← ec,← ef]
     rfl
  ·have ej:j=J:=by omega
   subst ej
   refine ifF (decide_eq_false (by rw [fl',ll]; have:=F.le; omega)) ?_
   refine ⟨_,rfl,_,rfl,_,_,_,_,rfl,v9 k,(HNo k).mono (by decide),_,rfl,x_ _,x_ _,_,rfl,ifF (nT (hcz.mp F.z)) ?_⟩
   exact ⟨_,rfl,_,rfl,q⟩
 ·have hcn:cAt k n ts ts.length≠k.zero:=fun e=>by rw [e,fJ] at hneg; cases hneg
  refine ⟨fun m ρ=>∃ j v5 v6,ρ=[.some (zO A k n),.some (vN ts),.own ((xn k n ts j).map Dt.int),.some (cAt k n ts j).dt,.own (vF k n ts (j+1)),v5,v6]∧m=ts.length - j∧j≤ts.length,⟨ts.length,0,_,_,rfl,rfl,Nat.zero_le _⟩,?_⟩
  rintro m ρ' ⟨j,v5,v6,rfl,rfl,hj⟩
  have fl:=wS k n ts j
  have fl':((xn k n ts j).map Dt.int).length=j:=by rw [List.length_map,fl]
  have cl:(vF k n ts (j+1)).length=j+1:=by unfold vF; rw [List.length_map,lX]
  have hcz:cAt k n ts j=k.zero↔eqD (cAt k n ts j).dt k.zero.dt=true:=(fX (yN k n ts j) (yC k)).symm
  refine ⟨_,rfl,_,rfl,_,rfl,_,_,rfl,rfl,_,rfl,?_⟩
  by_cases hjl:j<ts.length
  ·refine ifT (decide_eq_true (by rw [fl',ll]; omega)) (ifT rfl ?_)
   refine ⟨_,rfl,?_⟩
   rw [fl']
   refine ⟨fun ρ=>ρ=[.some (zO A k n),.some (vN ts),.own ((xn k n ts j).map Dt.int),.some (cAt k n ts j).dt,.own (vF k n ts (j+1)),.some (.int j),v6],?_,?_⟩
   ·exact ⟨_,rfl,_,rfl,_,rfl,_,_,rfl,rfl,_,rfl,ifF (decide_eq_false (by rw [ll]; omega)) (ifF rfl rfl)⟩
   ·rintro ρ' rfl
    refine ⟨_,rfl,_,_,_,_,rfl,lM k,(HSp k h5).mono (by decide),_,rfl,_,rfl,_,rfl,_,_,rfl,by omega,?_⟩
    rw [Int.toNat_natCast,tY]
    refine ⟨_,_,_,_,rfl,yQ _,yQ _,_,rfl,n,_,j,rfl,wv (yN k n ts j) (yE ht j),hn,by omega,?_⟩
    refine ⟨_,rfl,_,rfl,_,_,_,rfl,rfl,rfl,by omega,?_⟩
    refine ⟨_,rfl,_,_,_,rfl,rfl,rfl,?_⟩
    refine ⟨_,rfl,_,rfl,by omega,ts.length - (j+1),by omega,j+1,.some (.int j),.some (.tup [.int (fAt k n ts j),(cAt k n ts (j+1)).dt]),?_,rfl,hjl⟩
    have ef:(xn k n ts j).map Dt.int++[Dt.int (fAt k n ts j)]=(xn k n ts (j+1)).map Dt.int:=by rw [qs,uh]
    have ec:vF k n ts (j+1)++[(cAt k n ts (j+1)).dt]=vF k n ts (j+1+1):=by unfold vF; rw [nl k n ts (j+1),List.map_append]; rfl
    rw [← ec,← ef]
    rfl
  ·have ej:j=ts.length:=by omega
   subst ej
   refine ifF (decide_eq_false (by rw [fl',ll]; omega)) ?_
   refine ⟨_,rfl,_,rfl,_,_,_,_,rfl,v9 k,(HNo k).mono (by decide),_,rfl,x_ _,x_ _,_,rfl,ifT (nF ?_) ?_⟩
   ·cases e:eqD (cAt k n ts ts.length).dt k.zero.dt with
    | false=>rfl
    | true=>exact absurd (hcz.mpr e) hcn
   ·refine ⟨_,rfl,?_⟩
    rw [fl']
    refine ⟨fun _=>False,?_,fun _ h=>h.elim⟩
    refine ⟨_,rfl,_,rfl,_,rfl,_,_,rfl,rfl,_,rfl,ifT (decide_eq_true (by rw [ll]; omega)) ?_⟩
    refine ⟨_,rfl,_,_,_,_,rfl,Yl k,(HHas k).mono (by decide),_,rfl,_,_,_,rfl,yQ _,_,rfl,?_⟩
    rw [hneg]
    exact ifT rfl (rz _ hR)
abbrev uw:Stmt:=top 43
theorem nN:zh ["way","totals"] ["way","totals"] (defScope uw):=by walk_at "sc"
theorem n5 (T:Txt K mg A) (G_trimmed:FOk P w K mg base 1 "trimmed" (mU)) (G_figures_and_carries:TOkX P w K mg base 5 "figures_and_carries" (.t true true) (Yw A)) (F:Fun K "settled" "settled" uw f fd):FnOk P w K mg base (CX1 P w) 6 f fd ["way","totals"] (yU K (rq A)):=by
 refine io F nN (by walk_at "ln") fun _ _ _ _ _ _ hr ds Q R h rz=>?_
 obtain ⟨k,n,ts,rfl,h5,hn,ht,hl,hw⟩:=h
 refine ⟨_,(ze (ve (lS G_trimmed (hr.mono (by decide)) rfl (za (zu (rh G_figures_and_carries.dok (hr.mono (by decide)) rfl (za (dv 0) (za (dv 1) zd))) zc (fun _ _=>rfl)) zd)))),?_⟩
 refine ⟨_,rfl,_,rfl,k,n,ts,rfl,h5,hn,ht,hl,?_⟩
 rcases hw with ⟨J,F,hJ,q⟩ | ⟨hneg,hR⟩
 ·exact .inl ⟨J,F,hJ,_,_,_,rfl,rfl,rfl,_,rfl,q⟩
 ·exact .inr ⟨hneg,rz _ hR⟩
abbrev xy:Stmt:=top 49
theorem sx:zh ["way","row"] ["way","row"] (defScope xy):=by walk_at "sc"
theorem sL (T:Txt K mg A) (G_fallen:FOkX P w K mg base 4 "fallen" (qE A)) (G_settled:FOkX P w K mg base 6 "settled" (rq A)) (F:Fun K "written_row" "written_row" xy f fd):FnOk P w K mg base (CX1 P w) 7 f fd ["way","row"] (yU K (l6 A)):=by
 refine io F sx (by walk_at "ln") fun _ _ _ _ _ _ hr ds Q R h rz=>?_
 obtain ⟨k,n,ts,b,rfl,hn,hl,ht,hb,b7,b8,hf,q,hR⟩:=h
 refine ⟨_,(zf (zy (zX (ud T.isinstance T.QN (dv 0))) (ze (ve (wW G_fallen (hr.mono (by decide)) rfl (za (dv 0) (za (dv 1) zd))))) zn)
 (ze (ve (wW G_settled (hr.mono (by decide)) rfl (za (dv 0) (za (dv 1) zd)))))),?_⟩
 refine ⟨_,rfl,_,_,_,_,rfl,lE T k,kiF T k,_,rfl,?_⟩
 by_cases hk:k=.falling
 ·subst hk
  obtain ⟨h,rfl,h0,hpot⟩:=hf rfl
  refine ifT rfl ?_
  rw [List.length_map] at hl
  refine ⟨_,rfl,_,rfl,.falling,n,h,by unfold zB vN; rw [jy],hn,by omega,.inr (.inr ⟨rfl,h0,hpot,fun ss r F=>?_⟩)⟩
  refine q r F.leg ?_ ?_
  ·rw [yS,uo,uo,F.eqw]
  ·rw [List.length_map]; have:=F.len; omega
 ·have h5:k.five=true:=by cases k <;> first | rfl | exact absurd rfl hk
  refine ifF (vW h5) ?_
  refine ⟨_,rfl,_,rfl,k,n,ts,rfl,h5,hn,ht,by omega,?_⟩
  by_cases hh:y6 k (cAt k n ts ts.length)=true
  ·obtain ⟨J,F,hJ,_⟩:=dP h5 hn ht hb b7 hh
   refine .inl ⟨J,F,by omega,q _ (nK h5 hn ht) (nJ F h5 hn ht) ?_⟩
   have:=vM (xn k n ts J)
   rw [wS] at this
   show (trim (xn k n ts J)).length≤_
   omega
  ·have hneg:y6 k (cAt k n ts ts.length)=false:=by cases e:y6 k (cAt k n ts ts.length) with | false=>rfl | true=>exact absurd e hh
   have hp:rL k:=Classical.byContradiction fun z=>hh (oP h5 z (yN k n ts _))
   refine .inr ⟨hneg,rz _ (hR hp ?_)⟩
   have:¬ 0≤(ya k n ts).re:=fun z=>hh ((mT hp hn ht _).mp z)
   omega
abbrev nV:Stmt:=top 54
theorem dS:zh ["way","row","lender"] ["way","row","lender"] (defScope nV):=by walk_at "sc"
theorem cv (T:Txt K mg A) (F:Fun K "lend" "lend" nV f fd):FnOk P w K mg base CX0 1 f fd ["way","row","lender"] (qG K (dB A)):=by
 refine okA F dS (by walk_at "ln") fun _ _ _ _ _ _ hr d0 es0 ds Q a h=>?_
 obtain ⟨n,r,l,rfl,rfl,rfl,hn,hl1,hlr,hl,q⟩:=h
 refine ⟨_,(zf (uc 1 fH (dv 2) zc)
 (zf (uc 1 pC (zi zM (dv 2) zc) (zJ (dv 0)))
 (ze (zy (zp (z6 hr) (dv 2) zc (zm _)) (ze (uc 1 pC zc zc)) (ze (uc 1 pC (zi zM (dv 2) zc) zc)))))),?_⟩
 have l1:(r.set l (hf r l + -1)).length=r.length:=List.length_set
 have l2:((r.set l (hf r l + -1)).set (l - 1) (hf (r.set l (hf r l + -1)) (l - 1)+n)).length=r.length:=by rw [List.length_set,l1]
 generalize e1:r.set l (hf r l + -1)=r1 at *
 generalize e2:r1.set (l - 1) (hf r1 (l - 1) + n)=r2 at *
 have fin:∀ es,es=(r2.set (l - 2) (hf r2 (l - 2)+1)).map Dt.int→Q es:=fun es he=>by
  subst he
  refine q _ (by rw [List.length_set,l2]) fun i=>?_
  rw [pE (by omega),← e2,pE (by omega),← e1,pE hlr]
  show hf r i+pt l (-1) i+pt (l - 1) n i+pt (l - 2) 1 i=hf r i+(pt l (-1) i+(pt (l - 1) n i+(pt (l - 2) 1 i+0)))
  omega
 refine ⟨a,_,rfl,_,rfl,(l:Int),hf r l,rfl,by omega,by rw [Int.toNat_natCast]; exact wj hlr,_,rfl,?_⟩
 have es1:(r.map Dt.int).set l (Dt.int ((fun i j=>i - j) (hf r l) 1))=r1.map Dt.int:=by rw [← e1,← xJ]; rfl
 have es2:(r1.map Dt.int).set (l - 1) (Dt.int ((fun i j=>i+j) (hf r1 (l - 1)) n))=r2.map Dt.int:=by rw [← e2,← xJ]
 rw [Int.toNat_natCast,es1]
 have el:((l:Int) - 1).toNat=l - 1:=by omega
 refine ⟨a,_,rfl,_,rfl,_,_,rfl,rfl,(l:Int) - 1,hf r1 (l - 1),rfl,by omega,by rw [el]; exact wj (by omega),_,rfl,_,_,_,rfl,rfl,T.Qq,T.Qt,_,rfl,?_⟩
 rw [el,es2]
 refine ⟨_,rfl,rfl,rfl,_,rfl,?_⟩
 by_cases hl:l=1
 ·subst hl
  refine ifT rfl ?_
  exact ⟨a,_,rfl,0,hf r2 0,rfl,by omega,wj (by omega),_,rfl,_,rfl,fin _ (by rw [← xJ]; rfl)⟩
 ·refine ifF (neI (by omega)) ?_
  have el2:((l:Int) - 2).toNat=l - 2:=by omega
  exact ⟨a,_,rfl,_,rfl,_,_,rfl,rfl,(l:Int) - 2,hf r2 (l - 2),rfl,by omega,by rw [el2]; exact wj (by omega),_,rfl,_,rfl,fin _ (by rw [el2,← xJ])⟩
abbrev xc:Stmt:=top 53
theorem sc_lender_above:zh ["row","place","lender"] ["row","place"] (defScope xc):=by walk_at "sc"
theorem tG (T:Txt K mg A) (F:Fun K "lender_above" "lender_above" xc f fd):FnOk P w K mg base (CX1 P w) 1 f fd ["row","place"] (uj K (nB A)):=by
 refine Tp F sc_lender_above (by walk_at "ln") fun _ _ _ _ _ _ hr ds Q R h rz=>?_
 obtain ⟨r,p,rfl,hl,hp,q,hR⟩:=h
 refine ⟨_,(zf (o9 (j:=2) rfl sc_lender_above.nd rfl (Or.inl rfl) kE rfl T.range (za (zi zT (dv 1) zc) (za (yk rfl T.len (dv 0)) zd)) (ze (zy (zp (sU) (zu (dv 0) (dv 2) (fun _ _=>rfl)) zc (zm _)) (ze (zj (dv 2))) zn)))
 (ze (rd rfl rfl T.Q_ T.QF zY))),?_⟩
 have ll:=zE r
 walk_at "rd"
 refine ⟨_,_,fun i ρ=>∃ v,ρ=[.some (zB r),.some (.int p),v]∧∀ j,p<j→j<p+1+i→hf r j≤0,rfl,by omega,by omega,by omega,by omega,⟨_,rfl,fun j h1 h2=>by omega⟩,?_,?_⟩
 ·rintro i ρ' hi ⟨v,rfl,hj⟩
  have ei:(p:Int)+1+i=((p+1+i:Nat):Int):=by omega
  rw [ei]
  refine ⟨_,rfl,_,rfl,_,_,_,rfl,rfl,xk (show p+1+i<r.length by omega),_,_,rfl,rfl,_,rfl,ifB (fun h=>?_) (fun h=>?_)⟩
  ·exact ⟨_,rfl,q (p+1+i) (by omega) (by omega) (fun j a b=>hj j a b) (of_decide_eq_true h)⟩
  ·refine ⟨_,rfl,fun j a b=>?_⟩
   rcases (by omega:j<p+1+i∨j=p+1+i) with z | z
   ·exact hj j a z
   ·subst z
    have:=of_decide_eq_false h
    show r.getD (p+1+i) 0≤0
    omega
 ·rintro ρ' ⟨v,rfl,hj⟩
  refine rz _ (hR fun i hi=>?_)
  by_cases z:i<r.length
  ·exact hj i hi (by omega)
  ·rw [yJ (by omega)]; exact Int.le_refl _
abbrev yV:Stmt:=top 55
theorem sc_without_debts:zh ["way","row","things","place"] ["way","row"] (defScope yV):=by walk_at "sc"
theorem uI (T:Txt K mg A) (G_lend:AOk P w K mg base 1 "lend" (dB A)) (G_lender_above:DOkX P w K mg base 1 "lender_above" (nB A)) (F:Fun K "without_debts" "without_debts" yV f fd):FnOk P w K mg base (CX1 P w) 2 f fd ["way","row"] (yU K (Ys A)):=by
 refine io F sc_without_debts (by walk_at "ln") fun _ _ _ _ _ _ hr ds Q R h rz=>?_
 obtain ⟨n,r,o,rfl,hn,hl,hd,hdo,ho,q,hR⟩:=h
 refine ⟨_,(zf (xx (i:=2) sc_without_debts.nd rfl (Or.inl rfl) (y8 rfl T.n_list (dv 1)))
 (zf (lO (j:=3) rfl sc_without_debts.nd rfl (Or.inl rfl) kE rfl T.range (za (zi zM (wm 2 rfl T.len) zc) (za (yj zc) (za (yj zc) zd))) (ze (xN kE (zp (rW) (pM 2 (dv 3) (fun _ _=>rfl)) zc (zm _)) (ze (o_ 2 G_lend (hr.mono (by decide)) rfl (dv 0) (za (Um (rh G_lender_above (hr.mono (by decide)) rfl (za (dv 2) (za (dv 3) zd)))) zd))))))
 (ze (t_ 2)))),?_⟩
 have ll:=zE r
 have n1:1≤n:=hn.1
 have n9:n≤9:=hn.2
 have wn:∀ i,0≤wf n i:=fun i=>by have:=(yb n1 i).1; omega
 refine ⟨_,rfl,_,rfl,_,rfl,?_⟩
 walk_at "rd"
 refine ⟨_,_,fun i ρ=>∃ (g:List Int) (v:Sl),ρ=[.some (zO A .falling n),.some (zB r),.own (g.map Dt.int),v]∧g.length=r.length∧(∀ j,r.length≤j+i→0≤hf g j)∧(i<r.length→Lv n (hf r) r.length (r.length - 1 - i) (hf g))∧sm (wf n) (hf g) r.length=sm (wf n) (hf r) r.length∧∀ j,hf g j≤n+1,rfl,by omega,by omega,by decide,by decide,⟨r,_,rfl,rfl,fun j hj=>by rw [yJ (by omega)]; exact Int.le_refl _,fun _=>Lv.start hd (fun i hi=>yJ hi),rfl,fun j=>by have:=hd j; omega⟩,?_,?_⟩
 ·rintro i ρ' hi ⟨g,v,rfl,hg,hab,hlv,hwq,hhi⟩
  obtain ⟨p,hp⟩:∃ p:Nat,p+i+1=r.length:=⟨r.length - 1 - i,by omega⟩
  have ep:((List.map Dt.int r).length:Int) - 1 - i=p:=by omega
  rw [ep]
  have lv:=hlv (by omega)
  rw [show r.length - 1 - i=p by omega] at lv
  refine ⟨fun m ρ=>∃ g:List Int,ρ=[.some (zO A .falling n),.some (zB r),.own (g.map Dt.int),.some (.int p)]∧g.length=r.length∧Lv n (hf r) r.length p (hf g)∧m=(sm (far p) (hf g) r.length).toNat,⟨_,g,rfl,hg,lv,rfl⟩,?_⟩
  rintro m ρ' ⟨g,rfl,hg,lv,rfl⟩
  have lg:=zE g
  refine ⟨_,rfl,_,rfl,_,_,rfl,wr (show (0:Int)≤p by omega) (by omega),_,_,rfl,rfl,_,rfl,?_⟩
  rw [Int.toNat_natCast]
  refine ifB (fun h=>?_) (fun h=>?_)
  ·have hneg:hf g p<0:=of_decide_eq_true h
   refine ⟨_,rfl,_,rfl,?_⟩
   refine ⟨_,rfl,_,rfl,g,p,rfl,by omega,by omega,fun l h1 h2 h3 h4=>?_,fun h0=>?_⟩
   ·have g0:∀ i,p<i→i<l→hf g i=0:=fun i a b=>by have:=h3 i a b; have:=lv.ab i a; omega
    obtain ⟨lv',dec⟩:=lv.lend n1 n9 hd hneg h1 (by omega) g0 h4
    refine ⟨rfl,n,g,l,rfl,rfl,rfl,hn,by omega,by omega,by omega,fun g' hg' he=>?_⟩
    have ef:hf g'=fun i=>hf g i+yw (lnd n l) i:=funext he
    have nn:0≤sm (far p) (fun i=>hf g i+yw (lnd n l) i) r.length:=by
     exact fS lv'.ab r.length
    exact ⟨(sm (far p) (hf g') r.length).toNat,by rw [ef]; omega,g',rfl,by omega,by rw [ef]; exact lv',rfl⟩
   ·refine rz _ (hR ?_)
    exact lv.less n1 hneg (by omega) (fun i hi=>by have:=h0 i hi; have:=lv.ab i hi; omega) hdo (ho p (by omega))
  ·have hnn:¬ hf g p<0:=of_decide_eq_false h
   refine ⟨g,_,rfl,hg,fun j hj=>?_,fun hi2=>?_,lv.wq,lv.hi⟩
   ·rcases (by omega:j=p∨p<j) with z | z
    ·rw [z]; omega
    ·exact lv.ab j z
   ·obtain ⟨p',rfl⟩:∃ p',p=p'+1:=⟨p - 1,by omega⟩
    rw [show r.length - 1 - (i+1)=p' by omega]
    exact lv.next hd (by omega)
 ·rintro ρ' ⟨g,v,rfl,hg,hab,_,hwq,hhi⟩
  have e:(((List.map Dt.int r).length:Int) - 1 - (-1)).toNat=r.length:=by omega
  rw [e] at hab
  refine ⟨_,rfl,q g hg (by unfold hw; rw [hg]; exact hwq) fun z hz=>?_⟩
  obtain ⟨i,hi⟩:=List.mem_iff_getElem?.mp hz
  have e2:hf g i=z:=by unfold hf; rw [List.getD_eq_getElem?_getD,hi]; rfl
  rw [← e2]
  exact ⟨hab i (by omega),hhi i⟩
abbrev qT:Stmt:=top 56
theorem sc_minus:zh ["way","one","other","difference"] ["way","one","other"] (defScope qT):=by walk_at "sc"
theorem ij (T:Txt K mg A) (G_held_to_be_writings:DOk P w K mg base 4 "held_to_be_writings" (dE A)) (G_row_plus:DOk P w K mg base 4 "row_plus" (l8)) (G_row_times:DOk P w K mg base 4 "row_times" (nw)) (G_written_row:FOkX P w K mg base 7 "written_row" (l6 A)) (G_without_debts:FOkX P w K mg base 2 "without_debts" (Ys A)) (F:Fun K "minus" "minus" qT f fd):FnOk P w K mg base (CX1 P w) 8 f fd ["way","one","other"] (yU K (nA A)):=by
 refine io F sc_minus (by walk_at "ln") fun _ _ _ _ _ _ hr ds Q R h rz=>?_
 obtain ⟨k,n,a,b,rfl,hn,hLa,hLb,la,lb,q,hR⟩:=h
 refine ⟨_,(zf (lP (zk G_held_to_be_writings (hr.mono (by decide)) rfl (za (dv 0) (za (zP (za (dv 1) (za (dv 2) zd))) zd))))
 (zf (zq (i:=3) sc_minus.nd rfl (Or.inl rfl) (zk G_row_plus (hr.mono (by decide)) rfl (za (dv 1) (za (zk G_row_times (hr.mono (by decide)) rfl (za (dv 2) (za (yj zc) zd))) zd))))
 (zf (zy (zX (ud T.isinstance T.QN (dv 0))) (ze (ve (wW G_written_row (hr.mono (by decide)) rfl (za (dv 0) (za (DF.de (wW G_without_debts (hr.mono (by decide)) rfl (za (dv 0) (za (dv 3) zd)))) zd))))) zn)
 (ze (ve (wW G_written_row (hr.mono (by decide)) rfl (za (dv 0) (za (dv 3) zd)))))))),?_⟩
 have hl:=oy a (vT b (-1))
 have li:(vT b (-1)).length=b.length:=List.length_map _
 refine ⟨_,rfl,_,rfl,_,rfl,rfl,k,n,[a,b],rfl,hn,fun r' h'=>?_,?_⟩
 ·rcases List.mem_cons.mp h' with rfl | h'
  ·exact ⟨hLa,by omega⟩
  ·rw [List.mem_singleton.mp h']; exact ⟨hLb,by omega⟩
 have en:vz (a.map Nm.i) (wJ b (.i (-1)))=(vi a (vT b (-1))).map Nm.i:=by rw [YK,kU]
 have t1:=ox (a:=b) (u6 k (-1))
 have hww:ya k n ((vi a (vT b (-1))).map Nm.i)=(zo k n a).add ((zo k n b).mul (.i (-1))):=by rw [← en,pX sk t1,yS,pW b (u6 k _)]
 have hre:((zo k n a).add ((zo k n b).mul (.i (-1)))).re=(zo k n a).re - (zo k n b).re:=by
  rw [yx,zK]
  show _+(_*(-1) - _*0)=_
  omega
 refine ⟨_,rfl,_,rfl,_,rfl,b,.i (-1),rfl,by omega,⟨by show (-1000000:Int)≤-1; decide,by show (-1:Int)≤1000000; decide,by show (-1000000:Int)≤0; decide,by show (0:Int)≤1000000; decide⟩,a.map Nm.i,wJ b (.i (-1)),by rw [qK],by rw [List.length_map]; omega,by rw [sH]; omega,?_⟩
 rw [en]
 have bits:∀ t∈(vi a (vT b (-1))).map Nm.i,t.re.natAbs≤2 ^ 14∧t.im.natAbs≤2 ^ 14:=fun t ht=>by
  obtain ⟨z,hz,rfl⟩:=List.mem_map.mp ht
  obtain ⟨p,rfl⟩:=jP hz
  have f1:=lI hn hLa (by omega) p
  have f2:=lI hn hLb (by omega) p
  rw [lG]
  exact ⟨by show (hf a p+hf b p*(-1)).natAbs≤16384; omega,by show (0:Int).natAbs≤_; decide⟩
 refine ⟨_,rfl,_,_,_,_,rfl,lE T k,kiF T k,_,rfl,?_⟩
 by_cases hk:k=.falling
 ·subst hk
  have n1:1≤n:=hn.1
  have n9:n≤9:=hn.2
  have ew:(ya .falling n ((vi a (vT b (-1))).map Nm.i)).re=hw n (vi a (vT b (-1))):=by rw [yS,uo]; rfl
  refine ifT rfl ?_
  refine ⟨_,rfl,_,rfl,_,rfl,n,vi a (vT b (-1)),hf a,by rw [qK],hn,by omega,fun i=>?_,fun i=>?_,fun p _=>cc n1 hLa.lg p,fun r' hl' hw' hz=>?_,fun h=>rz _ (hR (.inr rfl) ?_)⟩
  ·have f1:=rb hn hLa i
   have f2:=rb hn hLb i
   rw [lq]
   omega
  ·have f2:=rb hn hLb i
   rw [lq]
   omega
  ·refine ⟨.falling,n,r'.map Nm.i,14,by rw [qK],hn,by rw [List.length_map]; omega,sk,fun t ht=>?_,by decide,by decide,fun _=>⟨r',rfl,fun z h=>(hz z h).1,kz (B:=10) (fun z h=>by have:=hz z h; omega) (by decide) (by decide) (by omega)⟩,fun r hr hwr hlr=>?_,fun hk=>absurd hk (by rintro (h | h) <;> cases h)⟩
   ·obtain ⟨z,h,rfl⟩:=List.mem_map.mp ht
    have:=hz z h
    exact ⟨by show z.natAbs≤16384; omega,by show (0:Int).natAbs≤_; decide⟩
   ·rw [List.length_map] at hlr
    refine q r hr ?_ (by omega)
    rw [hwr,← hww,yS,yS,uo,uo,hw']
  ·rw [← ew,hww,hre] at h
   omega
 ·have h5:k.five=true:=by cases k <;> first | rfl | exact absurd rfl hk
  refine ifF (vW h5) ?_
  refine ⟨_,rfl,_,rfl,k,n,(vi a (vT b (-1))).map Nm.i,14,rfl,hn,by rw [List.length_map]; omega,sk,bits,by decide,by decide,fun z=>absurd z hk,fun r hr hwr hlr=>?_,fun hp hneg=>rz _ (hR (.inl hp) ?_)⟩
  ·rw [List.length_map] at hlr
   exact q r hr (hwr.trans hww) (by omega)
  ·rw [hww,hre] at hneg
   omega
abbrev xw:Stmt:=top 68
theorem sc_law_names:zh ["_law_e","_law_some"] ["_law_e"] (defScope xw):=by walk_at "sc"
theorem q8 (T:Txt K mg A) (F:Fun K "_law_names" "_law_names" xw f fd):FnOk P w K mg base CX0 1 f fd ["_law_e"] (zr K (dz A)):=by
 refine okD F sc_law_names (by walk_at "ln") fun _ _ _ _ _ _ hr ds Q h=>?_
 obtain ⟨C,rfl,rfl,q⟩:=h
 refine ⟨_,(zf (zq (i:=1) sc_law_names.nd rfl (Or.inl rfl) (zP (za (zx (za zY (za (yq T.isinstance T.OW (dv 0)) zd))) (za (zx (za zY (za (yq T.isinstance T.OX (dv 0)) zd))) zd))))
 (zf (zq (i:=1) sc_law_names.nd rfl (Or.inl rfl) (zi sV (dv 1) (zP (za (zx (za zY (za (yq T.isinstance T.OY (dv 0)) zd))) (za (zx (za zY (za (yq T.isinstance T.Q_ (dv 0)) zd))) zd)))))
 (zf (zq (i:=1) sc_law_names.nd rfl (Or.inl rfl) (zi sV (dv 1) (zP (za (zx (za zY (za (yq T.isinstance T.OZ (dv 0)) zd))) (za (zx (za zY (za (yq T.isinstance T.O0 (dv 0)) zd))) zd)))))
 (zf (zq (i:=1) sc_law_names.nd rfl (Or.inl rfl) (zi sV (dv 1) (zP (za (zx (za zY (za (yq T.isinstance T.O1 (dv 0)) zd))) (za (zx (za zY (za (yq T.isinstance T.O2 (dv 0)) zd))) zd)))))
 (zf (zq (i:=1) sc_law_names.nd rfl (Or.inl rfl) (zi sV (dv 1) (zP (za (zx (za zY (za (yq T.isinstance T.O3 (dv 0)) zd))) (za (zx (za zY (za (yq T.isinstance T.O4 (dv 0)) zd))) zd)))))
 (zf (zq (i:=1) sc_law_names.nd rfl (Or.inl rfl) (zi sV (dv 1) (zP (za (zx (za zY (za (yq T.isinstance T.O5 (dv 0)) zd))) (za (zx (za zY (za (yq T.isinstance T.O6 (dv 0)) zd))) zd)))))
 (zf (zq (i:=1) sc_law_names.nd rfl (Or.inl rfl) (zi sV (dv 1) (zP (za (zx (za zY (za (eM (eO T.isinstance T.n_ValueError (dv 0))) zd))) zd))))
 (ze (zj (DF.de (wV (L:=0) (osc:=defScope xw) (N0:=["_law_e","_law_some"]) (bs:=["_law_name","_law_truth"]) (caps:=[]) (js:=[]) rfl (by decide +kernel) rfl rfl rfl (lR (dv 1)) (fun _ _ _ _ _=>(sI rfl (yl (zR (i:=0) (show List.Nodup [("_law_name":Str),("_law_truth":Str)] by decide +kernel) rfl (Or.inl (lookup_relabel_local rfl)) (.inl rfl)) (yl (zR (i:=1) (show List.Nodup [("_law_name":Str),("_law_truth":Str)] by decide +kernel) rfl (Or.inl (lookup_relabel_local rfl)) (.inl rfl)) vQ)))) Zm (fun _ _ _ _ _=>(Uo (zX (dv 1)))) (fun _ _ _ _ _=>(dv 0))))))))))))),?_⟩
 repeat (first | (walk_at "rd1") | refine ⟨by decide,?_⟩ | refine ⟨_,_,rfl,T.Qr,T.QW,?_⟩ | refine ⟨_,_,rfl,T.Qr,T.QV,?_⟩ | refine ⟨_,_,rfl,T.Qr,T.Q0,?_⟩ | refine ⟨_,_,rfl,T.Qr,T.QU,?_⟩ | refine ⟨_,_,rfl,T.Qr,T.QX,?_⟩ | refine ⟨_,_,rfl,T.Qr,T.QY,?_⟩ | refine ⟨_,_,rfl,T.Qr,T.QZ,?_⟩ | refine ⟨_,_,rfl,T.Qr,T.Q2,?_⟩ | refine ⟨_,_,rfl,T.Qr,T.Q3,?_⟩ | refine ⟨_,_,rfl,T.Qr,T.Q4,?_⟩ | refine ⟨_,_,rfl,T.Qr,T.Q5,?_⟩ | refine ⟨_,_,rfl,T.Qr,T.Q6,?_⟩ | refine ⟨_,_,rfl,T.Qr,T.Q7,?_⟩)
 exact mQ (ρ:=[]) [(.ofString "NoWay",false),(.ofString "NoNumber",false),(.ofString "NoWriting",false),(.ofString "TooLess",true),(.ofString "NoRatio",false),(.ofString "NoFalling",false),(.ofString "NoPairs",false),(.ofString "Nought",false),(.ofString "NoSpan",false),(.ofString "NoTotal",false),(.ofString "NoText",false),(.ofString "NoRow",false),(.ofString "plain",false)] q
abbrev uy:Stmt:=top 70
theorem sc_law_end:zh ["_law_way_here","_law_one","_law_other","_law_error","_law_found","_law_e"] ["_law_way_here","_law_one","_law_other"] (defScope uy):=by walk_at "sc"
theorem n_ (T:Txt K mg A) (G_minus:FOkX P w K mg base 8 "minus" (nA A)) (G__law_names:DOk P w K mg base 1 "_law_names" (dz A)) (F:Fun K "_law_end" "_law_end" uy f fd):FnOk P w K mg base CX0 9 f fd ["_law_way_here","_law_one","_law_other"] (l5 K (.t false true) (mX A)):=by
 refine okT F sc_law_end (by walk_at "ln") fun _ _ _ _ _ _ hr ds Q h=>?_
 obtain ⟨k,n,a,b,rfl,hn,hLa,hLb,la,lb,q,hR⟩:=h
 refine ⟨_,(zf (zq (i:=3) sc_law_end.nd rfl (Or.inl rfl) pL)
 (zf (zq (i:=4) sc_law_end.nd rfl (Or.inl rfl) pL)
 (zf (rZ (i:=4) (j:=5) rfl rfl sc_law_end.nd rfl (Or.inl rfl) rfl rfl G_minus (hr.mono (by decide)) rfl (za (dv 0) (za (dv 1) (za (dv 2) zd))) (fun _=>(ze (zq (i:=3) sc_law_end.nd rfl (Or.inl rfl) (dv 5)))) rfl T.OV)
 (zf (zy (f_ (dv 3)) (ze (lN (Sz (zP zd)) (Sy 4))) zn)
 (ze (lN (Sz (zk G__law_names (hr.mono (by decide)) rfl (za (dv 3) zd))) (R0 pL))))))),?_⟩
 refine ⟨_,rfl,_,rfl,_,rfl,k,n,a,b,rfl,hn,hLa,hLb,la,lb,fun r hr hwr hlr=>⟨_,rfl,?_⟩,fun hk hlt=>⟨T.QT,?_⟩⟩
 ·refine ⟨_,rfl,_,rfl,ifT rfl ?_⟩
  exact ⟨rfl,.inl ⟨_,rfl,q r hr hwr hlr⟩⟩
 ·refine ⟨_,rfl,_,rfl,_,rfl,ifF rfl ?_⟩
  exact ⟨_,rfl,_,rfl,rfl,rfl,hR hk hlt⟩
abbrev wD:Stmt:=top 64
theorem sc_law_legal:zh ["_law_kind","_law_by","_law_row","_law_place","_law_low","_law_high"] ["_law_kind","_law_by","_law_row"] (defScope wD):=by walk_at "sc"
theorem q_ (T:Txt K mg A) (G__law_span:DOk P w K mg base 1 "_law_span" (mV)) (F:Fun K "_law_legal" "_law_legal" wD f fd):FnOk P w K mg base CX0 2 f fd ["_law_kind","_law_by","_law_row"] (zr K (dD)):=by
 refine okD F sc_law_legal (by walk_at "ln") fun _ _ _ _ _ _ hr ds Q h=>?_
 obtain ⟨k,n,r,rfl,hn,hL,hl,q⟩:=h
 refine ⟨_,(zf (zy (xq (zX (uY (T:=.list) T.kt T.isinstance T.n_list PyProof.Rows.boot_list (dv 2)))) (ze (zj wx)) zn)
 (zf (pI (j:=3) rfl sc_law_legal.nd rfl (Or.inl rfl) PassesOwn.never rfl T.range (yk rfl T.len (dv 2)) (zf (pH (i:=4) (j:=5) rfl sc_law_legal.nd rfl rfl (Or.inl rfl) (Or.inl rfl) (zk G__law_span (hr.mono (by decide)) rfl (za (dv 0) (za (dv 1) (za (dv 3) zd)))))
 (zV (zy (DW.dt (ua (xq (zX (uY (T:=.int) T.kt T.isinstance T.n_int PyProof.Rows.boot_int (zu (dv 2) (dv 3) (fun _ _=>rfl))))) (ua (zX (uY (T:=.bool) T.kt T.isinstance T.n_bool PyProof.Rows.boot_bool (zu (dv 2) (dv 3) (fun _ _=>rfl)))) (uU (xq (eh (Ts) (Ts) (dv 4) (zu (dv 2) (dv 3) (fun _ _=>rfl)) (dv 5))))))) (ze (zj wx)) zn)
 (ze (zy (DW.dt (yd (zp (z6 hr) (dv 0) zc (zm _)) (yd (zp (sU) (dv 3) zc (zm _)) (yd (zp (z6 hr) (zu (dv 2) (dv 3) (fun _ _=>rfl)) (dv 1) (zm _)) (z_ (zp (mj hr) (zu (dv 2) (zi zM (dv 3) zc) (fun _ _=>rfl)) zc (zm _))))))) (ze (zj wx)) zn)))))
 (ze (zj (SA (xr (z6 hr) (yk rfl T.len (dv 2)) zc (zm _)) (uX (xr (mj hr) (zu (dv 2) (yj zc) (fun _ _=>rfl)) zc (zm _)))))))),?_⟩
 have ll:=zE r
 walk_at "rd"
 refine ⟨_,fun i ρ=>∃ v3 v4 v5,ρ=[.some (.int k.num),.some (.int n),.some (zB r),v3,v4,v5],rfl,by omega,by omega,⟨_,_,_,rfl⟩,?_,?_⟩
 ·rintro i ρ' hi ⟨v3,v4,v5,rfl⟩
  have hi':i<r.length:=by omega
  obtain ⟨f1,f2⟩:=hL.fig i hi'
  refine ⟨_,rfl,_,rfl,_,rfl,k,n,i,rfl,hn,_,_,rfl,?_⟩
  refine ⟨fun ρ=>ρ=[.some (.int k.num),.some (.int n),.some (zB r),.some (.int i),.some (.int (k.low n i)),.some (.int (k.high n i))],?_,?_⟩
  ·refine ⟨_,rfl,_,rfl,_,_,_,rfl,rfl,xk hi',?_⟩
   walk_at "rd"
   refine ⟨_,_,_,rfl,rfl,xk hi',?_⟩
   walk_at "rd"
   refine ⟨_,_,_,rfl,rfl,xk hi',?_⟩
   refine ⟨_,_,rfl,rfl,_,rfl,ifT (decide_eq_true f1) ?_⟩
   refine ⟨_,rfl,_,_,rfl,rfl,_,rfl,?_⟩
   rw [decide_eq_true f2]
   exact ifF rfl rfl
  ·rintro ρ' rfl
   by_cases hk:k=.falling
   ·subst hk
    refine ⟨_,rfl,rfl,rfl,_,rfl,ifT rfl ?_⟩
    refine ⟨_,rfl,_,_,rfl,rfl,_,rfl,?_⟩
    refine ifB (fun h3=>?_) (fun h3=>ifF rfl ⟨_,_,_,rfl⟩)
    have h3:(0:Int)<i:=of_decide_eq_true h3
    refine ⟨_,rfl,_,rfl,_,_,_,rfl,rfl,xk hi',_,rfl,rfl,rfl,_,rfl,?_⟩
    refine ifB (fun h4=>?_) (fun h4=>ifF rfl ⟨_,_,_,rfl⟩)
    refine ⟨_,rfl,_,rfl,_,_,rfl,rfl,_,_,_,rfl,rfl,wr (by omega) (by omega),rfl,rfl,_,rfl,ifF (nT (eqI ?_)) ⟨_,_,_,rfl⟩⟩
    have e1:((i:Int) - 1).toNat=i - 1:=by omega
    rw [e1]
    have hi1:i - 1+1=i:=by omega
    exact hL.fal rfl (i - 1) (by omega) (by rw [hi1]; exact mi h4)
   ·have en:eqD (.int k.num) (.int 4)=false:=by cases k <;> first | rfl | exact absurd rfl hk
    exact ⟨_,rfl,rfl,rfl,_,rfl,ifF en (ifF rfl ⟨_,_,_,rfl⟩)⟩
 ·rintro ρ' ⟨v3,v4,v5,rfl⟩
  walk_at "rd"
  rcases zH r with rfl | ⟨l,y,rfl⟩
  ·exact ifT rfl q
  ·have ez:(l++[y]).getD ((l++[y]).length - 1) 0=y:=by rw [List.length_append]; exact getD_snoc_eq
   have hy:y≠0:=by
    rcases hL.end_ with h | h
    ·simp at h
    ·rw [ez] at h; exact h
   refine ifF (neI (by rw [ll,List.length_append]; simp; omega)) ?_
   refine ⟨_,rfl,_,rfl,_,_,_,rfl,rfl,wZ,rfl,rfl,?_⟩
   rw [neI hy]
   exact q
abbrev wB:Stmt:=top 71
theorem sc_law_right:zh ["_law_kind","_law_by","_law_way_here","_law_one","_law_other","_law_due","_law_handed","_law_names_here","_law_found","_law_kept"] ["_law_kind","_law_by","_law_way_here","_law_one","_law_other"] (defScope wB):=by walk_at "sc"
theorem qZ (T:Txt K mg A) (G__law_less:DOk P w K mg base 1 "_law_less" (dA)) (G__law_number:DOk P w K mg base 2 "_law_number" (dw)) (G__law_end:TOk P w K mg base 9 "_law_end" (.t false true) (mX A)) (G__law_legal:DOk P w K mg base 2 "_law_legal" (dD)) (F:Fun K "_law_right" "_law_right" wB f fd):FnOk P w K mg base CX0 10 f fd ["_law_kind","_law_by","_law_way_here","_law_one","_law_other"] (zr K (l9 A)):=by
 refine okD F sc_law_right (by walk_at "ln") fun _ _ _ _ _ _ hr ds Q h=>?_
 obtain ⟨k,n,a,b,rfl,hn,hLa,hLb,la,lb,q⟩:=h
 refine ⟨_,(zf (zq (i:=5) sc_law_right.nd rfl (Or.inl rfl) (zk G__law_less (hr.mono (by decide)) rfl (za (dv 0) (za (zk G__law_number (hr.mono (by decide)) rfl (za (dv 0) (za (dv 1) (za (dv 3) zd)))) (za (zk G__law_number (hr.mono (by decide)) rfl (za (dv 0) (za (dv 1) (za (dv 4) zd)))) zd)))))
 (zf (zq (i:=6) sc_law_right.nd rfl (Or.inl rfl) (zP (za (DF.de (y8 rfl T.n_list (dv 3))) (za (DF.de (y8 rfl T.n_list (dv 4))) zd))))
 (zf (ZG (i:=7) (j:=8) rfl sc_law_right.nd rfl rfl (Or.inl rfl) (Or.inl rfl) (ZK G__law_end (hr.mono (by decide)) rfl (za (dv 2) (za (zu (dv 6) zc (fun _ _=>rfl)) (za (zu (dv 6) zc (fun _ _=>rfl)) zd)))))
 (zf (zy (zp (mj hr) (dv 6) (zP (za (dv 3) (za (dv 4) zd))) (zm _)) (ze (zj wx)) zn)
 (zV (zy (DW.dt (yd (zp RI (dv 0) (zx (za zc (za zc (za zc zd)))) (by with_unfolding_all rfl)) (z_ (zp (rW) (dv 5) zc (zm _))))) (ze (zj (xr (z6 hr) (dv 7) (zP (za zY zd)) (zm _)))) zn)
 (zV (zy (Uf (DW.dt (ua (zp (mj hr) (dv 7) (zP zd) (zm _)) (ua (xq (zX (zk G__law_legal (hr.mono (by decide)) rfl (za (dv 0) (za (dv 1) (za (dv 8) zd)))))) (uU (zp (mj hr) (zk G__law_number (hr.mono (by decide)) rfl (za (dv 0) (za (dv 1) (za (dv 8) zd)))) (dv 5) (zm _))))))) (ze (zj wx)) zn)
 (zf (zq (i:=9) sc_law_right.nd rfl (Or.inl rfl) (DF.de (eJ 8 rfl T.n_list)))
 (zf (wU 8 zc)
 (ze (zj (vE (xr (z6 hr) (dv 6) (zP (za (dv 3) (za (dv 4) zd))) (zm _)) (uX (xr (z6 hr) (zk G__law_end.dok (hr.mono (by decide)) rfl (za (dv 2) (za (zu (dv 6) zc (fun _ _=>rfl)) (za (zu (dv 6) zc (fun _ _=>rfl)) zd)))) (zx (za (zP zd) (za (dv 9) zd))) (zm _)))))))))))))),?_⟩
 have bda:=mF hn hLa (by omega)
 have bdb:=mF hn hLb (by omega)
 have oks:okE 40 (.lst [zB a,zB b])=true:=by
  show (okE 39 (zB a) && (okE 39 (zB b) && true))=true
  rw [sS,sS]
  rfl
 have eqs:=xp 40 oks
 refine ⟨_,rfl,_,rfl,_,rfl,_,rfl,k,n,a,rfl,hn,by omega,bda,_,rfl,_,rfl,_,rfl,k,n,b,rfl,hn,by omega,bdb,k,_,_,rfl,zN k n a,zN k n b,?_⟩
 refine ⟨_,rfl,_,rfl,_,rfl,_,rfl,rfl,?_⟩
 have hty:((zo k n a).add ((zo k n b).mul (.i (-1)))).ty k:=ui (zN k n a) (tU (zN k n b) (u6 k (-1)))
 have hre:=pq (zo k n a) (zo k n b)
 generalize ew:(zo k n a).add ((zo k n b).mul (.i (-1)))=w at *
 refine ⟨_,rfl,_,rfl,_,_,_,rfl,rfl,rfl,_,rfl,_,_,_,rfl,rfl,rfl,k,n,a,b,rfl,hn,hLa,hLb,by omega,by omega,fun r hr hwr hlr=>⟨_,_,rfl,?_⟩,fun hk hlt=>⟨_,_,rfl,?_⟩⟩
 ·rw [ew] at hwr
  have hno:qk k→0≤w.re:=fun hk=>by rw [← hwr]; exact oS hn hk hr
  have bdr:=mF hn hr (by omega)
  refine ⟨_,rfl,_,rfl,_,rfl,rfl,oks,oks,_,rfl,ifF (nT eqs) ?_⟩
  refine ⟨fun ρ=>ρ=[.some (.int k.num),.some (.int n),.some (zO A k n),.some (zB a),.some (zB b),.some w.dt,.some (.lst [zB a,zB b]),.some (.lst []),.own (r.map Dt.int),.none],?_,?_⟩
  ·refine ⟨_,rfl,rfl,_,_,_,rfl,rfl,rfl,_,rfl,?_⟩
   by_cases hk:qk k
   ·refine ifT ((ml k).mpr hk) ?_
    obtain ⟨x,rfl⟩:=xt (by rintro rfl; rcases hk with (h | h) | h <;> cases h) hty
    have h0:0≤x:=hno hk
    exact ⟨_,rfl,_,_,rfl,rfl,_,rfl,ifF (decide_eq_false (by omega)) rfl⟩
   ·exact ifF (by cases e:([(0:Int),3,4].any (fun a=>a == k.num)) with | false=>rfl | true=>exact absurd ((ml k).mp e) hk) (ifF rfl rfl)
  rintro ρ rfl
  refine ⟨fun ρ=>ρ=[.some (.int k.num),.some (.int n),.some (zO A k n),.some (zB a),.some (zB b),.some w.dt,.some (.lst [zB a,zB b]),.some (.lst []),.own (r.map Dt.int),.none],?_,?_⟩
  ·refine ⟨_,rfl,rfl,rfl,rfl,_,rfl,ifF (nT (Ud [])) ?_⟩
   refine ⟨_,rfl,_,rfl,_,rfl,k,n,r,rfl,hn,hr,by omega,_,rfl,ifF rfl ?_⟩
   refine ⟨_,rfl,_,rfl,_,rfl,k,n,r,rfl,hn,by omega,bdr,_,rfl,x_ _,x_ _,_,rfl,?_⟩
   rw [hwr,xp 40 (x_ _)]
   exact ifF rfl rfl
  rintro ρ rfl
  refine ⟨_,rfl,_,rfl,by rw [zE]; omega,?_⟩
  refine ⟨_,rfl,_,rfl,_,rfl,rfl,oks,oks,_,rfl,?_⟩
  rw [eqs]
  refine ifT rfl ?_
  refine ⟨_,rfl,_,rfl,_,_,_,rfl,rfl,rfl,_,rfl,_,_,_,rfl,rfl,rfl,k,n,a,b,rfl,hn,hLa,hLb,by omega,by omega,fun r2 hr2 hwr2 _=>?_,fun hk hlt=>absurd (hno hk) (by omega)⟩
  obtain rfl:r2=r:=YA hn hr2 hr (by rw [hwr2,hwr,ew])
  refine ⟨rfl,_,rfl,rfl,y4 _,y4 _,?_⟩
  exact (xp 40 (y4 r2)).symm ▸ q
 ·have hk':k≠.pairs:=by rintro rfl; rcases hk with (h | h) | h <;> cases h
  obtain ⟨x,rfl⟩:=xt hk' hty
  have h0:x<0:=by have hre:x=_:=hre; omega
  refine ⟨_,rfl,_,rfl,_,rfl,rfl,oks,oks,_,rfl,ifF (nT eqs) ?_⟩
  refine ⟨fun _=>False,?_,fun _ h=>h.elim⟩
  refine ⟨_,rfl,rfl,_,_,_,rfl,rfl,rfl,_,rfl,?_⟩
  refine ifT ((ml k).mpr hk) ?_
  refine ⟨_,rfl,_,_,rfl,rfl,_,rfl,ifT (decide_eq_true h0) ?_⟩
  exact ⟨_,rfl,rfl,rfl,rfl,(xp 40 (d:=tl) rfl).symm ▸ q⟩
abbrev sE:Stmt:=top 72
theorem sc_law:zh ["_law_script","_law_kind","_law_by","_law_one","_law_other","_law_way_here"] ["_law_script"] (defScope sE):=by walk_at "sc"
theorem Xj (T:Txt K mg A) (G__law_pick:DOk P w K mg base 2 "_law_pick" (du)) (G__law_cell_at:DOk P w K mg base 1 "_law_cell_at" (dG)) (G__law_two:DOk P w K mg base 3 "_law_two" (Yt)) (G__law_way:DOk P w K mg base 5 "_law_way" (dm A)) (G__law_right:DOk P w K mg base 10 "_law_right" (l9 A)) (G__law_end:TOk P w K mg base 9 "_law_end" (.t false true) (mX A)) (F:Fun K "law" "law" sE f fd):FnOk P w K mg base CX0 11 f fd ["_law_script"] (zr K (kd)):=by
 refine okD F sc_law (by walk_at "ln") fun _ _ _ _ _ _ hr ds Q h=>?_
 obtain ⟨ns,rfl,hns,q⟩:=h
 refine ⟨_,(zf (pH (i:=1) (j:=2) rfl sc_law.nd rfl rfl (Or.inl rfl) (Or.inl rfl) (zk G__law_pick (hr.mono (by decide)) rfl (za (zk G__law_cell_at (hr.mono (by decide)) rfl (za (dv 0) (za zc zd))) zd)))
 (zf (pH (i:=3) (j:=4) rfl sc_law.nd rfl rfl (Or.inl rfl) (Or.inl rfl) (zk G__law_two (hr.mono (by decide)) rfl (za (dv 0) (za (dv 1) (za (dv 2) (za (zu (zP (za zc (za zc zd))) (lT rfl T.n_int (xr (z6 hr) (dv 1) zc (zm _))) (fun _ _=>rfl)) zd))))))
 (zV (zy (DW.dt (yd (zp (sU) (yk rfl T.len (dv 3)) zc (zm _)) (z_ (zp (z6 hr) (zi xL (zk G__law_cell_at (hr.mono (by decide)) rfl (za (dv 0) (za zc zd))) zc) zc (zm _))))) (zf (zq (i:=4) sc_law.nd rfl (Or.inl rfl) (zi sV (zP (za (lT rfl T.n_int (xr (z6 hr) (zu (dv 3) zc (fun _ _=>rfl)) zc (zm _))) zd)) (ng (dv 3) (pK zc) ZL)))
 (ze (zy (DW.dt (yd (zp (z6 hr) (dv 1) zc (zm _)) (z_ (zp (z6 hr) (zu (dv 3) zc (fun _ _=>rfl)) (dv 2) (zm _))))) (ze (zq (i:=4) sc_law.nd rfl (Or.inl rfl) (DF.de (y8 rfl T.n_list (dv 3))))) zn))) zn)
 (zf (zq (i:=5) sc_law.nd rfl (Or.inl rfl) (zk G__law_way (hr.mono (by decide)) rfl (za (dv 1) (za (dv 2) zd))))
 (zV (zy (DW.dt (ua (xq (zX (zk G__law_right (hr.mono (by decide)) rfl (za (dv 1) (za (dv 2) (za (dv 5) (za (dv 3) (za (dv 4) zd)))))))) (uU (xq (zX (zk G__law_right (hr.mono (by decide)) rfl (za (dv 1) (za (dv 2) (za (dv 5) (za (dv 4) (za (dv 3) zd))))))))))) (ze (zj wx)) zn)
 (ze (zj (vE (xr (z6 hr) (zk G__law_end.dok (hr.mono (by decide)) rfl (za (dv 5) (za (DF.de (y8 rfl T.n_list (dv 3))) (za (DF.de (y8 rfl T.n_list (dv 3))) zd)))) (zx (za (zP zd) (za (zP zd) zd))) (zm _)) (uX (xr (z6 hr) (zk G__law_end.dok (hr.mono (by decide)) rfl (za (dv 5) (za (DF.de (y8 rfl T.n_list (dv 3))) (za (zP zd) zd)))) (zx (za (zP zd) (za (dv 3) zd))) (zm _))))))))))),?_⟩
 refine ⟨_,rfl,ns,_,rfl,by decide,fun z0=>⟨_,rfl,fun k n hn=>⟨_,_,rfl,?_⟩⟩⟩
 have hm:∃ m:Int,atI [Dt.int 100,.int 40] (if eqD (.int k.num) (.int 4)=true then 1 else 0)=some (.int m)∧0≤m∧m≤1000:=by
  cases k <;> exact ⟨_,rfl,by decide,by decide⟩
 obtain ⟨m,em,m0,m1⟩:=hm
 walk_at "rd"
 refine ⟨_,_,_,rfl,rfl,em,ns,k,n,m,rfl,hn,hns,m0,m1,fun a b hLa hLb la lb _ _=>⟨_,_,rfl,?_⟩⟩
 refine ⟨fun ρ=>∃ b':List Int,ρ=[.some (.scr ns),.some (.int k.num),.some (.int n),.some (zB a),.some (zB b'),.none]∧Legal k n b'∧b'.length≤100,?_,?_⟩
 ·refine ⟨_,rfl,_,rfl,_,_,rfl,rfl,_,rfl,ifB (fun h1=>?_) (fun h1=>ifF rfl ⟨b,rfl,hLb,by omega⟩)⟩
  have h1:(1:Int)<(a.map Dt.int).length:=of_decide_eq_true h1
  rw [zE] at h1
  match a,hLa,la,h1 with
  | [],_,_,h1=>exact absurd h1 (by decide)
  | [_],_,_,h1=>exact absurd h1 (by simp)
  | x::y::l,hLa,la,_=>?_
  refine ⟨_,rfl,ns,_,rfl,by decide,fun z2=>?_⟩
  refine ⟨_,_,rfl,rfl,e7 (by decide),rfl,rfl,_,rfl,ifB (fun h2=>?_) (fun h2=>⟨b,rfl,hLb,by omega⟩)⟩
  have ec:qa ((x::y::l).map Dt.int) (some 1) none=(y::l).map Dt.int:=eX (r:=x::y::l) 1
  have e0:atI ((x::y::l).map Dt.int) 0=some (.int x):=xk (ns:=x::y::l) (i:=0) (by simp)
  have e1:atI ((x::y::l).map Dt.int) 1=some (.int y):=xk (ns:=x::y::l) (i:=1) (by simp)
  refine ⟨_,rfl,_,_,_,rfl,rfl,e0,rfl,rfl,_,rfl,?_⟩
  refine ⟨rfl,_,rfl,_,rfl,_,rfl,?_⟩
  rw [ec]
  refine ⟨_,_,rfl,rfl,by rw [zE]; simp at la ⊢; omega,?_⟩
  have hl2:∀ f:Int,(f::y::l).length≤100:=fun f=>by simp at la ⊢; omega
  obtain ⟨f,ef,hf⟩:∃ f:Int,(if eqD (.int x) (.int 0)=true then 1 else 0)=f∧(f=0∨f=1):=⟨_,rfl,by split <;> simp⟩
  rw [ef]
  refine ⟨_,rfl,rfl,rfl,_,rfl,ifB (fun h3=>?_) (fun h3=>?_)⟩
  ·refine ⟨_,rfl,_,_,_,rfl,rfl,e1,_,rfl,rfl,rfl,_,rfl,ifB (fun h4=>?_) (fun h4=>?_)⟩
   ·exact ⟨_,rfl,_,rfl,x::y::l,rfl,hLa,hl2 x⟩
   ·exact ⟨f::y::l,rfl,oT hn hLa (fun _=>sT h4) hf,hl2 f⟩
  ·refine ifF rfl ⟨f::y::l,rfl,oT hn hLa (fun hF=>?_) hf,hl2 f⟩
   exact absurd (sT h3) (by cases k <;> first | exact fun z=>z rfl | cases hF)
 ·rintro ρ ⟨b',rfl,hLb',lb'⟩
  refine ⟨_,rfl,_,rfl,k,n,rfl,hn,?_⟩
  refine ⟨fun ρ=>ρ=[.some (.scr ns),.some (.int k.num),.some (.int n),.some (zB a),.some (zB b'),.some (zO A k n)],?_,?_⟩
  ·refine ⟨_,rfl,_,rfl,_,rfl,_,rfl,_,rfl,k,n,a,b',rfl,hn,hLa,hLb',by omega,by omega,_,rfl,ifF rfl ?_⟩
   exact ⟨_,rfl,_,rfl,_,rfl,_,rfl,_,rfl,k,n,b',a,rfl,hn,hLb',hLa,by omega,by omega,_,rfl,ifF rfl rfl⟩
  rintro ρ rfl
  have wz:(zo k n a).add ((zo k n a).mul (.i (-1)))=zo k n []:=by
   rw [um]
   refine wP (ui (zN k n a) (tU (zN k n a) (u6 k (-1)))) (yC k) ?_ ?_
   ·rw [pq,zZ]; omega
   ·rw [yO,zQ,yo]
    show _+(_*0+_*(-1))=(0:Int)
    omega
  refine ⟨_,rfl,_,rfl,_,rfl,_,rfl,_,rfl,k,n,a,a,rfl,hn,hLa,hLa,by omega,by omega,fun r hr hwr _=>?_,fun _ h=>absurd h (by omega)⟩
  obtain rfl:r=[]:=YA hn hr (ql k n) (hwr.trans wz)
  refine ⟨rfl,rfl,rfl,y4 [],y4 [],_,rfl,?_⟩
  refine ifT (xp 40 (y4 [])) ?_
  have wy:(zo k n a).add ((zo k n []).mul (.i (-1)))=zo k n a:=by
   rw [um]
   refine wP (ui (zN k n a) (tU (yC k) (u6 k (-1)))) (zN k n a) ?_ ?_
   ·rw [pq,zZ]; omega
   ·rw [yO,zQ,yo,zZ]
    show _+(0*0+0*(-1))=_
    omega
  refine ⟨_,rfl,_,rfl,_,rfl,rfl,k,n,a,[],rfl,hn,hLa,ql k n,by omega,by decide,fun r hr hwr _=>?_,fun hk h=>?_⟩
  ·obtain rfl:r=a:=YA hn hr hLa (hwr.trans wy)
   refine ⟨rfl,_,rfl,rfl,y4 _,y4 _,?_⟩
   exact (xp 40 (y4 r)).symm ▸ q
  ·have:=oS hn hk hLa
   rw [um,zZ] at h
   exact absurd h (by omega)
end
def BA (n q:Str) (st:Stmt) (ps:List Str) (us:List Value):Prop:=∀ (kV doc pm:Value) (an:Option Addr) (cdv ct:Value),bindArgs (PySem.W.fnOf n q (defArgs st) (defBody st) (defScope st) .none kV doc pm an cdv ct) ⟨us,[]⟩=pure (ps.zip us)
def BZ (n q:Str) (st:Stmt) (ps:List Str):Prop:=∀ us:List Value,us.length=ps.length→BA n q st ps us
theorem bz1 {n q:Str} {st:Stmt} {ps:List Str} (hl:ps.length=1) (h:∀ u0:Value,BA n q st ps [u0]):BZ n q st ps:=fun us e=>match us,e.trans hl with | [_],_=>h _
theorem bz2 {n q:Str} {st:Stmt} {ps:List Str} (hl:ps.length=2) (h:∀ u0 u1:Value,BA n q st ps [u0,u1]):BZ n q st ps:=fun us e=>match us,e.trans hl with | [_,_],_=>h _ _
theorem bz3 {n q:Str} {st:Stmt} {ps:List Str} (hl:ps.length=3) (h:∀ u0 u1 u2:Value,BA n q st ps [u0,u1,u2]):BZ n q st ps:=fun us e=>match us,e.trans hl with | [_,_,_],_=>h _ _ _
theorem bz4 {n q:Str} {st:Stmt} {ps:List Str} (hl:ps.length=4) (h:∀ u0 u1 u2 u3:Value,BA n q st ps [u0,u1,u2,u3]):BZ n q st ps:=fun us e=>match us,e.trans hl with | [_,_,_,_],_=>h _ _ _ _
theorem bz5 {n q:Str} {st:Stmt} {ps:List Str} (hl:ps.length=5) (h:∀ u0 u1 u2 u3 u4:Value,BA n q st ps [u0,u1,u2,u3,u4]):BZ n q st ps:=fun us e=>match us,e.trans hl with | [_,_,_,_,_],_=>h _ _ _ _ _
section
variable (K:PySem.W.Frag)
def FX (n q:Str) (st:Stmt) (f:Addr):Prop:=∃ oc od kV dc pm an cd ct sl,K.lookup f=some ⟨oc,od,.func (PySem.W.fnOf n q (defArgs st) (defBody st) (defScope st) .none kV dc pm an cd ct),sl⟩∧PySem.W.codeIn K cd q=true∧PySem.W.keepIn K (.ref f)=true
def FD (n:Str) (st:Stmt) (f:Addr):Prop:=PySem.W.nsIn K mainGlobals n=some (some (.ref f))∧FX K n n st f
def FM (n q:Str) (st:Stmt) (f:Addr):Prop:=PySem.W.isFn K (.ref f)=true∧FX K n q st f
def Fi (C:Addr) (n:Str) (f:Addr):Prop:=PySem.W.findIn K (.ref C) n=some (some (.ref f))
def Ki (C D:Addr) (b:Bool):Prop:=PySem.W.kitOne K (.ref C) (.ref D)=some b
def Gc (n:Str) (C:Addr):Prop:=PySem.W.nsIn K mainGlobals n=some (some (.ref C))
def Zn (n:Str):Prop:=PySem.W.nsIn K mainGlobals n=some none
structure ClR (C:Addr) (x:Str):Prop where
 cls:Cls K C
 mks:PySem.W.makesIn K C=true
 kc:PySem.W.keepIn K (.ref C)=true
 na:PySem.W.findIn K (.ref C) x=some none
structure IR (C:Addr):Prop where
 ia:PySem.W.findIn K (.ref C) "__class__"=some (some (.builtin "object.__class__"))
 im:PySem.W.mroIn K C (.type "object")=some true
variable {K} {n q:Str} {st:Stmt} {f:Addr}
theorem FX.mk {oc od kV dc pm an cd ct sl} (l:K.lookup f=some ⟨oc,od,.func (PySem.W.fnOf n q (defArgs st) (defBody st) (defScope st) .none kV dc pm an cd ct),sl⟩) (c:PySem.W.codeIn K cd q=true) (k:PySem.W.keepIn K (.ref f)=true):FX K n q st f:=⟨_,_,_,_,_,_,_,_,_,l,c,k⟩
theorem FX.get (r:FX K n q st f) (ps:List Str) (h:BZ n q st ps):∃ fd,Fun K n q st f fd∧Binds K fd ps []:=
 let ⟨_,_,_,_,_,_,_,_,_,l,c,k⟩:=r; ⟨_,mE l c k,(mE l c k).binds fun a b c d e f us z=>h us z a b c d e f⟩
theorem FD.get (r:FD K n st f) {h:Heap} {mg:Str→Option Value} (X:K.In h) (G:h.Ns mainGlobals mg) (ps:List Str) (h:BZ n n st ps):∃ fd,mg n=some (.ref f)∧Fun K n n st f fd∧Binds K fd ps []:=
 let ⟨fd,F,b⟩:=r.2.get ps h; ⟨fd,PySem.W.mg_of X G r.1,F,b⟩
theorem mkr (l:PySem.W.OpenLaw) (w:World) (base:Heap) {mg:Str→Option Value} {C:Addr} {k:Nat} {fd:FuncData} {ps:List Str} {S:DSp} (c:Cls K C) (a:Fi K C n f) (r:FM K n q st f) (F:Fun K n q st f fd) (b:Binds K fd ps []) (o:FnOk l.prog w K mg base CX0 k f fd ps (zr K S)):MOk l.prog w K mg base k C n S:=.mk c ⟨_,_,_,⟨a,r.1,F.kp⟩,b,o⟩
theorem FM.get (r:FM K n q st f) (ps:List Str) (h:BZ n q st ps):∃ fd,Fun K n q st f fd∧Binds K fd ps []:=r.2.get ps h
end
theorem all_mk {l:PySem.W.OpenLaw} {w:World} {K:PySem.W.Frag} {h:Heap} {mg:Str→Option Value} {fa:Addr} (X:K.In h) (G:h.Ns mainGlobals mg) (hfa:mg "law"=some (.ref fa))
 {Qv Qw Qx Qy Qs Qz Pb Ps Pt Pu Qp Pw Px Py Pz PD PF PH PJ f1 f2 f3 f4 f5 f6 f7 f8 f9 f10 f11 f12 f13 f14 f15 f16 f17 f18 f19 f20 f21 f22 f23 f24 f25 f26 f27 f28 f29 f30 f31 f32 f33 f34 f35 f36 f37 f38 f39 f40 f41 f42 f43 f44 f45 f46 f47 f48 f49 f50 f51 f52 f53 f54 f55 f56 f57 f58 f59 f60 f61 f62 f63 f64 f65 f66 f67 f68 f69 f70:Addr}
 (PK:Gc K "Plain" Qv)
 (PL:Gc K "Below" Qw)
 (PM:Gc K "Balanced" Qx)
 (PN:Gc K "Growing" Qy)
 (Pc:Gc K "Falling" Qs)
 (PP:Gc K "Pairs" Qz)
 (PQ:Gc K "OddError" Pb)
 (PR:Gc K "NoWay" Ps)
 (PU:Gc K "NoNumber" Pt)
 (PV:Gc K "NoWriting" Pu)
 (PX:Gc K "TooLess" Qp)
 (PY:Gc K "NoRatio" Pw)
 (PZ:Gc K "NoFalling" Px)
 (P0:Gc K "NoPairs" Py)
 (P3:Gc K "Nought" Pz)
 (P4:Gc K "NoSpan" PD)
 (P5:Gc K "NoTotal" PF)
 (P6:Gc K "NoText" PH)
 (P7:Gc K "NoRow" PJ)
 (r1:FD K "_law_mixed" wC f1)
 (r2:FD K "_law_pick" vq f2)
 (r3:FD K "_law_cell_at" xA f3)
 (r4:FD K "_law_span" vp f4)
 (r5:FD K "_law_figures" xz f5)
 (r6:FD K "_law_two" xK f6)
 (r7:FD K "is_whole" vw f7)
 (r8:FD K "bounded" uB f8)
 (P8:Fi K Qv "__init__" f9)
 (r9:FM K "__init__" "Plain.__init__" y0 f9)
 (P9:Fi K Qw "__init__" f10)
 (r10:FM K "__init__" "Below.__init__" y2 f10)
 (Oa:Fi K Qx "__init__" f11)
 (r11:FM K "__init__" "Balanced.__init__" yp f11)
 (Ob:Fi K Qy "__init__" f12)
 (r12:FM K "__init__" "Growing.__init__" yF f12)
 (Oc:Fi K Qs "__init__" f13)
 (r13:FM K "__init__" "Falling.__init__" yG f13)
 (Od:Fi K Qz "__init__" f14)
 (r14:FM K "__init__" "Pairs.__init__" y1 f14)
 (r15:FD K "_law_way" ux f15)
 (r16:FD K "_law_less" vv f16)
 (r17:FD K "_law_next" vt f17)
 (r18:FD K "_law_number" xT f18)
 (r19:FD K "has_mosts_above_noughts_alone" zI f19)
 (Oe:Fi K Qv "low" f20)
 (Of:Fi K Qw "low" f20)
 (Og:Fi K Qy "low" f20)
 (Oh:Fi K Qs "low" f20)
 (Oi:Fi K Qz "low" f20)
 (r20:FM K "low" "Way.low" uD f20)
 (Oj:Fi K Qx "low" f21)
 (r21:FM K "low" "Balanced.low" xi f21)
 (Ol:Fi K Qv "high" f22)
 (r22:FM K "high" "Plain.high" xW f22)
 (Om:Fi K Qw "high" f23)
 (r23:FM K "high" "Below.high" xY f23)
 (On:Fi K Qx "high" f24)
 (r24:FM K "high" "Balanced.high" yX f24)
 (Oo:Fi K Qy "high" f25)
 (r25:FM K "high" "Growing.high" xg f25)
 (Op:Fi K Qs "high" f26)
 (r26:FM K "high" "Falling.high" xh f26)
 (Oq:Fi K Qz "high" f27)
 (r27:FM K "high" "Pairs.high" xX f27)
 (r28:FD K "has_figures_alone" yi f28)
 (r29:FD K "is_writing" xU f29)
 (r30:FD K "held_to_be_writings" z8 f30)
 (r31:FD K "as_pair" uC f31)
 (r32:FD K "added" qU f32)
 (r33:FD K "thing_at" vo f33)
 (r34:FD K "row_plus" xR f34)
 (r35:FD K "multiplied" xS f35)
 (r36:FD K "row_times" xv f36)
 (r37:FD K "held_to_be_a_heap" yh f37)
 (r38:FD K "step_at" uv f38)
 (r39:FD K "how_often" wE f39)
 (r40:FD K "changes" uA f40)
 (r41:FD K "do_steps" vx f41)
 (r42:FD K "trimmed" uu f42)
 (r43:FD K "steps_and_writing" yg f43)
 (r44:FD K "fallen" sG f44)
 (Os:Fi K Qv "nought" f45)
 (Ot:Fi K Qw "nought" f45)
 (Ou:Fi K Qx "nought" f45)
 (Ov:Fi K Qy "nought" f45)
 (Ow:Fi K Qs "nought" f45)
 (r45:FM K "nought" "Way.nought" xV f45)
 (Ox:Fi K Qz "nought" f46)
 (r46:FM K "nought" "Pairs.nought" xf f46)
 (Oy:Fi K Qv "has" f47)
 (Oz:Fi K Qy "has" f47)
 (OA:Fi K Qs "has" f47)
 (r47:FM K "has" "Way.has" uE f47)
 (OB:Fi K Qw "has" f48)
 (r48:FM K "has" "Below.has" wI f48)
 (OC:Fi K Qx "has" f49)
 (r49:FM K "has" "Balanced.has" xj f49)
 (r50:FD K "is_pair" uz f50)
 (OE:Fi K Qz "has" f51)
 (r51:FM K "has" "Pairs.has" wH f51)
 (OF:Fi K Qv "ratio" f52)
 (r52:FM K "ratio" "Plain.ratio" xB f52)
 (OG:Fi K Qw "ratio" f53)
 (r53:FM K "ratio" "Below.ratio" xE f53)
 (OH:Fi K Qx "ratio" f54)
 (r54:FM K "ratio" "Balanced.ratio" yM f54)
 (OI:Fi K Qy "ratio" f55)
 (r55:FM K "ratio" "Growing.ratio" yW f55)
 (OJ:Fi K Qz "ratio" f56)
 (r56:FM K "ratio" "Pairs.ratio" xD f56)
 (OK:Fi K Qv "split" f57)
 (OL:Fi K Qw "split" f57)
 (OM:Fi K Qx "split" f57)
 (ON:Fi K Qy "split" f57)
 (r57:FM K "split" "Way.split" wG f57)
 (OO:Fi K Qz "split" f58)
 (r58:FM K "split" "Pairs.split" xC f58)
 (r59:FD K "figures_and_carries" z9 f59)
 (r60:FD K "settled" uw f60)
 (r61:FD K "written_row" xy f61)
 (r62:FD K "lend" nV f62)
 (r63:FD K "lender_above" xc f63)
 (r64:FD K "without_debts" yV f64)
 (r65:FD K "minus" qT f65)
 (r66:FD K "_law_names" xw f66)
 (r67:FD K "_law_end" uy f67)
 (r68:FD K "_law_legal" wD f68)
 (r69:FD K "_law_right" wB f69)
 (r70:FD K "law" sE f70)
 (QG:ClR K Qv "base")
 (QH:ClR K Qw "base")
 (QI:ClR K Qx "half")
 (QJ:ClR K Qy "first")
 (QK:ClR K Qs "most")
 (QL:ClR K Qz "most")
 (Pd:IR K Qv)
 (QO:Ki K Qv Qs false)
 (Pe:IR K Qw)
 (QP:Ki K Qw Qs false)
 (Pf:IR K Qx)
 (QQ:Ki K Qx Qs false)
 (Pg:IR K Qy)
 (QR:Ki K Qy Qs false)
 (Ph:IR K Qs)
 (QM:Ki K Qs Qs true)
 (Pi:IR K Qz)
 (QS:Ki K Qz Qs false)
 (in_:PySem.W.specialIn K (.builtin "object.__class__") "__get__"=some (some (.builtin "getset_descriptor.__get__")))
 (it_:PySem.W.takesIn K (.builtin "object.__class__")=some true)
 (QF:ExcK K Qp)
 (Qr:qF K Qp)
 (QT:PySem.W.exmOne K (.ref Qp) (.ref Pb)=some true)
 (Pa:Ki K Qp Pb true)
 (QU:Ki K Qp Ps false)
 (QV:Ki K Qp Pt false)
 (QW:Ki K Qp Pu false)
 (QX:Ki K Qp Qp true)
 (QY:Ki K Qp Pw false)
 (QZ:Ki K Qp Px false)
 (Q0:Ki K Qp Py false)
 (Q2:Ki K Qp Pz false)
 (Q3:Ki K Qp PD false)
 (Q4:Ki K Qp PF false)
 (Q5:Ki K Qp PH false)
 (Q6:Ki K Qp PJ false)
 (Q7:PySem.W.kitOne K (.ref Qp) (.type "ValueError")=some true)
 (z_isinstance:Zn K "isinstance")
 (z_int:Zn K "int")
 (z_bool:Zn K "bool")
 (z_tuple:Zn K "tuple")
 (z_list:Zn K "list")
 (z_len:Zn K "len")
 (z_range:Zn K "range")
 (z_enumerate:Zn K "enumerate")
 (z_min:Zn K "min")
 (z_max:Zn K "max")
 (z_ValueError:Zn K "ValueError"):
 ∃ fd:FuncData,(∀ (s:Shared) (v:Value),BindsTo s fd ⟨[v],[]⟩ [("_law_script",v)])∧∀ base:Heap,K.In base→base.Ns mainGlobals mg→FnOk l.prog w K mg base CX0 11 fa fd ["_law_script"] (zr K (kd)):=by
 have mn {n:Str} (z:Zn K n):=PySem.W.mg_none_of X G z
 have mo {n:Str} {C:Addr} (z:Gc K n C):=PySem.W.mg_of X G z
 let A:Adr:=⟨Qv,Qw,Qx,Qy,Qs,Qz,Pb,Ps,Pt,Pu,Qp,Pw,Px,Py,Pz,PD,PF,PH,PJ⟩
 have T:Txt K mg A:=⟨RT K,mn z_isinstance,mn z_int,mn z_bool,mn z_tuple,mn z_list,mn z_len,mn z_range,mn z_enumerate,mn z_min,mn z_max,mn z_ValueError,QG.cls,QG.na,QH.cls,QH.na,QI.cls,QI.na,QJ.cls,QJ.na,QK.cls,QK.na,QL.cls,QL.na,mo Pc,⟨QG.cls,Pd.1,in_,it_,Pd.2⟩,QO,⟨QH.cls,Pe.1,in_,it_,Pe.2⟩,QP,⟨QI.cls,Pf.1,in_,it_,Pf.2⟩,QQ,⟨QJ.cls,Pg.1,in_,it_,Pg.2⟩,QR,⟨QK.cls,Ph.1,in_,it_,Ph.2⟩,QM,⟨QL.cls,Pi.1,in_,it_,Pi.2⟩,QS,mo PQ,mo PR,mo PU,mo PV,mo PX,mo PY,mo PZ,mo P0,mo P3,mo P4,mo P5,mo P6,mo P7,QF,Qr,QT,Pa,QU,QV,QW,QX,QY,QZ,Q0,Q2,Q3,Q4,Q5,Q6,Q7⟩
 obtain ⟨_,m1,F1,b1⟩:=r1.get X G ["_law_cell"] (bz1 rfl fun _ _ _ _ _ _ _=>rfl)
 obtain ⟨_,m2,F2,b2⟩:=r2.get X G ["_law_cell"] (bz1 rfl fun _ _ _ _ _ _ _=>rfl)
 obtain ⟨_,m3,F3,b3⟩:=r3.get X G ["_law_script","_law_k"] (bz2 rfl fun _ _ _ _ _ _ _ _=>rfl)
 obtain ⟨_,m4,F4,b4⟩:=r4.get X G ["_law_kind","_law_by","_law_place"] (bz3 rfl fun _ _ _ _ _ _ _ _ _=>rfl)
 obtain ⟨_,m5,F5,b5⟩:=r5.get X G ["_law_kind","_law_by","_law_cells"] (bz3 rfl fun _ _ _ _ _ _ _ _ _=>rfl)
 obtain ⟨_,m6,F6,b6⟩:=r6.get X G ["_law_script","_law_kind","_law_by","_law_most"] (bz4 rfl fun _ _ _ _ _ _ _ _ _ _=>rfl)
 obtain ⟨_,m7,F7,b7⟩:=r7.get X G ["value"] (bz1 rfl fun _ _ _ _ _ _ _=>rfl)
 obtain ⟨_,m8,F8,b8⟩:=r8.get X G ["number","least","most"] (bz3 rfl fun _ _ _ _ _ _ _ _ _=>rfl)
 obtain ⟨_,F9,b9⟩:=r9.get ["self","base"] (bz2 rfl fun _ _ _ _ _ _ _ _=>rfl)
 obtain ⟨_,F10,b10⟩:=r10.get ["self","base"] (bz2 rfl fun _ _ _ _ _ _ _ _=>rfl)
 obtain ⟨_,F11,b11⟩:=r11.get ["self","half"] (bz2 rfl fun _ _ _ _ _ _ _ _=>rfl)
 obtain ⟨_,F12,b12⟩:=r12.get ["self","first"] (bz2 rfl fun _ _ _ _ _ _ _ _=>rfl)
 obtain ⟨_,F13,b13⟩:=r13.get ["self","most"] (bz2 rfl fun _ _ _ _ _ _ _ _=>rfl)
 obtain ⟨_,F14,b14⟩:=r14.get ["self","most"] (bz2 rfl fun _ _ _ _ _ _ _ _=>rfl)
 obtain ⟨_,m15,F15,b15⟩:=r15.get X G ["_law_kind","_law_by"] (bz2 rfl fun _ _ _ _ _ _ _ _=>rfl)
 obtain ⟨_,m16,F16,b16⟩:=r16.get X G ["_law_kind","_law_one","_law_other"] (bz3 rfl fun _ _ _ _ _ _ _ _ _=>rfl)
 obtain ⟨_,m17,F17,b17⟩:=r17.get X G ["_law_kind","_law_by","_law_place","_law_here","_law_lower"] (bz5 rfl fun _ _ _ _ _ _ _ _ _ _ _=>rfl)
 obtain ⟨_,m18,F18,b18⟩:=r18.get X G ["_law_kind","_law_by","_law_row"] (bz3 rfl fun _ _ _ _ _ _ _ _ _=>rfl)
 obtain ⟨_,m19,F19,b19⟩:=r19.get X G ["way","row"] (bz2 rfl fun _ _ _ _ _ _ _ _=>rfl)
 obtain ⟨_,F20,b20⟩:=r20.get ["self","place"] (bz2 rfl fun _ _ _ _ _ _ _ _=>rfl)
 obtain ⟨_,F21,b21⟩:=r21.get ["self","place"] (bz2 rfl fun _ _ _ _ _ _ _ _=>rfl)
 obtain ⟨_,F22,b22⟩:=r22.get ["self","place"] (bz2 rfl fun _ _ _ _ _ _ _ _=>rfl)
 obtain ⟨_,F23,b23⟩:=r23.get ["self","place"] (bz2 rfl fun _ _ _ _ _ _ _ _=>rfl)
 obtain ⟨_,F24,b24⟩:=r24.get ["self","place"] (bz2 rfl fun _ _ _ _ _ _ _ _=>rfl)
 obtain ⟨_,F25,b25⟩:=r25.get ["self","place"] (bz2 rfl fun _ _ _ _ _ _ _ _=>rfl)
 obtain ⟨_,F26,b26⟩:=r26.get ["self","place"] (bz2 rfl fun _ _ _ _ _ _ _ _=>rfl)
 obtain ⟨_,F27,b27⟩:=r27.get ["self","place"] (bz2 rfl fun _ _ _ _ _ _ _ _=>rfl)
 obtain ⟨_,m28,F28,b28⟩:=r28.get X G ["way","row"] (bz2 rfl fun _ _ _ _ _ _ _ _=>rfl)
 obtain ⟨_,m29,F29,b29⟩:=r29.get X G ["way","row"] (bz2 rfl fun _ _ _ _ _ _ _ _=>rfl)
 obtain ⟨_,m30,F30,b30⟩:=r30.get X G ["way","rows"] (bz2 rfl fun _ _ _ _ _ _ _ _=>rfl)
 obtain ⟨_,m31,F31,b31⟩:=r31.get X G ["number"] (bz1 rfl fun _ _ _ _ _ _ _=>rfl)
 obtain ⟨_,m32,F32,b32⟩:=r32.get X G ["one","other"] (bz2 rfl fun _ _ _ _ _ _ _ _=>rfl)
 obtain ⟨_,m33,F33,b33⟩:=r33.get X G ["row","place"] (bz2 rfl fun _ _ _ _ _ _ _ _=>rfl)
 obtain ⟨_,m34,F34,b34⟩:=r34.get X G ["one","other"] (bz2 rfl fun _ _ _ _ _ _ _ _=>rfl)
 obtain ⟨_,m35,F35,b35⟩:=r35.get X G ["one","other"] (bz2 rfl fun _ _ _ _ _ _ _ _=>rfl)
 obtain ⟨_,m36,F36,b36⟩:=r36.get X G ["row","factor"] (bz2 rfl fun _ _ _ _ _ _ _ _=>rfl)
 obtain ⟨_,m37,F37,b37⟩:=r37.get X G ["way","heap"] (bz2 rfl fun _ _ _ _ _ _ _ _=>rfl)
 obtain ⟨_,m38,F38,b38⟩:=r38.get X G ["way","heap","place"] (bz3 rfl fun _ _ _ _ _ _ _ _ _=>rfl)
 obtain ⟨_,m39,F39,b39⟩:=r39.get X G ["way","heap","step"] (bz3 rfl fun _ _ _ _ _ _ _ _ _=>rfl)
 obtain ⟨_,m40,F40,b40⟩:=r40.get X G ["way","step"] (bz2 rfl fun _ _ _ _ _ _ _ _=>rfl)
 obtain ⟨_,m41,F41,b41⟩:=r41.get X G ["way","heap","step","many"] (bz4 rfl fun _ _ _ _ _ _ _ _ _ _=>rfl)
 obtain ⟨_,m42,F42,b42⟩:=r42.get X G ["row"] (bz1 rfl fun _ _ _ _ _ _ _=>rfl)
 obtain ⟨_,m43,F43,b43⟩:=r43.get X G ["way","heap"] (bz2 rfl fun _ _ _ _ _ _ _ _=>rfl)
 obtain ⟨_,m44,F44,b44⟩:=r44.get X G ["way","heap"] (bz2 rfl fun _ _ _ _ _ _ _ _=>rfl)
 obtain ⟨_,F45,b45⟩:=r45.get ["self"] (bz1 rfl fun _ _ _ _ _ _ _=>rfl)
 obtain ⟨_,F46,b46⟩:=r46.get ["self"] (bz1 rfl fun _ _ _ _ _ _ _=>rfl)
 obtain ⟨_,F47,b47⟩:=r47.get ["self","number"] (bz2 rfl fun _ _ _ _ _ _ _ _=>rfl)
 obtain ⟨_,F48,b48⟩:=r48.get ["self","number"] (bz2 rfl fun _ _ _ _ _ _ _ _=>rfl)
 obtain ⟨_,F49,b49⟩:=r49.get ["self","number"] (bz2 rfl fun _ _ _ _ _ _ _ _=>rfl)
 obtain ⟨_,m50,F50,b50⟩:=r50.get X G ["value"] (bz1 rfl fun _ _ _ _ _ _ _=>rfl)
 obtain ⟨_,F51,b51⟩:=r51.get ["self","number"] (bz2 rfl fun _ _ _ _ _ _ _ _=>rfl)
 obtain ⟨_,F52,b52⟩:=r52.get ["self","place"] (bz2 rfl fun _ _ _ _ _ _ _ _=>rfl)
 obtain ⟨_,F53,b53⟩:=r53.get ["self","place"] (bz2 rfl fun _ _ _ _ _ _ _ _=>rfl)
 obtain ⟨_,F54,b54⟩:=r54.get ["self","place"] (bz2 rfl fun _ _ _ _ _ _ _ _=>rfl)
 obtain ⟨_,F55,b55⟩:=r55.get ["self","place"] (bz2 rfl fun _ _ _ _ _ _ _ _=>rfl)
 obtain ⟨_,F56,b56⟩:=r56.get ["self","place"] (bz2 rfl fun _ _ _ _ _ _ _ _=>rfl)
 obtain ⟨_,F57,b57⟩:=r57.get ["self","total","place"] (bz3 rfl fun _ _ _ _ _ _ _ _ _=>rfl)
 obtain ⟨_,F58,b58⟩:=r58.get ["self","total","place"] (bz3 rfl fun _ _ _ _ _ _ _ _ _=>rfl)
 obtain ⟨_,m59,F59,b59⟩:=r59.get X G ["way","totals"] (bz2 rfl fun _ _ _ _ _ _ _ _=>rfl)
 obtain ⟨_,m60,F60,b60⟩:=r60.get X G ["way","totals"] (bz2 rfl fun _ _ _ _ _ _ _ _=>rfl)
 obtain ⟨_,m61,F61,b61⟩:=r61.get X G ["way","row"] (bz2 rfl fun _ _ _ _ _ _ _ _=>rfl)
 obtain ⟨_,m62,F62,b62⟩:=r62.get X G ["way","row","lender"] (bz3 rfl fun _ _ _ _ _ _ _ _ _=>rfl)
 obtain ⟨_,m63,F63,b63⟩:=r63.get X G ["row","place"] (bz2 rfl fun _ _ _ _ _ _ _ _=>rfl)
 obtain ⟨_,m64,F64,b64⟩:=r64.get X G ["way","row"] (bz2 rfl fun _ _ _ _ _ _ _ _=>rfl)
 obtain ⟨_,m65,F65,b65⟩:=r65.get X G ["way","one","other"] (bz3 rfl fun _ _ _ _ _ _ _ _ _=>rfl)
 obtain ⟨_,m66,F66,b66⟩:=r66.get X G ["_law_e"] (bz1 rfl fun _ _ _ _ _ _ _=>rfl)
 obtain ⟨_,m67,F67,b67⟩:=r67.get X G ["_law_way_here","_law_one","_law_other"] (bz3 rfl fun _ _ _ _ _ _ _ _ _=>rfl)
 obtain ⟨_,m68,F68,b68⟩:=r68.get X G ["_law_kind","_law_by","_law_row"] (bz3 rfl fun _ _ _ _ _ _ _ _ _=>rfl)
 obtain ⟨_,m69,F69,b69⟩:=r69.get X G ["_law_kind","_law_by","_law_way_here","_law_one","_law_other"] (bz5 rfl fun _ _ _ _ _ _ _ _ _ _ _=>rfl)
 obtain ⟨a70,_,_,kV,dc,pm,an,cd,ct,_,l70,c70,k70⟩:=r70
 cases hfa.symm.trans (PySem.W.mg_of X G a70)
 have F70:=mE (st:=sE) l70 c70 k70
 refine ⟨PySem.W.fnOf "law" "law" (defArgs sE) (defBody sE) (defScope sE) .none kV dc pm an cd ct,fun s v=>.of_eq rfl,fun base _ _=>?_⟩
 have G__law_mixed:=DOk.mk' F1 m1 b1 (q9 (P:=l.prog) (w:=w) (base:=base) T F1)
 have G__law_pick:=DOk.mk' F2 m2 b2 (oI T G__law_mixed F2)
 have G__law_cell_at:=DOk.mk' F3 m3 b3 (sN (P:=l.prog) (w:=w) (base:=base) T F3)
 have G__law_span:=DOk.mk' F4 m4 b4 (oH (P:=l.prog) (w:=w) (base:=base) T F4)
 have G__law_figures:=DOk.mk' F5 m5 b5 (sM T G__law_mixed G__law_span F5)
 have G__law_two:=DOk.mk' F6 m6 b6 (n8 T G__law_figures F6)
 have G_is_whole:=DOk.mk' F7 m7 b7 (oM (P:=l.prog) (w:=w) (base:=base) T F7)
 have G_bounded:=DOk.mk' F8 m8 b8 (mf T G_is_whole F8)
 have Pm:KOk l.prog w K mg base 3 "Plain" A.Plain "base" (Kd.ok .plain):=⟨_,_,_,mo PK,⟨QG.mks,P8,r9.1,QG.kc⟩,b9,rP T G_bounded F9⟩
 have Pn:KOk l.prog w K mg base 3 "Below" A.Below "base" (Kd.ok .below):=⟨_,_,_,mo PL,⟨QH.mks,P9,r10.1,QH.kc⟩,b10,rT T G_bounded F10⟩
 have Po:KOk l.prog w K mg base 3 "Balanced" A.Balanced "half" (Kd.ok .balanced):=⟨_,_,_,mo PM,⟨QI.mks,Oa,r11.1,QI.kc⟩,b11,uK T G_bounded F11⟩
 have Pp:KOk l.prog w K mg base 3 "Growing" A.Growing "first" (Kd.ok .growing):=⟨_,_,_,mo PN,⟨QJ.mks,Ob,r12.1,QJ.kc⟩,b12,tI T G_bounded F12⟩
 have Pq:KOk l.prog w K mg base 3 "Falling" A.Falling "most" (Kd.ok .falling):=⟨_,_,_,mo Pc,⟨QK.mks,Oc,r13.1,QK.kc⟩,b13,tK T G_bounded F13⟩
 have Pr:KOk l.prog w K mg base 3 "Pairs" A.Pairs "most" (Kd.ok .pairs):=⟨_,_,_,mo PP,⟨QL.mks,Od,r14.1,QL.kc⟩,b14,rR T G_bounded F14⟩
 have G__law_way:=DOk.mk' F15 m15 b15 (n6 T Pm Pn Po Pp Pq Pr F15)
 have G__law_less:=DOk.mk' F16 m16 b16 (oK (P:=l.prog) (w:=w) (base:=base) T F16)
 have G__law_next:=DOk.mk' F17 m17 b17 (oJ (P:=l.prog) (w:=w) (base:=base) T F17)
 have G__law_number:=DOk.mk' F18 m18 b18 (rN T G__law_next F18)
 have G_has_mosts_above_noughts_alone:=DOk.mk' F19 m19 b19 (yI (P:=l.prog) (w:=w) (base:=base) T F19)
 have O7:=mkr l w base T.QB Oe r20 F20 b20 (xl T F20)
 have O8:=mkr l w base T.QC Of r20 F20 b20 (xl T F20)
 have O9:=mkr l w base T.QD Og r20 F20 b20 (xl T F20)
 have O_:=mkr l w base T.Qq Oh r20 F20 b20 (xl T F20)
 have Na:=mkr l w base T.Qu Oi r20 F20 b20 (xl T F20)
 have Nb:=mkr l w base T.QA Oj r21 F21 b21 (tM T F21)
 have Nc:=mkr l w base T.QB Ol r22 F22 b22 (rQ T F22)
 have Nd:=mkr l w base T.QC Om r23 F23 b23 (rV T F23)
 have Nf:=mkr l w base T.QA On r24 F24 b24 (uL T F24)
 have Ng:=mkr l w base T.QD Oo r25 F25 b25 (tJ T F25)
 have Nh:=mkr l w base T.Qq Op r26 F26 b26 (tL T F26)
 have Ni:=mkr l w base T.Qu Oq r27 F27 b27 (rS T F27)
 have HLo:∀ k:Kd,MOk l.prog w K mg base 1 (A.at k) "low" (xP A k (k.low))∧MOk l.prog w K mg base 1 (A.at k) "high" (xP A k (k.high)):=fun k=>match k with
  | .plain=>⟨O7.imp fun ds Q ⟨n,p,e,_,q⟩=>⟨_,_,e,q⟩,Nc⟩
  | .below=>⟨O8.imp fun ds Q ⟨n,p,e,_,q⟩=>⟨_,_,e,q⟩,Nd⟩
  | .balanced=>⟨Nb,Nf⟩
  | .growing=>⟨O9.imp fun ds Q ⟨n,p,e,_,q⟩=>⟨_,_,e,q⟩,Ng⟩
  | .falling=>⟨O_.imp fun ds Q ⟨n,p,e,_,q⟩=>⟨_,_,e,q⟩,Nh⟩
  | .pairs=>⟨Na.imp fun ds Q ⟨n,p,e,_,q⟩=>⟨_,_,e,q⟩,Ni⟩
 have G_has_figures_alone:=DOk.mk' F28 m28 b28 (wO (P:=l.prog) (w:=w) (base:=base) T HLo F28)
 have G_is_writing:=DOk.mk' F29 m29 b29 (rO T G_has_mosts_above_noughts_alone G_has_figures_alone F29)
 have G_held_to_be_writings:=DOk.mk' F30 m30 b30 (x8 T G_is_writing F30)
 have G_as_pair:=DOk.mk' F31 m31 b31 (mh T G_is_whole F31)
 have G_added:=DOk.mk' F32 m32 b32 (ik T G_is_whole G_as_pair F32)
 have G_thing_at:=DOk.mk' F33 m33 b33 (oF (P:=l.prog) (w:=w) (base:=base) T F33)
 have G_row_plus:=DOk.mk' F34 m34 b34 (oG T G_added G_thing_at F34)
 have G_multiplied:=DOk.mk' F35 m35 b35 (rM T G_is_whole G_as_pair F35)
 have G_row_times:=DOk.mk' F36 m36 b36 (qY T G_multiplied F36)
 have G_held_to_be_a_heap:=DOkX.mk' F37 m37 b37 (wM (P:=l.prog) (w:=w) (base:=base) T F37)
 have G_step_at:=DOk.mk' F38 m38 b38 (n4 (P:=l.prog) (w:=w) (base:=base) T F38)
 have G_how_often:=DOk.mk' F39 m39 b39 (pd (P:=l.prog) (w:=w) (base:=base) T F39)
 have G_changes:=DOk.mk' F40 m40 b40 (md (P:=l.prog) (w:=w) (base:=base) T F40)
 have G_do_steps:=AOk.mk' F41 m41 b41 (oN T G_changes F41)
 have G_trimmed:=FOk.mk' F42 m42 b42 (nZ (P:=l.prog) (w:=w) (base:=base) T F42)
 have G_steps_and_writing:=TOkX.mk' F43 m43 b43 (wL T G_held_to_be_a_heap G_step_at G_how_often G_do_steps G_trimmed F43)
 have G_fallen:=FOkX.mk' F44 m44 b44 (kG T G_steps_and_writing F44)
 have Nj:=mkr l w base T.QB Os r45 F45 b45 (ym T F45)
 have Nk:=mkr l w base T.QC Ot r45 F45 b45 (ym T F45)
 have Nl:=mkr l w base T.QA Ou r45 F45 b45 (ym T F45)
 have Nn:=mkr l w base T.QD Ov r45 F45 b45 (ym T F45)
 have No:=mkr l w base T.Qq Ow r45 F45 b45 (ym T F45)
 have Np:=mkr l w base T.Qu Ox r46 F46 b46 (tH T F46)
 have HNo:∀ k:Kd,MOk l.prog w K mg base 1 (A.at k) "nought" (Rj k):=fun k=>match k with
  | .plain=>Nj | .below=>Nk | .balanced=>Nl | .growing=>Nn | .falling=>No | .pairs=>Np
 have Nq:=mkr l w base T.QB Oy r47 F47 b47 (vy T G_is_whole F47)
 have Nr:=mkr l w base T.QD Oz r47 F47 b47 (vy T G_is_whole F47)
 have Nt:=mkr l w base T.Qq OA r47 F47 b47 (vy T G_is_whole F47)
 have Nu:=mkr l w base T.QC OB r48 F48 b48 (pf T G_is_whole F48)
 have Nv:=mkr l w base T.QA OC r49 F49 b49 (tN T G_is_whole F49)
 have G_is_pair:=DOk.mk' F50 m50 b50 (ma T G_is_whole F50)
 have Nw:=mkr l w base T.Qu OE r51 F51 b51 (pe T G_is_pair F51)
 have HHas:∀ k:Kd,MOk l.prog w K mg base 3 (A.at k) "has" (uZ k):=fun k=>match k with
  | .plain=>Nq.mono (by decide)
  | .below=>Nu.mono (by decide)
  | .balanced=>Nv.mono (by decide)
  | .growing=>(Nr.imp fun ds Q ⟨o,d,m,e,a,q⟩=>⟨o,d,m,e,a,by cases m <;> exact q⟩).mono (by decide)
  | .falling=>(Nt.imp fun ds Q ⟨o,d,m,e,a,q⟩=>⟨o,d,m,e,a,by cases m <;> exact q⟩).mono (by decide)
  | .pairs=>Nw.mono (by decide)
 have Nx:=mkr l w base T.QB OF r52 F52 b52 (sO T F52)
 have Ny:=mkr l w base T.QC OG r53 F53 b53 (sR T F53)
 have Nz:=mkr l w base T.QA OH r54 F54 b54 (vR T F54)
 have NA:=mkr l w base T.QD OI r55 F55 b55 (uJ T F55)
 have NB:=mkr l w base T.Qu OJ r56 F56 b56 (sQ T F56)
 have HR:∀ k:Kd,k.five=true→MOk l.prog w K mg base 1 (A.at k) "ratio" (vJ A k (k.ratN)):=fun k hk=>match k,hk with
  | .plain,_=>Nx
  | .below,_=>Ny
  | .balanced,_=>Nz
  | .growing,_=>NA
  | .pairs,_=>NB
 have NC:=mkr l w base T.QB OK r57 F57 b57 (y3 T HLo HR F57)
 have ND:=mkr l w base T.QC OL r57 F57 b57 (y3 T HLo HR F57)
 have NE:=mkr l w base T.QA OM r57 F57 b57 (y3 T HLo HR F57)
 have NG:=mkr l w base T.QD ON r57 F57 b57 (y3 T HLo HR F57)
 have NH:=mkr l w base T.Qu OO r58 F58 b58 (sP T G_as_pair G_multiplied F58)
 have HSp:∀ k:Kd,k.five=true→MOk l.prog w K mg base 4 (A.at k) "split" (l7 A k):=fun k hk=>match k,hk with
  | .plain,_=>(NC.imp fun ds Q ⟨n,m,j,e,⟨a,em⟩,h1,h2,q⟩=>⟨.plain,n,a,j,by rw [e,em]; rfl,rfl,h1,h2,by rw [em] at q; exact q⟩).mono (by decide)
  | .below,_=>(ND.imp fun ds Q ⟨n,m,j,e,⟨a,em⟩,h1,h2,q⟩=>⟨.below,n,a,j,by rw [e,em]; rfl,rfl,h1,h2,by rw [em] at q; exact q⟩).mono (by decide)
  | .balanced,_=>(NE.imp fun ds Q ⟨n,m,j,e,⟨a,em⟩,h1,h2,q⟩=>⟨.balanced,n,a,j,by rw [e,em]; rfl,rfl,h1,h2,by rw [em] at q; exact q⟩).mono (by decide)
  | .growing,_=>(NG.imp fun ds Q ⟨n,m,j,e,⟨a,em⟩,h1,h2,q⟩=>⟨.growing,n,a,j,by rw [e,em]; rfl,rfl,h1,h2,by rw [em] at q; exact q⟩).mono (by decide)
  | .pairs,_=>(NH.imp fun ds Q ⟨n,m,j,e,_,h1,h2,q⟩=>⟨n,_,m,j,e,yQ m,h1,q⟩).mono (by decide)
 have G_figures_and_carries:=TOkX.mk' F59 m59 b59 (x9 T G_added G_thing_at HNo HHas HSp F59)
 have G_settled:=FOkX.mk' F60 m60 b60 (n5 T G_trimmed G_figures_and_carries F60)
 have G_written_row:=FOkX.mk' F61 m61 b61 (sL T G_fallen G_settled F61)
 have G_lend:=AOk.mk' F62 m62 b62 (cv (P:=l.prog) (w:=w) (base:=base) T F62)
 have G_lender_above:=DOkX.mk' F63 m63 b63 (tG (P:=l.prog) (w:=w) (base:=base) T F63)
 have G_without_debts:=FOkX.mk' F64 m64 b64 (uI T G_lend G_lender_above F64)
 have G_minus:=FOkX.mk' F65 m65 b65 (ij T G_held_to_be_writings G_row_plus G_row_times G_written_row G_without_debts F65)
 have G__law_names:=DOk.mk' F66 m66 b66 (q8 (P:=l.prog) (w:=w) (base:=base) T F66)
 have G__law_end:=TOk.mk' F67 m67 b67 (n_ T G_minus G__law_names F67)
 have G__law_legal:=DOk.mk' F68 m68 b68 (q_ T G__law_span F68)
 have G__law_right:=DOk.mk' F69 m69 b69 (qZ T G__law_less G__law_number G__law_end G__law_legal F69)
 exact Xj T G__law_pick G__law_cell_at G__law_two G__law_way G__law_right G__law_end F70
theorem walk {l:PySem.W.OpenLaw} {q:Program} {loose:List Str} {XP:(Str→Option Value)→Heap→Prop} {YP:World→Heap→Prop} {d:DefRec} {K:Params→PySem.W.Frag} (hn:l.most=some 63) (hdf:d.params.defaults=[])
  (hY:∀ (w:World) (h:Heap),YP w h→(K w.params).In h)
  (F:∀ (w:World) (mg:Str→Option Value) (fa:Addr) (h:Heap),(K w.params).In h→h.Ns mainGlobals mg→mg d.name=some (.ref fa)→
   ∃ fd:FuncData,(∀ (s:Shared) (u:Value),BindsTo s fd ⟨[u],[]⟩ [("_law_script",u)])∧∀ base:Heap,(K w.params).In base→base.Ns mainGlobals mg→FnOk l.prog w (K w.params) mg base CX0 11 fa fd ["_law_script"] (zr (K w.params) (kd))):
  PySem.W.WalkO q loose XP YP l.row.toRowW d [] (fun f vs=>PySem.call f vs):=
 L2.walk_of (n:=63) (k:=11) (x:="_law_script") (CX:=fun _=>CX0) (sp:=fun w=>zr (K w.params) (kd)) hn (by decide) hdf ⟨rfl,by decide,by decide⟩ hY F (fun w H a ns hl _ hS=>⟨⟨H,H,Same.refl H⟩,[.scr ns],fun d=>d=.bl true,rfl,allIs_cons.mpr ⟨_,_,rfl,is_scr.mpr ⟨a,rfl,hS⟩,allIs_nil.mpr rfl⟩,⟨ns,rfl,hl,rfl⟩,fun d v W' _ i e=>by subst e; exact is_bl.mp i⟩) fun _ _ _ _ _ z=>z
end My
local macro_rules | `(tactic| walk_at "fx") => `(tactic| (refine' My.FX.mk ?l ?c ?k; (case l => k_is); (case c => k_is); (case k => k_is)))
local macro_rules | `(tactic| walk_at "kk") => `(tactic| first | k_is | kit_is | kts_exm | (delta L2.ExcK; k_exc) | (delta My.Fi; k_is) | (delta My.Zn; k_is) | (delta My.Gc; k_is) | (delta My.Ki; kit_is) | (delta My.FD; refine ⟨?a, ?b⟩; (case a => k_is); (case b => walk_at "fx")) | (delta My.FM; refine ⟨?a, ?b⟩; (case a => k_is); (case b => walk_at "fx")) | (refine ⟨⟨?_, ?_, ?_, ?_⟩, ?_, ?_, ?_⟩ <;> k_is) | (refine ⟨?_, ?_, ?_, ?_, ?_, ?_, ?_⟩ <;> k_is) | (refine ⟨?_, ?_⟩ <;> k_is))
open PySem PySem.W PyProof.Rows
set_option maxRecDepth 100000 in
set_option maxHeartbeats 0 in
theorem PySem.Challenge.cw_oddbases_k32_differences_holds : PySem.Challenge.rw_oddbases_k32_differences.Holds := by
 w_on; o_law
 refine holds_open (q:=My.h_view_39) (loose:=[]) (Xt:=(fun s=>xlAt My.h_view_39 [] s && recOk (RowW.records (OpenRow.toRowW PySem.Challenge.rw_oddbases_k32_differences.row)) s)) (XP:=XL My.h_view_39 []) (Yf:=Hook.obs (kHook My.h_heap_39 My.myAs My.myE)) (Ya:=Hook.val (kHook My.h_heap_39 My.myAs My.myE)) (YP:=Hook.says (kHook My.h_heap_39 My.myAs My.myE)) (N:=13522) My.left (Hook.of _) (Hook.keeps _) (fun s e=>xl_of s (Bool.and_eq_true_iff.mp e).1) XL.keeps (by rfl) (by rfl) (by rfl) (fun s e=>recFacts_of (Bool.and_eq_true_iff.mp e).2) (by rfl) (by first | assumption | decide +kernel) (by decide +kernel) ⟨rfl,rfl,rfl,rfl,rfl,by decide +kernel⟩ ?hw ?hc
 case hw=>w_witness2
 k_fill
 refine My.walk (l:=PySem.Challenge.rw_oddbases_k32_differences) rfl rfl (fun w h Y=>PySem.W.kIn_of Y) ?F
 case F=>
  intro w mg fa h KX G hmg
  refine' My.all_mk KX G hmg ?PK ?PL ?PM ?PN ?Pc ?PP ?PQ ?PR ?PU ?PV ?PX ?PY ?PZ ?P0 ?P3 ?P4 ?P5 ?P6 ?P7 ?r1 ?r2 ?r3 ?r4 ?r5 ?r6 ?r7 ?r8 ?P8 ?r9 ?P9 ?r10 ?Oa ?r11 ?Ob ?r12 ?Oc ?r13 ?Od ?r14 ?r15 ?r16 ?r17 ?r18 ?r19 ?Oe ?Of ?Og ?Oh ?Oi ?r20 ?Oj ?r21 ?Ol ?r22 ?Om ?r23 ?On ?r24 ?Oo ?r25 ?Op ?r26 ?Oq ?r27 ?r28 ?r29 ?r30 ?r31 ?r32 ?r33 ?r34 ?r35 ?r36 ?r37 ?r38 ?r39 ?r40 ?r41 ?r42 ?r43 ?r44 ?Os ?Ot ?Ou ?Ov ?Ow ?r45 ?Ox ?r46 ?Oy ?Oz ?OA ?r47 ?OB ?r48 ?OC ?r49 ?r50 ?OE ?r51 ?OF ?r52 ?OG ?r53 ?OH ?r54 ?OI ?r55 ?OJ ?r56 ?OK ?OL ?OM ?ON ?r57 ?OO ?r58 ?r59 ?r60 ?r61 ?r62 ?r63 ?r64 ?r65 ?r66 ?r67 ?r68 ?r69 ?r70 ?QG ?QH ?QI ?QJ ?QK ?QL ?Pd ?QO ?Pe ?QP ?Pf ?QQ ?Pg ?QR ?Ph ?QM ?Pi ?QS ?in_ ?it_ ?QF ?Qr ?QT ?Pa ?QU ?QV ?QW ?QX ?QY ?QZ ?Q0 ?Q2 ?Q3 ?Q4 ?Q5 ?Q6 ?Q7 ?z_isinstance ?z_int ?z_bool ?z_tuple ?z_list ?z_len ?z_range ?z_enumerate ?z_min ?z_max ?z_ValueError
  case PK | PL | PM | PN | Pc | PP | PQ | PR | PU | PV | PX | PY | PZ | P0 | P3 | P4 | P5 | P6 | P7 | r1 | r2 | r3 | r4 | r5 | r6 | r7 | r8 | P8 | r9 | P9 | r10 | Oa | r11 | Ob | r12 | Oc | r13 | Od | r14 | r15 | r16 | r17 | r18 | r19 | Oe | Of | Og | Oh | Oi | r20 | Oj | r21 | Ol | r22 | Om | r23 | On | r24 | Oo | r25 | Op | r26 | Oq | r27 | r28 | r29 | r30 | r31 | r32 | r33 | r34 | r35 | r36 | r37 | r38 | r39 | r40 | r41 | r42 | r43 | r44 | Os | Ot | Ou | Ov | Ow | r45 | Ox | r46 | Oy | Oz | OA | r47 | OB | r48 | OC | r49 | r50 | OE | r51 | OF | r52 | OG | r53 | OH | r54 | OI | r55 | OJ | r56 | OK | OL | OM | ON | r57 | OO | r58 | r59 | r60 | r61 | r62 | r63 | r64 | r65 | r66 | r67 | r68 | r69 | r70 | QG | QH | QI | QJ | QK | QL | Pd | QO | Pe | QP | Pf | QQ | Pg | QR | Ph | QM | Pi | QS | in_ | it_ | QF | Qr | QT | Pa | QU | QV | QW | QX | QY | QZ | Q0 | Q2 | Q3 | Q4 | Q5 | Q6 | Q7 | z_isinstance | z_int | z_bool | z_tuple | z_list | z_len | z_range | z_enumerate | z_min | z_max | z_ValueError=>walk_at "kk"
